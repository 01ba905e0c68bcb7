import PyProof.Rows.All
import Wide.All
import OpenK.AllK
import Wide.FinOn
import HandS.Base
import HandS.Call
import HandS.List
import HandS.Comp
import HandS.Ends
import HandS.Dict
import HandS.Iter
import HandS.Text
import HandS.Words
import HandS.WordsList
import HandS.Conv
import HandS.Codes
import HandS.IsInst
import HandS.Replace
import HandS.StrMore
import HandS.TupAny
import HandS.WideBits
import HandS.FStr
import PySem.Challenge.RW_criermoot_k01_names
set_option Elab.async false
set_option linter.all false
set_option maxRecDepth 100000
namespace Z
open PySem L2

/-! ### heaps -/
/-- all that was tracked is as it was, but for what stands at s -/
def Ext (s : Addr) (H H' : Hp) : Prop := ∀ b o, b ≠ s → H b = some o → H' b = some o
theorem Ext.refl (s : Addr) (H : Hp) : Ext s H H := fun _ _ _ h => h
theorem Ext.trans {s : Addr} {H H1 H2 : Hp} (a : Ext s H H1) (b : Ext s H1 H2) : Ext s H H2 := fun c o n h => b c o n (a c o n h)
theorem Ext.of {s : Addr} {H H' : Hp} (a : Same H H') : Ext s H H' := fun c o _ h => a c o h
theorem Ext.new {s p : Addr} {H : Hp} {o : HO} (n : H p = none) : Ext s H (upd H p o) := fun b u _ h => by
  rw [upd_ne (ne_of_none h n)]; exact h
theorem Ext.put {s : Addr} {H : Hp} {o : HO} : Ext s H (upd H s o) := fun b u n h => by
  rw [upd_ne n]; exact h
theorem same_new {p : Addr} {H : Hp} {o : HO} (n : H p = none) : Same H (upd H p o) := fun b u h => by
  rw [upd_ne (ne_of_none h n)]; exact h
theorem Ext.seqT {K : PySem.W.Frag} {s a : Addr} {H H' : Hp} {xs ys : List V} (x : Ext s H H') (hs : H s = some (.lst ys)) (h : SqT K H a xs) : SqT K H' a xs := by
  rcases h with (h | ⟨o, h⟩) | h
  · exact .inl (.inl (x _ _ (fun e => by rw [e, hs] at h; cases h) h))
  · exact .inl (.inr ⟨o, x _ _ (fun e => by rw [e, hs] at h; cases h) h⟩)
  · exact .inr h
theorem Ext.seqL {K : PySem.W.Frag} {s a : Addr} {H H' : Hp} {xs : List V} (x : Ext s H H') (n : a ≠ s) (h : SqL K H a xs) : SqL K H' a xs := by
  rcases h with (h | ⟨o, h⟩) | h
  · exact .inl (.inl (x _ _ n h))
  · exact .inl (.inr ⟨o, x _ _ n h⟩)
  · exact .inr h

theorem and_nn {x : Int} (hx : 0 ≤ x) (k : Nat) : 0 ≤ Builtin.bitAnd x (1 * 2 ^ k - 1) := by
  rw [Int.one_mul, Bits.bitAnd_mask k hx]
  exact Int.emod_nonneg _ (Int.ne_of_gt (Int.pow_pos (by decide)))
/-! ### the source of draws -/
def Src (H : Hp) (s a : Addr) (c : Nat) : Prop := ∃ (ns : List Int) (i b e t : Int),
  H s = some (.lst [.ref a, .int i, .int b, .int e, .int t]) ∧ H a = some (.lst (ns.map V.int)) ∧ a ≠ s ∧ ns.length ≤ 63 ∧ 0 ≤ i ∧ i ≤ 63 ∧ 0 ≤ b ∧ 0 ≤ e ∧ e < 2147483647 ∧ 0 ≤ t ∧ t + c < 4000000000000000000
theorem Src.lst {H : Hp} {s a : Addr} {c : Nat} (h : Src H s a c) : ∃ xs, H s = some (.lst xs) := by
  obtain ⟨_, _, _, _, _, h, _⟩ := h; exact ⟨_, h⟩
theorem Src.mono {H : Hp} {s a : Addr} {c d : Nat} (h : Src H s a c) (l : d ≤ c) : Src H s a d := by
  obtain ⟨ns, i, b, e, t, h1, h2, h3, h4, h5, h6, h7, h8, h9, h10, h11⟩ := h
  exact ⟨ns, i, b, e, t, h1, h2, h3, h4, h5, h6, h7, h8, h9, h10, by omega⟩
theorem Src.ext {H H' : Hp} {s a : Addr} {c : Nat} (h : Src H s a c) (x : Same H H') : Src H' s a c := by
  obtain ⟨ns, i, b, e, t, h1, h2, h3⟩ := h
  exact ⟨ns, i, b, e, t, x _ _ h1, x _ _ h2, h3⟩
theorem Src.new {H : Hp} {s a p : Addr} {o : HO} {c : Nat} (h : Src H s a c) (n : H p = none) : Src (upd H p o) s a c := h.ext (same_new n)
theorem Src.ne {H : Hp} {s a p : Addr} {c : Nat} (h : Src H s a c) (n : H p = none) : p ≠ s := by
  obtain ⟨xs, e⟩ := h.lst
  exact (ne_of_none e n).symm
theorem Src.nea {H : Hp} {s a p : Addr} {c : Nat} (h : Src H s a c) (n : H p = none) : p ≠ a := by
  obtain ⟨ns, i, b, e, t, h1, h2, h3⟩ := h
  exact (ne_of_none h2 n).symm
theorem Src.put {H : Hp} {s a p : Addr} {o : HO} {c : Nat} (h : Src H s a c) (n : p ≠ s) (m : p ≠ a) : Src (upd H p o) s a c := by
  obtain ⟨ns, i, b, e', t, h1, h2, h3⟩ := h
  exact ⟨ns, i, b, e', t, by rw [upd_ne n.symm]; exact h1, by rw [upd_ne m.symm]; exact h2, h3⟩

/-! ### defs and their callers -/
section
variable (P : Program) (w : World) (K : PySem.W.Frag) (mg : Str → Option Value) (base : Heap)
/-- a def as callers use it -/
def Cal (x : Str) (ps : List Str) (k : Nat) (sp : Sp) : Prop := ∃ (f : Addr) (fd : FuncData), FnOk P w K mg base CX0 k f fd ps sp ∧ mg x = some (.ref f) ∧ PySem.W.keepIn K (.ref f) = true ∧ Binds K fd ps []
/-- a def as the top has left it -/
def Df (x : Str) (st : Stmt) (ps : List Str) : Prop := ∃ (f : Addr) (fd : FuncData), Fun K x x st f fd ∧ mg x = some (.ref f) ∧ Binds K fd ps []
end
theorem Cal.mono {P : Program} {w : World} {K : PySem.W.Frag} {mg : Str → Option Value} {base : Heap} {x : Str} {ps : List Str} {j k : Nat} {sp : Sp} (C : Cal P w K mg base x ps j sp) (h : j ≤ k) : Cal P w K mg base x ps k sp := by
  obtain ⟨f, fd, G, g, kp, b⟩ := C
  exact ⟨f, fd, G.mono h, g, kp, b⟩

/-! ### the promises of the drawing defs -/
def sp__law_mix : Sp := fun vs H Q _ => ∃ (x y : Int), vs = [.int x, .int y] ∧ 0 ≤ x ∧ x < 9000000000000000000 ∧ 0 ≤ y ∧ y < 9000000000000000000 ∧ ∀ v : Int, 0 ≤ v → v < 2147483647 → Q (.int v) H
def sp__law_source (K : PySem.W.Frag) : Sp := fun vs H Q _ => ∃ (a : Addr) (ns : List Int), vs = [.ref a] ∧ SqL K H a (ns.map V.int) ∧ ns.length ≤ 63 ∧ ∀ (s b : Addr) (H' : Hp), H s = none → Same H H' → Src H' s b 3000000000000000000 → Q (.ref s) H'
def sp__law_draw : Sp := fun vs H Q _ => ∃ (s a : Addr) (m : Int) (c : Nat), vs = [.ref s, .int m] ∧ 0 < m ∧ m < 1073741824 ∧ Src H s a (c + 1) ∧ ∀ (v : Int) (H' : Hp), 0 ≤ v → v < m → Ext s H H' → Src H' s a c → Q (.int v) H'

/-! ### data -/
inductive D where
  | non | bl (b : Bool) | int (i : Int) | str (x : Str) | tup (xs : List D)
mutual
def DV (K : PySem.W.Frag) (H : Hp) : D → V → Prop
  | .non, v => v = .non
  | .bl b, v => v = .bl b
  | .int i, v => v = .int i
  | .str x, v => v = .str x
  | .tup ds, v => ∃ a vs, v = .ref a ∧ SqT K H a vs ∧ DVs K H ds vs
def DVs (K : PySem.W.Frag) (H : Hp) : List D → List V → Prop
  | [], vs => vs = []
  | d :: ds, vs => ∃ v r, vs = v :: r ∧ DV K H d v ∧ DVs K H ds r
end
mutual
theorem DV.ext {K : PySem.W.Frag} {H H' : Hp} (x : ∀ a xs, SqT K H a xs → SqT K H' a xs) : ∀ {d : D} {v : V}, DV K H d v → DV K H' d v
  | .non, _, h => by unfold DV at *; exact h
  | .bl _, _, h => by unfold DV at *; exact h
  | .int _, _, h => by unfold DV at *; exact h
  | .str _, _, h => by unfold DV at *; exact h
  | .tup ds, v, h => by
    unfold DV at *
    obtain ⟨a, vs, e, q, r⟩ := h
    exact ⟨a, vs, e, x _ _ q, DVs.ext x r⟩
theorem DVs.ext {K : PySem.W.Frag} {H H' : Hp} (x : ∀ a xs, SqT K H a xs → SqT K H' a xs) : ∀ {ds : List D} {vs : List V}, DVs K H ds vs → DVs K H' ds vs
  | [], _, h => by unfold DVs at *; exact h
  | d :: ds, vs, h => by
    unfold DVs at *
    obtain ⟨v, r, e, q, t⟩ := h
    exact ⟨v, r, e, DV.ext x q, DVs.ext x t⟩
end
theorem DVs.len {K : PySem.W.Frag} {H : Hp} : ∀ {ds : List D} {vs : List V}, DVs K H ds vs → vs.length = ds.length
  | [], _, h => by unfold DVs at h; subst h; rfl
  | d :: ds, vs, h => by
    unfold DVs at h
    obtain ⟨v, r, e, q, t⟩ := h
    rw [e, List.length_cons, List.length_cons, DVs.len t]
theorem DVs.get {K : PySem.W.Frag} {H : Hp} : ∀ {ds : List D} {vs : List V} {i : Nat} {d : D}, DVs K H ds vs → ds[i]? = some d → ∃ v, vs[i]? = some v ∧ DV K H d v
  | [], _, i, d, h, e => by simp at e
  | x :: ds, vs, i, d, h, e => by
    unfold DVs at h
    obtain ⟨v, r, e1, q, t⟩ := h
    subst e1
    cases i with
    | zero =>
      have : x = d := by simpa using e
      subst this
      exact ⟨v, rfl, q⟩
    | succ i => exact DVs.get (i := i) t (by simpa using e)
theorem DVs.strs {K : PySem.W.Frag} {H : Hp} : ∀ (xs : List Str), DVs K H (xs.map D.str) (xs.map V.str)
  | [] => by unfold DVs; rfl
  | x :: xs => by
    unfold DVs
    exact ⟨_, _, rfl, by unfold DV; rfl, DVs.strs xs⟩
theorem DVs.ints {K : PySem.W.Frag} {H : Hp} : ∀ (xs : List Int), DVs K H (xs.map D.int) (xs.map V.int)
  | [] => by unfold DVs; rfl
  | x :: xs => by
    unfold DVs
    exact ⟨_, _, rfl, by unfold DV; rfl, DVs.ints xs⟩
/-- tuples lie within fewer than n others -/
def DL : Nat → D → Prop
  | 0, _ => False
  | n + 1, .tup xs => xs.length ≤ 1000000 ∧ ∀ x ∈ xs, DL n x
  | _ + 1, _ => True
theorem TyX.ofT {K : PySem.W.Frag} {H : Hp} {a : Addr} {xs : List V} (h : SqT K H a xs) : TyX K H (.ref a) (.type "tuple") := by
  rcases h with (h | ⟨o, h⟩) | ⟨o, _, _, e, c, _⟩
  · exact .base (.tup h)
  · exact .fTuple h
  · exact .kTuple e c
def sp__law_is_int (K : PySem.W.Frag) : Sp := fun vs H Q _ => ∃ i : Int, vs = [.int i] ∧ Q (.bl true) H
/-- of two values with the same data it tells True -/
def sp__law_same (K : PySem.W.Frag) (n : Nat) : Sp := fun vs H Q _ => ∃ (d : D) (v u : V), vs = [v, u] ∧ DV K H d v ∧ DV K H d u ∧ DL n d ∧ Q (.bl true) H

/-! ### texts by their signs -/
open SX (S S_cat S_len S_inj)
theorem S_lst (l : List Nat) : (S l).cps.toList = l := rfl
theorem S_of (x : Str) : x = S x.cps.toList := (SX.S_tl x).symm
theorem S_app (a b : List Nat) : S a ++ S b = S (a ++ b) := S_cat a b
/-- a for over the signs of a text -/
theorem for_str {l : List Nat} {g : TG} {tb : TS} {D : Ends} {σ : St} {H : Hp} (Pv : Nat → St → Hp → Prop) (h0 : Pv 0 σ H)
    (hs : ∀ i c σ H, l[i]? = some c → Pv i σ H → g (.str (S [c])) σ H fun σ2 H2 => tb { D with nx := Pv (i + 1), ct := Pv (i + 1), bk := D.nx } σ2 H2) (hd : ∀ σ H, Pv l.length σ H → D.nx σ H) :
    ∃ W : Nat → Nat → St → Hp → Prop, (∃ m, W 0 m σ H) ∧ ∀ i m σ H, W i m σ H →
      ((Its (S l)).stop i H ∧ D.nx σ H) ∨ ((Its (S l)).go i H ∧ ∃ N : St → Hp → Prop, (∀ σ' H', N σ' H' → ∃ m', m' < m ∧ W (i + 1) m' σ' H') ∧ ∀ x H', (Its (S l)).yld i H x H' → g x σ H' fun σ2 H2 => tb { D with nx := N, ct := N, bk := D.nx } σ2 H2) := by
  refine ⟨fun i m σ H => m = l.length - i ∧ i ≤ l.length ∧ Pv i σ H, ⟨l.length, by simp, Nat.zero_le _, h0⟩, ?_⟩
  rintro i m σ H ⟨rfl, hi, p⟩
  by_cases hlt : i < l.length
  · refine .inr ⟨by show i < l.toArray.size; simpa using hlt, Pv (i + 1), fun σ' H' p' => ⟨l.length - (i + 1), by omega, rfl, hlt, p'⟩, fun x H' y => ?_⟩
    obtain ⟨e, c, hc, y⟩ := y
    subst e y
    exact hs i c σ _ (by simpa using hc) p
  · have e : i = l.length := by omega
    subst e
    exact .inl ⟨by show l.toArray.size ≤ l.length; simp, hd σ H p⟩
/-- a comprehension over the signs of a text -/
theorem lc_str {l : List Nat} {g : TG} {tt : TT} {te : TE} {vs : List Nat} {σ : St} {H1 : Hp} {D : Addr} {Qd : Hp → Prop} (Pv : Nat → Hp → Prop) (h0 : Pv 0 (upd H1 D (.lst [])))
    (hs : ∀ i c H, l[i]? = some c → Pv i H → g (.str (S [c])) (wipe σ vs) H fun σ2 H2 => wipe σ2 vs = wipe σ vs ∧ tt σ2 H2 fun b H3 =>
      if b = true then te σ2 H3 fun y H4 => ∃ acc, H4 D = some (.lst acc) ∧ acc.length < sizeLine ∧ Pv (i + 1) (upd H4 D (.lst (acc ++ [y]))) else Pv (i + 1) H3) (hd : ∀ H, Pv l.length H → Qd H) :
    ∃ W : Nat → Nat → Hp → Prop, (∃ m, W 0 m (upd H1 D (.lst []))) ∧ ∀ i m H, W i m H →
      ((Its (S l)).stop i H ∧ Qd H) ∨ ((Its (S l)).go i H ∧ ∃ Nx : Hp → Prop, (∀ H', Nx H' → ∃ m', m' < m ∧ W (i + 1) m' H') ∧ ∀ x H', (Its (S l)).yld i H x H' → g x (wipe σ vs) H' fun σ2 H2 => wipe σ2 vs = wipe σ vs ∧ tt σ2 H2 fun b H3 =>
        if b = true then te σ2 H3 fun y H4 => ∃ acc, H4 D = some (.lst acc) ∧ acc.length < sizeLine ∧ Nx (upd H4 D (.lst (acc ++ [y]))) else Nx H3) := by
  refine ⟨fun i m H => m = l.length - i ∧ i ≤ l.length ∧ Pv i H, ⟨l.length, by simp, Nat.zero_le _, h0⟩, ?_⟩
  rintro i m H ⟨rfl, hi, p⟩
  by_cases hlt : i < l.length
  · refine .inr ⟨by show i < l.toArray.size; simpa using hlt, Pv (i + 1), fun H' p' => ⟨l.length - (i + 1), by omega, rfl, hlt, p'⟩, fun x H' y => ?_⟩
    obtain ⟨e, c, hc, y⟩ := y
    subst e y
    exact hs i c _ (by simpa using hc) p
  · have e : i = l.length := by omega
    subst e
    exact .inl ⟨by show l.toArray.size ≤ l.length; simp, hd H p⟩
/-- signs of rows -/
def Asc (l : List Nat) : Prop := ∀ x ∈ l, 32 ≤ x ∧ x ≤ 126
theorem Asc.nil : Asc [] := fun _ h => nomatch h
theorem Asc.app {a b : List Nat} (x : Asc a) (y : Asc b) : Asc (a ++ b) := fun c h => (List.mem_append.mp h).elim (x c) (y c)
theorem Asc.by_ {l : List Nat} (h : l.all (fun x => decide (32 ≤ x) && decide (x ≤ 126)) = true) : Asc l := fun x m => by
  have := List.all_eq_true.mp h x m
  simp at this
  exact this
theorem Asc.all128 {l : List Nat} (h : Asc l) : l.all (· < 128) = true := List.all_eq_true.mpr fun x m => decide_eq_true (by have := h x m; omega)
theorem joinNil : ∀ ls : List (List Nat), TL.joinL [] ls = ls.flatten
  | [] => rfl
  | [x] => by simp [TL.joinL]
  | x :: y :: r => by
    have := joinNil (y :: r)
    simp only [TL.joinL] at *
    rw [List.flatten_cons, ← this]
    simp [TL.joinL]
theorem join_nil (ls : List (List Nat)) : Txt.join (S []) (ls.map S) = S ls.flatten := by
  rw [SX.join_S, joinNil]

/-! ### texts, further -/
abbrev tl (x : Str) : List Nat := x.cps.toList
theorem tl_S (l : List Nat) : tl (S l) = l := rfl
theorem S_tl (x : Str) : S (tl x) = x := rfl
theorem tl_app (x y : Str) : tl (x ++ y) = tl x ++ tl y := TL.tl_append x y
theorem tl_len (x : Str) : x.length = (tl x).length := by show x.cps.size = x.cps.toList.length; simp
theorem tl_ext {x y : Str} (h : tl x = tl y) : x = y := TL.ext_tl h
theorem at_str {x : Str} {i : Int} (h0 : 0 ≤ i) (h1 : i < (x.length : Int)) : ∃ c, x.cps[i.toNat]? = some c ∧ (tl x)[i.toNat]? = some c ∧ c ∈ tl x := by
  have h : i.toNat < (tl x).length := by rw [← tl_len]; omega
  refine ⟨(tl x)[i.toNat], ?_, List.getElem?_eq_getElem h, List.getElem_mem h⟩
  have := List.getElem?_eq_getElem h
  rw [← this]; simp [tl]
/-- small letters and digits -/
def Low (l : List Nat) : Prop := ∀ x ∈ l, (97 ≤ x ∧ x ≤ 122) ∨ (48 ≤ x ∧ x ≤ 57)
theorem Low.nil : Low [] := fun _ h => nomatch h
theorem Low.app {a b : List Nat} (x : Low a) (y : Low b) : Low (a ++ b) := fun c h => (List.mem_append.mp h).elim (x c) (y c)
theorem Low.asc {a : List Nat} (x : Low a) : Asc a := fun c h => by have := x c h; omega
theorem low_num (n : Nat) : Low (TL.numL n) := fun c h => .inr (by have := TL.numL_digits n c h; omega)
theorem num_len : ∀ n : Nat, (TL.numL n).length ≤ n + 1 := fun n => by
  induction n using Nat.strongRecOn with
  | ind n ih =>
    by_cases h : n < 10
    · rw [TL.numL_lt h]; simp
    · rw [TL.numL_step (by omega), List.length_append]
      have := ih (n / 10) (by omega)
      simp; omega
/-- a name: a letter, then letters and digits -/
def Nm (l : List Nat) : Prop := (∃ c r, l = c :: r ∧ 97 ≤ c ∧ c ≤ 122) ∧ Low l
theorem Nm.app {a b : List Nat} (x : Nm a) (y : Low b) : Nm (a ++ b) := by
  obtain ⟨⟨c, r, e, h⟩, l⟩ := x
  exact ⟨⟨c, r ++ b, by rw [e]; rfl, h⟩, l.app y⟩
theorem flat_strs (xs : List Str) : (xs.map V.str).all flatV = true := List.all_eq_true.mpr fun x h => by
  obtain ⟨y, _, rfl⟩ := List.mem_map.mp h; rfl
theorem inV_strs (x : Str) (xs : List Str) : inV (V.str x) (xs.map V.str) = decide (x ∈ xs) := by
  unfold inV
  induction xs with
  | nil => rfl
  | cons y ys ih =>
    rw [List.map_cons, List.any_cons, ih]
    by_cases e : x = y
    · subst e; simp [eqV]
    · have : ¬ y = x := fun h => e h.symm
      simp [eqV, e, this]
def sp__law_new_name (K : PySem.W.Frag) : Sp := fun vs H Q _ => ∃ (s a u : Addr) (us : List Str) (c : Nat), vs = [.ref s, .ref u] ∧ SqL K H u (us.map V.str) ∧ u ≠ s ∧ us.length ≤ 60 ∧ Src H s a (c + 8) ∧
  ∀ (x : Str) (H' : Hp), Nm (tl x) → (tl x).length ≤ 70 → Ext s H H' → Src H' s a c → Q (.str x) H'
def sp__law_names (K : PySem.W.Frag) : Sp := fun vs H Q _ => ∃ (s a : Addr) (m c : Nat), vs = [.ref s, .int m] ∧ m ≤ 60 ∧ Src H s a (c + 8 * m) ∧
  ∀ (u : Addr) (us : List Str) (H' : Hp), H u = none → H' u = some (.lst (us.map V.str)) → us.length = m → (∀ x ∈ us, Nm (tl x) ∧ (tl x).length ≤ 70) → Ext s H H' → Src H' s a c → Q (.ref u) H'
def sp__law_row : Sp := fun vs H Q _ => ∃ (s a : Addr) (m : Int) (c : Nat), vs = [.ref s, .int m] ∧ 0 ≤ m ∧ m ≤ 1000 ∧ Src H s a (c + m.toNat) ∧
  ∀ (x : Str) (H' : Hp), Asc (tl x) → (tl x).length = m.toNat → Ext s H H' → Src H' s a c → Q (.str x) H'

/-! ### rules that name the written part themselves (for the blocks of comprehensions) -/
section
variable {X : Cx} {K : PySem.W.Frag}
/-- len of a text -/
theorem call_lenS : CallR X (.builtin "len") (fun xs H Q => ∃ x : Str, xs = [.str x] ∧ x.length ≤ sizeLine ∧ Q (.int x.length) H) := by
  intro pins s σ H xs us Q I r h
  obtain ⟨x, e, hl, q⟩ := h
  exact call_len pins s σ H xs us Q I r ⟨.str x, x.length, e, ⟨hl, rfl⟩, q⟩
theorem call_lenQ (h : X.K = K) : CallR X (.builtin "len") (fun xs H Q => ∃ p ys, xs = [.ref p] ∧ (SqL K H p ys ∨ SqT K H p ys) ∧ Q (.int ys.length) H) := by
  subst h; exact call_len_seq
theorem ix_listQ (h : X.K = K) : IxR X (rIxL K) := by subst h; exact ix_list
theorem ix_tupQ (h : X.K = K) : IxR X (rIxT K) := by subst h; exact ix_tup
theorem in_seqQ (h : X.K = K) : OpR X (compareOp .In) (rIn K false) := by subst h; exact op_in_seq
theorem notIn_seqQ (h : X.K = K) : OpR X (compareOp .NotIn) (rIn K true) := by subst h; exact op_notIn_seq
theorem isiQ (h : X.K = K) : CallR X (.builtin "isinstance") (rIsi K) := by subst h; exact call_isi
end

/-- texts of one sign each -/
def Ones (p : Nat → Prop) (xs : List Str) : Prop := ∀ x ∈ xs, ∃ c, tl x = [c] ∧ p c
theorem Ones.tail {p : Nat → Prop} {x : Str} {xs : List Str} (h : Ones p (x :: xs)) : Ones p xs := fun y m => h y (List.mem_cons_of_mem _ m)
theorem ones_len {p : Nat → Prop} : ∀ {xs : List Str}, (∀ x ∈ xs, ∃ c, tl x = [c] ∧ p c) → (xs.map (·.length)).sum = xs.length
  | [], _ => rfl
  | x :: xs, h => by
    obtain ⟨c, e, _⟩ := h x List.mem_cons_self
    have : x.length = 1 := by rw [tl_len, e]; rfl
    rw [List.map_cons, List.sum_cons, ones_len (Ones.tail h), List.length_cons, this]
    omega
/-- their only signs -/
def heads (xs : List Str) : List Nat := xs.map fun x => (tl x).headD 0
theorem tl_join0 (xs : List Str) : tl (Txt.join (S []) xs) = (xs.map tl).flatten := by
  have e : xs = (xs.map tl).map S := by rw [List.map_map]; exact (List.map_id _).symm
  have h := join_nil (xs.map tl)
  rw [← e] at h
  show tl (Txt.join (S []) xs) = _
  rw [h]
theorem ones_join {p : Nat → Prop} {xs : List Str} (h : ∀ x ∈ xs, ∃ c, tl x = [c] ∧ p c) : tl (Txt.join (S []) xs) = heads xs := by
  rw [tl_join0]
  induction xs with
  | nil => rfl
  | cons x xs ih =>
    obtain ⟨c, e, _⟩ := h x List.mem_cons_self
    rw [List.map_cons, List.flatten_cons, ih (Ones.tail h), e]
    show c :: heads xs = (tl x).headD 0 :: heads xs
    rw [e]; rfl
theorem ones_all {p : Nat → Prop} {xs : List Str} (h : ∀ x ∈ xs, ∃ c, tl x = [c] ∧ p c) : ∀ c ∈ heads xs, p c := fun c m => by
  obtain ⟨x, hx, e⟩ := List.mem_map.mp m
  obtain ⟨d, e2, hd⟩ := h x hx
  rw [e2] at e
  have : d = c := e
  rw [← this]; exact hd
theorem str0 : Str.ofString "" = S [] := rfl
theorem ones_room {p : Nat → Prop} {xs : List Str} (h : ∀ x ∈ xs, ∃ c, tl x = [c] ∧ p c) : (xs.map (·.length)).sum + xs.length * (Str.ofString "").length = xs.length := by
  rw [ones_len h]; show xs.length + xs.length * 0 = xs.length; omega
theorem ones_joinE {p : Nat → Prop} {xs : List Str} (h : ∀ x ∈ xs, ∃ c, tl x = [c] ∧ p c) : tl (Txt.join (Str.ofString "") xs) = heads xs := ones_join h
theorem ones_asc {xs : List Str} (h : ∀ x ∈ xs, ∃ c, tl x = [c] ∧ 32 ≤ c ∧ c ≤ 126) : Asc (heads xs) := fun c m => ones_all (p := fun c => 32 ≤ c ∧ c ≤ 126) h c m
theorem heads_len (xs : List Str) : (heads xs).length = xs.length := List.length_map _

theorem alpha_mem {c : Nat} (h : c ∈ tl (Str.ofString "abcdefghijklmnopqrstuvwxyz")) : 97 ≤ c ∧ c ≤ 122 := by
  have : (tl (Str.ofString "abcdefghijklmnopqrstuvwxyz")).all (fun c => decide (97 ≤ c) && decide (c ≤ 122)) = true := by decide +kernel
  have := List.all_eq_true.mp this c h
  simp at this; exact this
theorem low_mem {c : Nat} (h : c ∈ tl (Str.ofString "abcdefghijklmnopqrstuvwxyz" ++ Str.ofString "0123456789")) : (97 ≤ c ∧ c ≤ 122) ∨ (48 ≤ c ∧ c ≤ 57) := by
  rw [tl_app] at h
  have : (tl (Str.ofString "abcdefghijklmnopqrstuvwxyz") ++ tl (Str.ofString "0123456789")).all (fun c => (decide (97 ≤ c) && decide (c ≤ 122)) || (decide (48 ≤ c) && decide (c ≤ 57))) = true := by decide +kernel
  have := List.all_eq_true.mp this c h
  simp at this; exact this

theorem log_small {i : Nat} (h : i ≤ 1000000) : (Int.natAbs (0 + (i : Int))).log2 < 1920 := by
  rw [Int.zero_add, Int.natAbs_natCast]
  by_cases e : i = 0
  · subst e; decide
  · rw [Nat.log2_lt e]
    exact Nat.lt_of_le_of_lt h (Nat.lt_of_lt_of_le (by decide : 1000000 < 2 ^ 20) (Nat.pow_le_pow_right (by decide) (by decide)))

theorem fold_take {α β : Type} {f : β → α → β} {a : β} {l : List α} {i : Nat} {c : α} (h : l[i]? = some c) : (l.take (i + 1)).foldl f a = f ((l.take i).foldl f a) c := by
  rw [List.take_add_one, h, List.foldl_append]
  rfl
theorem fold_all {α β : Type} {f : β → α → β} {a : β} {l : List α} : (l.take l.length).foldl f a = l.foldl f a := by rw [List.take_length]
theorem in_abc {c : Nat} : decide (c ∈ (Str.ofString "abcdefghijklmnopqrstuvwxyz").cps.toList) = (decide (97 ≤ c) && decide (c ≤ 122)) := by
  have e : (Str.ofString "abcdefghijklmnopqrstuvwxyz").cps.toList = List.range' 97 26 := by decide +kernel
  rw [e, Bool.eq_iff_iff, decide_eq_true_iff, List.mem_range'_1]
  simp only [Bool.and_eq_true, decide_eq_true_eq]
  omega
theorem in_ABC {c : Nat} : decide (c ∈ (Str.ofString "ABCDEFGHIJKLMNOPQRSTUVWXYZ").cps.toList) = (decide (65 ≤ c) && decide (c ≤ 90)) := by
  have e : (Str.ofString "ABCDEFGHIJKLMNOPQRSTUVWXYZ").cps.toList = List.range' 65 26 := by decide +kernel
  rw [e, Bool.eq_iff_iff, decide_eq_true_iff, List.mem_range'_1]
  simp only [Bool.and_eq_true, decide_eq_true_eq]
  omega
theorem in_012 {c : Nat} : decide (c ∈ (Str.ofString "0123456789").cps.toList) = (decide (48 ≤ c) && decide (c ≤ 57)) := by
  have e : (Str.ofString "0123456789").cps.toList = List.range' 48 10 := by decide +kernel
  rw [e, Bool.eq_iff_iff, decide_eq_true_iff, List.mem_range'_1]
  simp only [Bool.and_eq_true, decide_eq_true_eq]
  omega
theorem in_abc012 {c : Nat} : decide (c ∈ (Str.ofString "abcdefghijklmnopqrstuvwxyz0123456789").cps.toList) = ((decide (97 ≤ c) && decide (c ≤ 122)) || (decide (48 ≤ c) && decide (c ≤ 57))) := by
  have e : (Str.ofString "abcdefghijklmnopqrstuvwxyz0123456789").cps.toList = List.range' 97 26 ++ List.range' 48 10 := by decide +kernel
  rw [e, Bool.eq_iff_iff, decide_eq_true_iff, List.mem_append, List.mem_range'_1, List.mem_range'_1]
  simp only [Bool.and_eq_true, Bool.or_eq_true, decide_eq_true_eq]
  omega
/-- literal texts -/
theorem tl_mapS (ws : List Str) : (ws.map tl).map S = ws := by rw [List.map_map]; exact List.map_id _

theorem strs_at (zs : List Str) {v : Int} (h0 : 0 ≤ v) (h1 : v < (zs.length : Int)) : ∃ z, z ∈ zs ∧ atI (zs.map V.str) v = some (.str z) := by
  have h : v.toNat < zs.length := by omega
  exact ⟨zs[v.toNat], List.getElem_mem h, at_of (j := v.toNat) (by omega) (by rw [List.getElem?_map, List.getElem?_eq_getElem h]; rfl)⟩
theorem tl_upper {x : Str} (h : Asc (tl x)) : tl (Txt.upper x) = (tl x).map PyProof.Rows.up1 := congrArg tl (SX.upper_S (a := tl x) h.all128)
theorem asc_upper {x : Str} (h : Asc (tl x)) : Asc (tl (Txt.upper x)) := by
  rw [tl_upper h]
  intro c hc
  obtain ⟨d, hd, e⟩ := List.mem_map.mp hc
  have := h d hd
  unfold PyProof.Rows.up1 at e
  split at e <;> omega
theorem len_upper {x : Str} (h : Asc (tl x)) : (tl (Txt.upper x)).length = (tl x).length := by rw [tl_upper h, List.length_map]
theorem DL.strs {n : Nat} (xs : List Str) (h : xs.length ≤ 1000000) : DL (n + 2) (.tup (xs.map D.str)) := ⟨by rw [List.length_map]; exact h, fun d m => by obtain ⟨x, _, rfl⟩ := List.mem_map.mp m; exact True.intro⟩
theorem DV.strs {K : PySem.W.Frag} {H : Hp} {p : Addr} {xs : List Str} (h : H p = some (.tup (xs.map V.str))) : DV K H (.tup (xs.map D.str)) (.ref p) := by
  unfold DV
  exact ⟨p, _, rfl, SqT.of h, DVs.strs xs⟩
def sp_law (K : PySem.W.Frag) : Sp := fun vs H Q _ => ∃ (a : Addr) (ns : List Int), vs = [.ref a] ∧ SqL K H a (ns.map V.int) ∧ ns.length ≤ 63 ∧ ∀ H', Q (.bl true) H'
end Z
namespace Z
open PySem L2 SX
/-! ### cuts -/
theorem sIx_pos {n d : Nat} {i : Int} (h : 0 ≤ i) : HT.sIx n d (some i) = min i.toNat n := by
  obtain ⟨k, rfl⟩ := Int.eq_ofNat_of_zero_le h
  rw [HT.sIx_nat]; rfl
theorem cutS_to {z : Str} {i : Int} (h : 0 ≤ i) : tl (cutS z none (some i)) = (tl z).take i.toNat := by
  show ((tl z).drop 0).take (HT.sIx z.length z.length (some i) - 0) = _
  rw [sIx_pos h, List.drop_zero, Nat.sub_zero, tl_len]
  by_cases e : i.toNat ≤ (tl z).length
  · rw [Nat.min_eq_left e]
  · rw [Nat.min_eq_right (by omega), List.take_length, List.take_of_length_le (by omega)]
theorem cutS_from {z : Str} {i : Int} (h : 0 ≤ i) : tl (cutS z (some i) none) = (tl z).drop i.toNat := by
  show ((tl z).drop (HT.sIx z.length 0 (some i))).take (z.length - HT.sIx z.length 0 (some i)) = _
  rw [sIx_pos h, tl_len]
  by_cases e : i.toNat ≤ (tl z).length
  · rw [Nat.min_eq_left e, List.take_of_length_le (by rw [List.length_drop]; omega)]
  · rw [Nat.min_eq_right (by omega), List.drop_of_length_le (l := tl z) (i := i.toNat) (by omega), List.drop_of_length_le (Nat.le_refl _), List.take_nil]
theorem cutS_mid {z : Str} {i j : Int} (h : 0 ≤ i) (h2 : 0 ≤ j) : tl (cutS z (some i) (some j)) = ((tl z).drop i.toNat).take (j.toNat - i.toNat) := by
  show ((tl z).drop (HT.sIx z.length 0 (some i))).take (HT.sIx z.length z.length (some j) - HT.sIx z.length 0 (some i)) = _
  rw [sIx_pos h, sIx_pos h2, tl_len]
  by_cases e : i.toNat ≤ (tl z).length
  · rw [Nat.min_eq_left e]
    by_cases f : j.toNat ≤ (tl z).length
    · rw [Nat.min_eq_left f]
    · rw [Nat.min_eq_right (by omega), List.take_of_length_le (by rw [List.length_drop]; omega), List.take_of_length_le (by rw [List.length_drop]; omega)]
  · rw [Nat.min_eq_right (a := i.toNat) (by omega), List.drop_of_length_le (Nat.le_refl _), List.drop_of_length_le (l := tl z) (i := i.toNat) (by omega)]; simp
theorem cutV_to {xs : List V} {i : Int} (h : 0 ≤ i) : cutV xs none (some i) = xs.take i.toNat := by
  show ((xs.drop 0).take (HT.sIx xs.length xs.length (some i) - 0)) = _
  rw [sIx_pos h, List.drop_zero, Nat.sub_zero]
  by_cases e : i.toNat ≤ xs.length
  · rw [Nat.min_eq_left e]
  · rw [Nat.min_eq_right (by omega), List.take_length, List.take_of_length_le (by omega)]
theorem cutV_from {xs : List V} {i : Int} (h : 0 ≤ i) : cutV xs (some i) none = xs.drop i.toNat := by
  show ((xs.drop (HT.sIx xs.length 0 (some i))).take (xs.length - HT.sIx xs.length 0 (some i))) = _
  rw [sIx_pos h]
  by_cases e : i.toNat ≤ xs.length
  · rw [Nat.min_eq_left e, List.take_of_length_le (by rw [List.length_drop]; omega)]
  · rw [Nat.min_eq_right (by omega), List.drop_of_length_le (l := xs) (i := i.toNat) (by omega), List.drop_of_length_le (Nat.le_refl _), List.take_nil]
/-- the text k times -/
def rep (k : Nat) (l : List Nat) : List Nat := (List.replicate k l).flatten
theorem rep_fold (x : Array Nat) : ∀ (k : Nat) (a : Array Nat), ((List.replicate k x).foldl (· ++ ·) a).toList = a.toList ++ rep k x.toList
  | 0, a => by simp [rep]
  | k + 1, a => by
    rw [List.replicate_succ, List.foldl_cons, rep_fold x k]
    simp [rep, List.replicate_succ]
theorem rep_len (k : Nat) (l : List Nat) : (rep k l).length = k * l.length := by
  induction k with
  | zero => simp [rep]
  | succ k ih => unfold rep at *; rw [List.replicate_succ, List.flatten_cons, List.length_append, ih, Nat.succ_mul]; omega
theorem rep_mem {k : Nat} {l : List Nat} {c : Nat} (h : c ∈ rep k l) : c ∈ l := by
  obtain ⟨x, hx, hc⟩ := List.mem_flatten.mp h
  rw [(List.mem_replicate.mp hx).2] at hc; exact hc
section
variable {X : Cx}
/-- s * k -/
theorem op_mul_str : OpR X (binaryOp .Mult) (fun x y H Q => ∃ (z : Str) (k : Int), x = .str z ∧ y = .int k ∧ k ≤ 100000 ∧ (-100000 ≤ k) ∧ (tl z).length * k.toNat ≤ 10000000 ∧ ∀ r : Str, tl r = rep k.toNat (tl z) → Q (.str r) H) := by
  intro pins s σ H x y v u Q I rx ry h
  obtain ⟨z, k, rfl, rfl, h1, h0, hz, q⟩ := h
  obtain ⟨t, rfl⟩ := rx
  obtain ⟨t', rfl⟩ := ry
  have hz' : z.length * k.toNat ≤ 10000000 := by rw [tl_len]; exact hz
  have small := PyProof.Rows.short24 (n := z.length * k.toNat) (Nat.le_trans hz' (by decide))
  refine P.mul_str ?_ (fun a b => ?_) (fun _ _ => small) ?_
  · rw [decide_eq_false (by omega), decide_eq_false (by omega)]; rfl
  · have hk : 1 ≤ k := by omega
    have hm : (z.length : Int) * k ≤ 10000000 := by
      have : ((z.length * k.toNat : Nat) : Int) ≤ 10000000 := by omega
      rw [Int.natCast_mul, Int.toNat_of_nonneg (by omega)] at this; exact this
    have hle : (z.length : Int) ≤ (2 ^ 63 - 1) / k := by
      rw [Int.le_ediv_iff_mul_le (by omega)]
      exact Int.le_trans hm (by decide)
    omega
  · by_cases hk : k < 1
    · rw [if_pos hk]
      refine ⟨by decide, ?_⟩
      exact ⟨.str Str.empty, H, I.tok _, ⟨_, rfl⟩, q _ (by rw [show k.toNat = 0 by omega]; rfl)⟩
    · rw [if_neg hk]
      by_cases hb : (k == 1 || z.length == 0) = true
      · rw [if_pos hb]
        refine ⟨.str z, H, I, ⟨_, rfl⟩, q _ ?_⟩
        rw [Bool.or_eq_true] at hb
        rcases hb with e | e
        · have : k = 1 := by simpa using e
          subst this; simp [rep]
        · have e : z.length = 0 := by simpa using e
          rw [tl_len] at e
          have : tl z = [] := List.length_eq_zero_iff.mp e
          rw [this]
          exact (List.length_eq_zero_iff.mp (by rw [rep_len]; rfl)).symm
      · rw [if_neg hb]
        have hr : tl (⟨(List.replicate k.toNat z.cps).foldl (· ++ ·) #[]⟩ : Str) = rep k.toNat (tl z) := by
          show ((List.replicate k.toNat z.cps).foldl (· ++ ·) #[]).toList = _
          rw [rep_fold]; simp [tl]
        refine ⟨?_, ?_⟩
        · rw [tl_len, hr, rep_len, Nat.mul_comm]
          exact Nat.le_trans hz (by decide)
        · exact ⟨.str _, H, I.tok _, ⟨_, rfl⟩, q _ hr⟩
end
section
variable {X : Cx} {K : PySem.W.Frag}
/-- t + u, of tuples -/
theorem op_cat (hK : X.K = K) : OpR X (binaryOp .Add) (fun x y H Q => ∃ a b xs ys, x = .ref a ∧ y = .ref b ∧ SqT K H a xs ∧ SqT K H b ys ∧ xs.length + ys.length ≤ sizeLine ∧
    ∀ p H', Same H H' → SqT K H' p (xs ++ ys) → Q (.ref p) H') := by
  subst hK
  intro pins s σ H x y v u Q I rx ry h
  obtain ⟨a, b, xs, ys, e1, e2, ha, hb, hz, q⟩ := h
  refine op_catA pins s σ H x y v u Q I rx ry ⟨a, b, xs, ys, e1, e2, ha, hb, hz, fun e => ?_, fun _ e => ?_, fun _ _ p hp => q p _ (same_new hp) (SqT.of upd_same)⟩
  · subst e; exact q b H (Same.refl _) hb
  · subst e; exact q a H (Same.refl _) (by rw [List.append_nil]; exact ha)
/-- t[lo:hi] of a tuple -/
theorem sl_tupS (hK : X.K = K) : SlR X (fun x lo hi H Q => ∃ a xs, x = .ref a ∧ SqT K H a xs ∧ ∀ p H', Same H H' → SqT K H' p (cutV xs lo hi) → Q (.ref p) H') := by
  subst hK
  intro pins s σ H x v vl vu lo hi sl Q I rx hs pl pu h
  obtain ⟨a, xs, e, hx, q⟩ := h
  refine sl_tupA pins s σ H x v vl vu lo hi sl Q I rx hs pl pu ⟨a, xs, e, hx, fun hw => q a H (Same.refl _) ?_, fun _ p hp => q p _ (same_new hp) (SqT.of upd_same)⟩
  have : cutV xs lo hi = xs := by
    show (xs.drop (HT.sIx xs.length 0 lo)).take (HT.sIx xs.length xs.length hi - HT.sIx xs.length 0 lo) = xs
    rw [hw.1, hw.2, List.drop_zero, Nat.sub_zero, List.take_length]
  rw [this]; exact hx
end
theorem _root_.L2.Same.tup {K : PySem.W.Frag} {H H' : Hp} {a : Addr} {xs : List V} (e : Same H H') (h : SqT K H a xs) : SqT K H' a xs := by
  rcases h with (h | ⟨o, h⟩) | h
  · exact .inl (.inl (e _ _ h))
  · exact .inl (.inr ⟨o, e _ _ h⟩)
  · exact .inr h

/-- a comprehension over a range that makes texts by draws (at most d of them for each) -/
theorem lc_strs {j n d : Nat} {te : TE} {vs : List Nat} {σ : St} {H : Hp} {D s a : Addr} {c : Nat} {Qd : Hp → Prop} (p : Str → Prop) (hD : H D = none) (hS : Src H s a (c + n * d)) (hn : n ≤ 100000)
    (hw : ∀ i : Nat, wipe ((wipe σ vs).set j (some (.int (0 + (i : Int))))) vs = wipe σ vs)
    (hs : ∀ (i c' : Nat) (H1 : Hp) (R : VK), i < n → Ext s H H1 → Src H1 s a (c' + d) → (∀ (x : Str) (H2 : Hp), p x → Ext s H1 H2 → Src H2 s a c' → R (.str x) H2) → te ((wipe σ vs).set j (some (.int (0 + (i : Int))))) H1 R)
    (hd : ∀ (xs : List Str) (H' : Hp), H' D = some (.lst (xs.map V.str)) → xs.length = n → (∀ x ∈ xs, p x) → Ext s H H' → Src H' s a c → Qd H') :
    ∃ W : Nat → Nat → Hp → Prop, (∃ m, W 0 m (upd H D (.lst []))) ∧ ∀ i m H, W i m H →
      ((Itr 0 n).stop i H ∧ Qd H) ∨ ((Itr 0 n).go i H ∧ ∃ Nx : Hp → Prop, (∀ H', Nx H' → ∃ m', m' < m ∧ W (i + 1) m' H') ∧ ∀ x H', (Itr 0 n).yld i H x H' → gName j x (wipe σ vs) H' fun σ2 H2 => wipe σ2 vs = wipe σ vs ∧ tYes σ2 H2 fun b H3 =>
        if b = true then te σ2 H3 fun y H4 => ∃ acc, H4 D = some (.lst acc) ∧ acc.length < sizeLine ∧ Nx (upd H4 D (.lst (acc ++ [y]))) else Nx H3) := by
  have Ds : D ≠ s := hS.ne hD
  have Da : D ≠ a := hS.nea hD
  refine lc_range (lo := 0) (n := n) (fun i H' => ∃ xs : List Str, H' D = some (.lst (xs.map V.str)) ∧ xs.length = i ∧ (∀ x ∈ xs, p x) ∧ Ext s H H' ∧ Src H' s a (c + (n - i) * d)) ?_ ?_ ?_
  · exact ⟨[], upd_same, rfl, (fun _ h => by cases h), Ext.new hD, (hS.new hD).mono (by simp)⟩
  · rintro i H' hi ⟨xs, hx, hl, hA, hE, hS'⟩
    refine ⟨hw i, ?_⟩
    show te _ H' _
    have e : c + (n - i) * d = c + (n - (i + 1)) * d + d := by
      rw [show n - i = n - (i + 1) + 1 by omega, Nat.succ_mul]; omega
    refine hs i (c + (n - (i + 1)) * d) H' _ hi hE (by rw [← e]; exact hS') (fun x H2 hp hE2 hS2 => ?_)
    refine ⟨xs.map V.str, hE2 _ _ Ds hx, ?_, xs ++ [x], by rw [upd_same, List.map_append]; rfl, by rw [List.length_append]; simp [hl], fun y hy => ?_, ?_, hS2.put Ds Da⟩
    · rw [List.length_map]; exact Nat.lt_of_lt_of_le (show xs.length < 100000 by omega) (by decide)
    · rcases List.mem_append.mp hy with h | h
      · exact hA y h
      · rw [List.mem_singleton.mp h]; exact hp
    · intro b o hb hH
      rw [upd_ne (ne_of_none hH hD)]; exact hE2 _ _ hb (hE _ _ hb hH)
  · rintro H' ⟨xs, hx, hl, hA, hE, hS'⟩
    exact hd xs H' hx hl hA hE (hS'.mono (by omega))
theorem atI_pos {α : Type} {xs : List α} {v : Int} {x : α} (h0 : 0 ≤ v) (h : xs[v.toNat]? = some x) : atI xs v = some x := by
  have e : v = (v.toNat : Int) := by omega
  rw [e]; exact atI_nat h
/-- any item of a list of texts -/
def sp__law_pick (K : PySem.W.Frag) : Sp := fun vs H Q _ =>
  (∃ (s a r : Addr) (xs : List V) (c : Nat), vs = [.ref s, .ref r] ∧ SqL K H r xs ∧ r ≠ s ∧ xs ≠ [] ∧ xs.length ≤ 100000 ∧ Src H s a (c + 1) ∧ ∀ (v : V) (H' : Hp), v ∈ xs → Ext s H H' → Src H' s a c → Q v H') ∨
  (∃ (s a : Addr) (x : Str) (c : Nat), vs = [.ref s, .str x] ∧ tl x ≠ [] ∧ (tl x).length ≤ 100000 ∧ Src H s a (c + 1) ∧ ∀ (ch : Nat) (H' : Hp), ch ∈ tl x → Ext s H H' → Src H' s a c → Q (.str (S [ch])) H')
def sp__law_once_in : Sp := fun vs H Q _ => ∃ (s a : Addr) (m : Int) (c : Nat), vs = [.ref s, .int m] ∧ 0 < m ∧ m < 1073741824 ∧ Src H s a (c + 1) ∧ ∀ (b : Bool) (H' : Hp), Ext s H H' → Src H' s a c → Q (.bl b) H'
end Z
namespace Z
open PySem L2 SX
open PySem.Builtin.Str (occurrences lastOccurrence subAt)
theorem at_one {x : Str} {c hi k : Nat} (h : hi ≤ (tl x).length) : StrLaws.At x (S [c]) hi k ↔ k < hi ∧ (tl x)[k]? = some c := by
  have e := StrLaws.subAt_one x c k
  have l1 : (S [c]).length = 1 := rfl
  unfold StrLaws.At
  constructor
  · rintro ⟨h1, h2⟩
    rw [l1] at h1
    refine ⟨by omega, e.mp ⟨?_, h2⟩⟩
    show k + 1 ≤ x.length
    rw [tl_len]; omega
  · rintro ⟨h1, h2⟩
    have h3 := e.mpr h2
    exact ⟨by rw [l1]; omega, h3.2⟩
theorem find_from (x : Str) (c : Nat) {i : Int} (h : 0 ≤ i) :
    (Txt.find3 x (S [c]) i = -1 ∧ ∀ k : Nat, i ≤ (k : Int) → (tl x)[k]? ≠ some c) ∨ ∃ k : Nat, Txt.find3 x (S [c]) i = (k : Int) ∧ i ≤ (k : Int) ∧ (tl x)[k]? = some c ∧ ∀ j : Nat, i ≤ (j : Int) → j < k → (tl x)[j]? ≠ some c := by
  obtain ⟨n, rfl⟩ := Int.eq_ofNat_of_zero_le h
  have hf : fromIndex x.length (n : Int) = n := by
    unfold fromIndex
    rw [if_neg (by omega), Int.max_eq_right (by omega)]; rfl
  unfold Txt.find3
  rw [hf, StrLaws.occ_eq]
  have hx : x.length = (tl x).length := tl_len x
  rcases StrLaws.occ_first x (S [c]) x.length 1 (Nat.le_refl _) (List.range' n (x.length + 1 - n)) n (fun i hi => (List.mem_range'_1.mp hi).1) with ⟨h0, hn⟩ | ⟨pre, a, post, e, h0, ha, hn⟩
  · refine .inl ⟨by rw [h0], fun k hk hc => ?_⟩
    have hlt := (List.getElem?_eq_some_iff.mp hc).1
    exact hn k (List.mem_range'_1.mpr ⟨by omega, by omega⟩) ((at_one (by omega)).mpr ⟨by omega, hc⟩)
  · have h1 := (at_one (by omega)).mp ha
    have hm : a ∈ List.range' n (x.length + 1 - n) := by rw [e]; simp
    refine .inr ⟨a, ?_, by have := (List.mem_range'_1.mp hm).1; omega, h1.2, fun j hj hl hc => ?_⟩
    · cases hq : (forIn (List.range' n (x.length + 1 - n)) ((#[] : Array Nat), n) (StrLaws.occBody x (S [c]) x.length 1)).run.fst.toList with
      | nil =>
        have : (forIn (List.range' n (x.length + 1 - n)) ((#[] : Array Nat), n) (StrLaws.occBody x (S [c]) x.length 1)).run.fst = #[] := Array.toList_eq_nil_iff.mp hq
        rw [this] at h0; simp at h0
      | cons b r =>
        have hb : (forIn (List.range' n (x.length + 1 - n)) ((#[] : Array Nat), n) (StrLaws.occBody x (S [c]) x.length 1)).run.fst[0]? = some b := by
          rw [← Array.getElem?_toList, hq]; rfl
        rw [hb] at h0
        cases h0; rfl
    · have hjm : j ∈ pre := by
        have hlt := (List.getElem?_eq_some_iff.mp hc).1
        have hjr : j ∈ List.range' n (x.length + 1 - n) := List.mem_range'_1.mpr ⟨by omega, by omega⟩
        have hp : (pre ++ a :: post).Pairwise (· < ·) := by rw [← e]; exact List.pairwise_lt_range'
        rw [e] at hjr
        rcases List.mem_append.mp hjr with q | q
        · exact q
        · rcases List.mem_cons.mp q with q | q
          · omega
          · have := (List.pairwise_cons.mp (List.pairwise_append.mp hp).2.1).1 j q
            omega
      exact hn j hjm ((at_one (by omega)).mpr ⟨by have := (List.getElem?_eq_some_iff.mp hc).1; omega, hc⟩)
theorem rfind_in (x : Str) (c : Nat) {i m : Int} (h : 0 ≤ i) (hm : 0 ≤ m) :
    (Txt.rfindIn x (S [c]) i m = -1 ∧ ∀ k : Nat, i ≤ (k : Int) → (k : Int) < m → (tl x)[k]? ≠ some c) ∨ ∃ k : Nat, Txt.rfindIn x (S [c]) i m = (k : Int) ∧ i ≤ (k : Int) ∧ (k : Int) < m ∧ (tl x)[k]? = some c ∧ ∀ j : Nat, k < j → (j : Int) < m → (tl x)[j]? ≠ some c := by
  obtain ⟨n, rfl⟩ := Int.eq_ofNat_of_zero_le h
  obtain ⟨e, rfl⟩ := Int.eq_ofNat_of_zero_le hm
  have hf : fromIndex x.length (n : Int) = n := by
    unfold fromIndex
    rw [if_neg (by omega), Int.max_eq_right (by omega)]; rfl
  have ht : toIndexW x.length (e : Int) = min e x.length := by
    unfold toIndexW
    rw [if_neg (by omega), Int.max_eq_right (by omega)]; rfl
  have hx : x.length = (tl x).length := tl_len x
  unfold Txt.rfindIn
  rw [hf, ht, StrLaws.last_eq]
  have key := StrLaws.last_run x (S [c]) (min e x.length) (List.range' n (min e x.length + 1 - n)) [] none (fun _ h => nomatch h) (fun _ h => nomatch h) List.pairwise_lt_range'
  rw [List.nil_append] at key
  cases hq : (forIn (List.range' n (min e x.length + 1 - n)) none (StrLaws.lastBody x (S [c]) (min e x.length))).run with
  | none =>
    rw [hq] at key
    refine .inl ⟨rfl, fun k hk hk2 hc => ?_⟩
    have hlt := (List.getElem?_eq_some_iff.mp hc).1
    exact key k (List.mem_range'_1.mpr ⟨by omega, by omega⟩) ((at_one (by omega)).mpr ⟨by omega, hc⟩)
  | some a =>
    rw [hq] at key
    obtain ⟨ha, hl⟩ := key
    have h1 := (at_one (by omega)).mp ha
    have hr : n ≤ a := by
      -- the last place is one of those that were looked at
      have : ∀ (l : List Nat) (st : Option Nat) (b : Nat), (forIn l st (StrLaws.lastBody x (S [c]) (min e x.length))).run = some b → st = some b ∨ b ∈ l := by
        intro l
        induction l with
        | nil => intro st b hb; exact .inl hb
        | cons d l ih =>
          intro st b hb
          rw [List.forIn_cons] at hb
          unfold StrLaws.lastBody at hb
          split at hb
          · rcases ih _ _ hb with q | q
            · exact .inr (by cases q; exact List.mem_cons_self)
            · exact .inr (List.mem_cons_of_mem _ q)
          · rcases ih _ _ hb with q | q
            · exact .inl q
            · exact .inr (List.mem_cons_of_mem _ q)
      rcases this _ _ _ hq with q | q
      · cases q
      · exact (List.mem_range'_1.mp q).1
    refine .inr ⟨a, rfl, by omega, by omega, h1.2, fun j hj hj2 hc => ?_⟩
    have hlt := (List.getElem?_eq_some_iff.mp hc).1
    exact hl j (List.mem_range'_1.mpr ⟨by omega, by omega⟩) hj ((at_one (by omega)).mpr ⟨by omega, hc⟩)

theorem tl_inj : ∀ {a b : List Str}, a.map tl = b.map tl → a = b
  | [], [], _ => rfl
  | [], _ :: _, h => by cases h
  | _ :: _, [], h => by cases h
  | x :: a, y :: b, h => by
    rw [List.map_cons, List.map_cons] at h
    obtain ⟨h1, h2⟩ := List.cons.inj h
    rw [tl_ext h1, tl_inj h2]
theorem DV.strsT {K : PySem.W.Frag} {H : Hp} {p : Addr} {xs : List Str} (h : SqT K H p (xs.map V.str)) : DV K H (.tup (xs.map D.str)) (.ref p) := by
  unfold DV
  exact ⟨p, _, rfl, h, DVs.strs xs⟩
end Z
namespace Z
open PySem L2 SX
def top (i : Nat) : Stmt := PySem.Challenge.pw_criermoot_k01_names.main.body.getD i (.Pass ⟨0, 0, 0, 0⟩)
abbrev s_number_of : Stmt := top 3
abbrev N_number_of : List Str := ["text", "longest", "sign"]
theorem sc_number_of : FnScope ["text", "longest", "sign"] ["text", "longest"] (defScope s_number_of) := ⟨rfl, rfl, rfl, by decide +kernel, rfl, by decide +kernel, by decide +kernel⟩
abbrev s_is_word : Stmt := top 8
abbrev N_is_word : List Str := ["text", "sign"]
theorem sc_is_word : FnScope ["text", "sign"] ["text"] (defScope s_is_word) := ⟨rfl, rfl, rfl, by decide +kernel, rfl, by decide +kernel, by decide +kernel⟩
abbrev s_is_name : Stmt := top 9
abbrev N_is_name : List Str := ["text"]
theorem sc_is_name : FnScope ["text"] ["text"] (defScope s_is_name) := ⟨rfl, rfl, rfl, by decide +kernel, rfl, by decide +kernel, by decide +kernel⟩
abbrev s_is_address : Stmt := top 10
abbrev N_is_address : List Str := ["text", "person", "_", "place"]
theorem sc_is_address : FnScope ["text", "person", "_", "place"] ["text"] (defScope s_is_address) := ⟨rfl, rfl, rfl, by decide +kernel, rfl, by decide +kernel, by decide +kernel⟩
abbrev s_is_board : Stmt := top 11
abbrev N_is_board : List Str := ["text", "word"]
theorem sc_is_board : FnScope ["text", "word"] ["text"] (defScope s_is_board) := ⟨rfl, rfl, rfl, by decide +kernel, rfl, by decide +kernel, by decide +kernel⟩
abbrev s_is_id : Stmt := top 12
abbrev N_is_id : List Str := ["id"]
theorem sc_is_id : FnScope ["id"] ["id"] (defScope s_is_id) := ⟨rfl, rfl, rfl, by decide +kernel, rfl, by decide +kernel, by decide +kernel⟩
abbrev s_id_text : Stmt := top 13
abbrev N_id_text : List Str := ["id"]
theorem sc_id_text : FnScope ["id"] ["id"] (defScope s_id_text) := ⟨rfl, rfl, rfl, by decide +kernel, rfl, by decide +kernel, by decide +kernel⟩
abbrev s_id_of : Stmt := top 14
abbrev N_id_of : List Str := ["text", "digits", "_", "place", "number"]
theorem sc_id_of : FnScope ["text", "digits", "_", "place", "number"] ["text"] (defScope s_id_of) := ⟨rfl, rfl, rfl, by decide +kernel, rfl, by decide +kernel, by decide +kernel⟩
abbrev s_split_address : Stmt := top 15
abbrev N_split_address : List Str := ["address", "person", "_", "place"]
theorem sc_split_address : FnScope ["address", "person", "_", "place"] ["address"] (defScope s_split_address) := ⟨rfl, rfl, rfl, by decide +kernel, rfl, by decide +kernel, by decide +kernel⟩
abbrev s__law_mix : Stmt := top 17
abbrev N__law_mix : List Str := ["seed", "turn", "number"]
theorem sc__law_mix : FnScope ["seed", "turn", "number"] ["seed", "turn"] (defScope s__law_mix) := ⟨rfl, rfl, rfl, by decide +kernel, rfl, by decide +kernel, by decide +kernel⟩
abbrev s__law_source : Stmt := top 18
abbrev N__law_source : List Str := ["script", "seed", "k"]
theorem sc__law_source : FnScope ["script", "seed", "k"] ["script"] (defScope s__law_source) := ⟨rfl, rfl, rfl, by decide +kernel, rfl, by decide +kernel, by decide +kernel⟩
abbrev s__law_draw : Stmt := top 19
abbrev N__law_draw : List Str := ["source", "many", "cell", "value"]
theorem sc__law_draw : FnScope ["source", "many", "cell", "value"] ["source", "many"] (defScope s__law_draw) := ⟨rfl, rfl, rfl, by decide +kernel, rfl, by decide +kernel, by decide +kernel⟩
abbrev s__law_once_in : Stmt := top 20
abbrev N__law_once_in : List Str := ["source", "many"]
theorem sc__law_once_in : FnScope ["source", "many"] ["source", "many"] (defScope s__law_once_in) := ⟨rfl, rfl, rfl, by decide +kernel, rfl, by decide +kernel, by decide +kernel⟩
abbrev s__law_new_name : Stmt := top 21
abbrev N__law_new_name : List Str := ["source", "used", "letters", "size", "name", "k", "tried"]
theorem sc__law_new_name : FnScope ["source", "used", "letters", "size", "name", "k", "tried"] ["source", "used"] (defScope s__law_new_name) := ⟨rfl, rfl, rfl, by decide +kernel, rfl, by decide +kernel, by decide +kernel⟩
abbrev s__law_names : Stmt := top 22
abbrev N__law_names : List Str := ["source", "many", "used", "k"]
theorem sc__law_names : FnScope ["source", "many", "used", "k"] ["source", "many"] (defScope s__law_names) := ⟨rfl, rfl, rfl, by decide +kernel, rfl, by decide +kernel, by decide +kernel⟩
abbrev s__law_is_int : Stmt := top 23
abbrev N__law_is_int : List Str := ["value"]
theorem sc__law_is_int : FnScope ["value"] ["value"] (defScope s__law_is_int) := ⟨rfl, rfl, rfl, by decide +kernel, rfl, by decide +kernel, by decide +kernel⟩
abbrev s__law_same : Stmt := top 24
abbrev N__law_same : List Str := ["actual", "due", "k"]
theorem sc__law_same : FnScope ["actual", "due", "k"] ["actual", "due"] (defScope s__law_same) := ⟨rfl, rfl, rfl, by decide +kernel, rfl, by decide +kernel, by decide +kernel⟩
abbrev s__law_plain : Stmt := top 25
abbrev N__law_plain : List Str := ["text", "letters", "sign"]
theorem sc__law_plain : FnScope ["text", "letters", "sign"] ["text"] (defScope s__law_plain) := ⟨rfl, rfl, rfl, by decide +kernel, rfl, by decide +kernel, by decide +kernel⟩
abbrev s__law_is_name : Stmt := top 26
abbrev N__law_is_name : List Str := ["text"]
theorem sc__law_is_name : FnScope ["text"] ["text"] (defScope s__law_is_name) := ⟨rfl, rfl, rfl, by decide +kernel, rfl, by decide +kernel, by decide +kernel⟩
abbrev s__law_is_address : Stmt := top 27
abbrev N__law_is_address : List Str := ["text", "parts"]
theorem sc__law_is_address : FnScope ["text", "parts"] ["text"] (defScope s__law_is_address) := ⟨rfl, rfl, rfl, by decide +kernel, rfl, by decide +kernel, by decide +kernel⟩
abbrev s__law_is_board : Stmt := top 28
abbrev N__law_is_board : List Str := ["text", "word"]
theorem sc__law_is_board : FnScope ["text", "word"] ["text"] (defScope s__law_is_board) := ⟨rfl, rfl, rfl, by decide +kernel, rfl, by decide +kernel, by decide +kernel⟩
abbrev s__law_ident : Stmt := top 29
abbrev N__law_ident : List Str := ["text", "parts", "sign"]
theorem sc__law_ident : FnScope ["text", "parts", "sign"] ["text"] (defScope s__law_ident) := ⟨rfl, rfl, rfl, by decide +kernel, rfl, by decide +kernel, by decide +kernel⟩
abbrev s__law_bent : Stmt := top 30
abbrev N__law_bent : List Str := ["source", "text", "way", "place", "odd"]
theorem sc__law_bent : FnScope ["source", "text", "way", "place", "odd"] ["source", "text"] (defScope s__law_bent) := ⟨rfl, rfl, rfl, by decide +kernel, rfl, by decide +kernel, by decide +kernel⟩
abbrev s__law_strings : Stmt := top 31
abbrev N__law_strings : List Str := ["source", "pieces", "joint", "many", "text", "longer", "found", "one"]
theorem sc__law_strings : FnScope ["source", "pieces", "joint", "many", "text", "longer", "found", "one"] ["source"] (defScope s__law_strings) := ⟨rfl, rfl, rfl, by decide +kernel, rfl, by decide +kernel, by decide +kernel⟩
abbrev s_law : Stmt := top 32
abbrev N_law : List Str := ["script", "source", "text", "parts", "name", "number", "step"]
theorem sc_law : FnScope ["script", "source", "text", "parts", "name", "number", "step"] ["script"] (defScope s_law) := ⟨rfl, rfl, rfl, by decide +kernel, rfl, by decide +kernel, by decide +kernel⟩
structure Tx (mg : Str → Option Value) : Prop where
  n_abs : mg "abs" = none
  n_all : mg "all" = none
  n_bool : mg "bool" = none
  n_int : mg "int" = none
  n_isinstance : mg "isinstance" = none
  n_len : mg "len" = none
  n_list : mg "list" = none
  n_range : mg "range" = none
  n_str : mg "str" = none
  n_tuple : mg "tuple" = none
  c_LETTERS : ∃ t, mg "LETTERS" = some (.str ("abcdefghijklmnopqrstuvwxyz") t)
  c_DIGITS : ∃ t, mg "DIGITS" = some (.str ("0123456789") t)
  c_LONGEST_NAME : ∃ t, mg "LONGEST_NAME" = some (.int 8 t)
  c_LONGEST_BOARD : ∃ t, mg "LONGEST_BOARD" = some (.int 600 t)
  c_LAST_NUMBER : ∃ t, mg "LAST_NUMBER" = some (.int 999999 t)
end Z
namespace Z
open PySem L2 SX
/-! ### names, boards, ids -/
def ltr (c : Nat) : Bool := decide (c ∈ tl (Str.ofString "abcdefghijklmnopqrstuvwxyz"))
def dgt (c : Nat) : Bool := decide (c ∈ tl (Str.ofString "0123456789"))
theorem ltr_iff (c : Nat) : ltr c = true ↔ 97 ≤ c ∧ c ≤ 122 := by
  have e : tl (Str.ofString "abcdefghijklmnopqrstuvwxyz") = (List.range 26).map (97 + ·) := by rfl
  unfold ltr
  rw [e, decide_eq_true_iff, List.mem_map]
  constructor
  · rintro ⟨k, h, rfl⟩; have := List.mem_range.mp h; omega
  · intro h; exact ⟨c - 97, List.mem_range.mpr (by omega), by omega⟩
theorem dgt_iff (c : Nat) : dgt c = true ↔ 48 ≤ c ∧ c ≤ 57 := by
  have e : tl (Str.ofString "0123456789") = (List.range 10).map (48 + ·) := by rfl
  unfold dgt
  rw [e, decide_eq_true_iff, List.mem_map]
  constructor
  · rintro ⟨k, h, rfl⟩; have := List.mem_range.mp h; omega
  · intro h; exact ⟨c - 48, List.mem_range.mpr (by omega), by omega⟩
def alnum (c : Nat) : Bool := ltr c || dgt c
def plain : List Nat → Bool
  | [] => false
  | c :: r => ltr c && (c :: r).all alnum
def nameB (l : List Nat) : Bool := decide (l.length ≤ 8) && plain l
def addrB (l : List Nat) : Bool := match TL.par [64] [] l with
  | some (p, q) => nameB p && nameB q
  | none => false
def boardB (l : List Nat) : Bool := decide (l.length ≤ 600) && (TL.spl [46] 0 [] l).all plain
def dOk (d : List Nat) : Bool := match d with
  | [] => false
  | c :: r => decide ((c :: r).length ≤ 6) && (decide (c ≠ 48) && (c :: r).all dgt)
def numOk (d : List Nat) : Bool := match d with
  | [] => false
  | c :: r => decide ((c :: r).length ≤ 6) && ((c :: r).all dgt && !(decide (c = 48) && decide (c :: r ≠ [48])))
def numV (d : List Nat) : V := if numOk d = true then .int (NumText.digitsVal d : Nat) else .non
def identD (l : List Nat) : D := match TL.par [64] [] l with
  | some (d, p) => if (dOk d && nameB p) = true then .tup [.str (S p), .int (NumText.digitsVal d : Nat)] else .non
  | none => .non
theorem plain_all {l : List Nat} (h : plain l = true) : ∀ c ∈ l, alnum c = true := by
  cases l with
  | nil => cases h
  | cons c r => exact List.all_eq_true.mp (Bool.and_eq_true_iff.mp h).2
theorem name_free {l : List Nat} (h : nameB l = true) : 64 ∉ l := fun m => by
  have := plain_all (Bool.and_eq_true_iff.mp h).2 64 m
  revert this; decide +kernel
theorem spl_free1 {s : Nat} : ∀ {l acc : List Nat}, s ∉ l → TL.spl [s] 0 acc l = [acc ++ l]
  | [], acc, _ => by rw [TL.spl_nil, List.append_nil]
  | c :: r, acc, h => by
    have hc : ¬ c = s := fun e => h (by rw [e]; exact List.mem_cons_self ..)
    rw [TL.spl_miss (show TL.pre [s] (c :: r) = false from ?_), spl_free1 (fun m => h (List.mem_cons_of_mem _ m)), List.append_assoc]; rfl
    show ([c] == [s]) = false
    simp [hc]
theorem spl_par {s : Nat} : ∀ (l acc : List Nat), TL.spl [s] 0 acc l = (match TL.par [s] acc l with
  | some (p, q) => p :: TL.spl [s] 0 [] q
  | none => [acc ++ l])
  | [], acc => by rw [TL.spl_nil, List.append_nil]; rfl
  | c :: r, acc => by
    show (if TL.pre [s] (c :: r) = true then acc :: TL.spl [s] 0 [] r else TL.spl [s] 0 (acc ++ [c]) r) = (match (if TL.pre [s] (c :: r) = true then some (acc, r) else TL.par [s] (acc ++ [c]) r) with
      | some (p, q) => p :: TL.spl [s] 0 [] q
      | none => [acc ++ c :: r])
    by_cases h : TL.pre [s] (c :: r) = true
    · rw [if_pos h, if_pos h]
    · rw [if_neg h, if_neg h, spl_par r (acc ++ [c])]
      cases TL.par [s] (acc ++ [c]) r with
      | none => show [(acc ++ [c]) ++ r] = [acc ++ c :: r]; rw [List.append_assoc]; rfl
      | some pq => rfl
theorem par_some {s : Nat} : ∀ {l acc : List Nat} {p q : List Nat}, TL.par [s] acc l = some (p, q) → acc ++ l = p ++ s :: q
  | [], acc, p, q, h => by cases h
  | c :: r, acc, p, q, h => by
    have h' : (if TL.pre [s] (c :: r) = true then some (acc, r) else TL.par [s] (acc ++ [c]) r) = some (p, q) := h
    by_cases k : TL.pre [s] (c :: r) = true
    · rw [if_pos k] at h'
      have e : c = s := by
        have : ([c] == [s]) = true := k
        simpa using this
      cases h'; rw [e]
    · rw [if_neg k] at h'
      have := par_some h'
      rw [← this, List.append_assoc]; rfl
theorem dval_aux : ∀ (d : List Nat) (a : Nat), d.all dgt = true → d.foldl (fun acc c => acc * 10 + (c - 48)) a < (a + 1) * 10 ^ d.length
  | [], a, _ => by simp
  | c :: r, a, h => by
    obtain ⟨h1, h2⟩ := Bool.and_eq_true_iff.mp (show (dgt c && r.all dgt) = true from h)
    have h3 := (dgt_iff c).mp h1
    have ih := dval_aux r (a * 10 + (c - 48)) h2
    show r.foldl (fun acc c => acc * 10 + (c - 48)) (a * 10 + (c - 48)) < (a + 1) * 10 ^ (r.length + 1)
    refine Nat.lt_of_lt_of_le ih ?_
    rw [Nat.pow_succ, show (a + 1) * (10 ^ r.length * 10) = ((a + 1) * 10) * 10 ^ r.length by rw [Nat.mul_comm (10 ^ r.length) 10, Nat.mul_assoc]]
    exact Nat.mul_le_mul_right _ (by omega)
theorem dval_le (d : List Nat) (h : d.all dgt = true) : NumText.digitsVal d < 10 ^ d.length := by
  have := dval_aux d 0 h
  rw [Nat.zero_add, Nat.one_mul] at this
  exact this
theorem dOk_num {d : List Nat} (h : dOk d = true) : numOk d = true ∧ 1 ≤ NumText.digitsVal d ∧ NumText.digitsVal d ≤ 999999 := by
  cases d with
  | nil => cases h
  | cons c r =>
    obtain ⟨h1, h2⟩ := Bool.and_eq_true_iff.mp h
    obtain ⟨h3, h4⟩ := Bool.and_eq_true_iff.mp h2
    have c48 : c ≠ 48 := of_decide_eq_true h3
    have hc := (dgt_iff c).mp (List.all_eq_true.mp h4 c (List.mem_cons_self ..))
    have l6 : (c :: r).length ≤ 6 := of_decide_eq_true h1
    refine ⟨?_, NumText.digitsVal_pos (by omega), ?_⟩
    · show (decide _ && (_ && !(decide (c = 48) && _))) = true
      rw [h1, h4, decide_eq_false c48]; rfl
    · have := dval_le _ h4
      have k : 10 ^ (c :: r).length ≤ 10 ^ 6 := Nat.pow_le_pow_right (by decide) l6
      have : (10 : Nat) ^ 6 = 1000000 := by decide
      omega
theorem num_zero {d : List Nat} (h : numOk d = true) (n : dOk d = false) : NumText.digitsVal d = 0 := by
  cases d with
  | nil => cases h
  | cons c r =>
    obtain ⟨h1, h2⟩ := Bool.and_eq_true_iff.mp h
    obtain ⟨h3, h4⟩ := Bool.and_eq_true_iff.mp h2
    have n' : (decide ((c :: r).length ≤ 6) && (decide (c ≠ 48) && (c :: r).all dgt)) = false := n
    rw [h1, h3] at n'
    have e : c = 48 := by simpa using n'
    rw [decide_eq_true e] at h4
    have : c :: r = [48] := by simpa using h4
    rw [this]; decide
theorem isint {d : List Nat} (h : d.all dgt = true) (hne : d ≠ []) (hl : d.length ≤ 4300) : PySem.intText? (S d) = some ((NumText.digitsVal d : Nat) : Int) := by
  refine int_S (List.all_eq_true.mpr fun c m => ?_) hne hl
  have := (dgt_iff c).mp (List.all_eq_true.mp h c m)
  rw [decide_eq_true this.1, decide_eq_true this.2]; rfl
/-- the parts of a text at @ -/
theorem split_at (x : Str) : Txt.split x (Str.ofString "@") = (TL.spl [64] 0 [] (tl x)).map S := split_S (a := tl x) (b := [64]) (by decide) (by decide)
theorem split_dot (x : Str) : Txt.split x (Str.ofString ".") = (TL.spl [46] 0 [] (tl x)).map S := split_S (a := tl x) (b := [46]) (by decide) (by decide)
theorem part_some {x : Str} {p q : List Nat} (h : TL.par [64] [] (tl x) = some (p, q)) : Txt.partition x (Str.ofString "@") = (S p, Str.ofString "@", S q) := partition_some (a := tl x) (b := [64]) (by decide) h
theorem part_none {x : Str} (h : TL.par [64] [] (tl x) = none) : Txt.partition x (Str.ofString "@") = (x, S [], S []) := partition_none (a := tl x) (b := [64]) (by decide) h

def sp_number_of : Sp := fun vs H Q _ => ∃ (x : Str), vs = [.str x, .int 6] ∧ (tl x).length ≤ 2000 ∧ ∀ H', Same H H' → Q (numV (tl x)) H'
def sp_is_word : Sp := fun vs H Q _ => ∃ (x : Str), vs = [.str x] ∧ (tl x).length ≤ 2000 ∧ ∀ H', Same H H' → Q (.bl (plain (tl x))) H'
def sp_is_name : Sp := fun vs H Q _ => ∃ (x : Str), vs = [.str x] ∧ (tl x).length ≤ 2000 ∧ ∀ H', Same H H' → Q (.bl (nameB (tl x))) H'
def sp_is_address : Sp := fun vs H Q _ => ∃ (x : Str), vs = [.str x] ∧ (tl x).length ≤ 2000 ∧ ∀ H', Same H H' → Q (.bl (addrB (tl x))) H'
def sp_is_board : Sp := fun vs H Q _ => ∃ (x : Str), vs = [.str x] ∧ (tl x).length ≤ 2000 ∧ ∀ H', Same H H' → Q (.bl (boardB (tl x))) H'
def sp_is_id (K : PySem.W.Frag) : Sp := fun vs H Q _ => ∃ (a : Addr) (x : Str) (n : Int), vs = [.ref a] ∧ SqT K H a [.str x, .int n] ∧ (tl x).length ≤ 2000 ∧ ∀ H', Same H H' → Q (.bl (nameB (tl x) && (decide (1 ≤ n) && decide (n ≤ 999999)))) H'
def sp_id_text (K : PySem.W.Frag) : Sp := fun vs H Q _ => ∃ (a : Addr) (x : Str) (n : Nat), vs = [.ref a] ∧ SqT K H a [.str x, .int (n : Int)] ∧ (tl x).length ≤ 2000 ∧ n ≤ 999999 ∧ ∀ y : Str, tl y = TL.numL n ++ 64 :: tl x → Q (.str y) H
def sp_id_of (K : PySem.W.Frag) : Sp := fun vs H Q _ => ∃ (x : Str), vs = [.str x] ∧ (tl x).length ≤ 2000 ∧ ∀ v H', Same H H' → DV K H' (identD (tl x)) v → Q v H'
def sp_split_address (K : PySem.W.Frag) : Sp := fun vs H Q _ => ∃ (x : Str) (p q : List Nat), vs = [.str x] ∧ (tl x).length ≤ 2000 ∧ TL.par [64] [] (tl x) = some (p, q) ∧ ∀ v H', Same H H' → DV K H' (.tup [.str (S p), .str (S q)]) v → Q v H'
def sp__law_bent : Sp := fun vs H Q _ => ∃ (s a : Addr) (x : Str) (c : Nat), vs = [.ref s, .str x] ∧ (tl x).length ≤ 1900 ∧ Src H s a (c + 10) ∧ ∀ (y : Str) (H' : Hp), (tl y).length ≤ (tl x).length + 10 → Ext s H H' → Src H' s a c → Q (.str y) H'
def sp__law_strings : Sp := fun vs H Q _ => ∃ (s a : Addr) (c : Nat), vs = [.ref s] ∧ Src H s a (c + 500) ∧ ∀ (u : Addr) (us : List Str) (H' : Hp), H u = none → H' u = some (.lst (us.map V.str)) → us.length ≤ 20 → (∀ x ∈ us, (tl x).length ≤ 1000) → Ext s H H' → Src H' s a c → Q (.ref u) H'
theorem eqL {x y : Str} : V.str x = V.str y ↔ tl x = tl y := ⟨fun h => by injection h with h; rw [h], fun h => by rw [tl_ext h]⟩
theorem numOk_iff (l : List Nat) : numOk l = true ↔ l ≠ [] ∧ l.length ≤ 6 ∧ l.all dgt = true ∧ ¬ (l.head? = some 48 ∧ l ≠ [48]) := by
  cases l with
  | nil => exact ⟨fun h => (by cases h), fun h => absurd rfl h.1⟩
  | cons c r =>
    show (decide _ && (_ && !(decide (c = 48) && decide _))) = true ↔ _
    simp only [Bool.and_eq_true, decide_eq_true_eq, Bool.not_eq_true', Bool.and_eq_false_iff, decide_eq_false_iff_not, List.head?_cons, Option.some.injEq]
    constructor
    · rintro ⟨a, b, c⟩; exact ⟨by simp, a, b, fun h => c.elim (fun k => k h.1) (fun k => k h.2)⟩
    · rintro ⟨_, a, b, k0⟩
      refine ⟨a, b, ?_⟩
      by_cases k : c = 48
      · exact .inr fun e => k0 ⟨k, e⟩
      · exact .inl k
theorem plain_iff (l : List Nat) : plain l = true ↔ ∃ c, l.head? = some c ∧ ltr c = true ∧ l.all alnum = true := by
  cases l with
  | nil => exact ⟨fun h => (by cases h), fun ⟨c, h, _⟩ => (by cases h)⟩
  | cons c r =>
    show (ltr c && _) = true ↔ _
    rw [Bool.and_eq_true]
    exact ⟨fun h => ⟨c, rfl, h⟩, fun ⟨d, e, h⟩ => by cases e; exact h⟩
theorem head_at {x : Str} (h : tl x ≠ []) : ∃ c, x.cps[(0 : Int).toNat]? = some c ∧ (tl x).head? = some c := by
  have h1 : (0 : Int) < (x.length : Int) := by
    have := List.length_pos_iff.mpr h
    rw [tl_len]; omega
  obtain ⟨c, e1, e2, _⟩ := at_str (Int.le_refl 0) h1
  refine ⟨c, e1, ?_⟩
  rw [List.head?_eq_getElem?]; exact e2
theorem spl_bound (c0 : Nat) : ∀ (l acc : List Nat), (∀ q ∈ TL.spl [c0] 0 acc l, q.length ≤ acc.length + l.length) ∧ (TL.spl [c0] 0 acc l).length ≤ l.length + 1
  | [], acc => by
    rw [TL.spl_nil]
    exact ⟨fun q h => by rw [List.mem_singleton.mp h]; exact Nat.le_refl _, Nat.le_refl _⟩
  | c :: r, acc => by
    cases h : TL.pre [c0] (c :: r) with
    | true =>
      rw [TL.spl_hit h]
      have ih := spl_bound c0 r []
      refine ⟨fun q hq => ?_, ?_⟩
      · rcases List.mem_cons.mp hq with e | e
        · subst e; omega
        · have := ih.1 q e; rw [List.length_nil] at this; rw [List.length_cons]; omega
      · have := ih.2; show (TL.spl [c0] 0 [] r).length + 1 ≤ r.length + 1 + 1; omega
    | false =>
      rw [TL.spl_miss h]
      have ih := spl_bound c0 r (acc ++ [c])
      refine ⟨fun q hq => ?_, ?_⟩
      · have := ih.1 q hq; rw [List.length_append] at this; rw [List.length_cons]; simp at this; omega
      · rw [List.length_cons]; have := ih.2; omega
theorem spl_ne {s : Nat} (l acc : List Nat) : TL.spl [s] 0 acc l ≠ [] := by
  rw [spl_par]
  cases TL.par [s] acc l with
  | none => exact fun h => (by cases h)
  | some pq => exact fun h => (by cases h)
theorem at_two (l : List Nat) : (∃ p r, TL.par [64] [] l = some (p, r) ∧ TL.spl [64] 0 [] l = [p, r]) ∨ ((TL.spl [64] 0 [] l).length ≠ 2 ∧ ∀ p r, TL.par [64] [] l = some (p, r) → nameB r = false) := by
  cases hp : TL.par [64] [] l with
  | none =>
    refine .inr ⟨?_, fun p r h => (by cases h)⟩
    rw [spl_par, hp]; exact fun h => (by cases h)
  | some pr =>
    obtain ⟨p, r⟩ := pr
    have e : TL.spl [64] 0 [] l = p :: TL.spl [64] 0 [] r := by rw [spl_par, hp]
    cases hr : TL.par [64] [] r with
    | none => exact .inl ⟨p, r, rfl, by rw [e, spl_par r [], hr]; rfl⟩
    | some pq =>
      obtain ⟨p', q'⟩ := pq
      have e2 : TL.spl [64] 0 [] r = p' :: TL.spl [64] 0 [] q' := by rw [spl_par r [], hr]
      refine .inr ⟨?_, fun p0 r0 h => ?_⟩
      · rw [e, e2]
        have := List.length_pos_iff.mpr (spl_ne (s := 64) q' [])
        show (_ + 1) + 1 ≠ 2
        omega
      · cases h
        have := par_some hr
        rw [List.nil_append] at this
        cases k : nameB r with
        | false => rfl
        | true => exact absurd (by rw [this]; simp) (name_free k)
theorem addr_false {l : List Nat} (hn : ∀ p r, TL.par [64] [] l = some (p, r) → nameB r = false) : addrB l = false := by
  unfold addrB
  cases hp : TL.par [64] [] l with
  | none => rfl
  | some pr => obtain ⟨p, r⟩ := pr; show (nameB p && nameB r) = false; rw [hn p r hp, Bool.and_false]
theorem ident_non {l : List Nat} (hn : ∀ p r, TL.par [64] [] l = some (p, r) → (dOk p && nameB r) = false) : identD l = .non := by
  unfold identD
  cases hp : TL.par [64] [] l with
  | none => rfl
  | some pr => obtain ⟨p, r⟩ := pr; show (if (dOk p && nameB r) = true then _ else _) = _; rw [hn p r hp]; rfl
theorem cut_le (x : Str) (i j : Option Int) : (tl (cutS x i j)).length ≤ (tl x).length := by
  show ((List.drop _ (tl x)).take _).length ≤ _
  rw [List.length_take, List.length_drop]; omega
theorem ext_free {H H1 : Hp} {s a u : Addr} {c : Nat} (x : Ext s H H1) (S : Src H1 s a c) (h : H1 u = none) : H u = none := by
  cases e : H u with
  | none => rfl
  | some o =>
    by_cases q : u = s
    · subst q
      obtain ⟨xs, e2⟩ := S.lst
      rw [h] at e2; cases e2
    · have := x _ _ q e
      rw [h] at this; cases this
theorem joinL_len {s : List Nat} {n : Nat} : ∀ {ls : List (List Nat)}, (∀ l ∈ ls, l.length ≤ n) → (TL.joinL s ls).length ≤ ls.length * (n + s.length)
  | [], _ => by simp [TL.joinL]
  | [x], h => by have := h x (by simp); show x.length ≤ 1 * (n + s.length); omega
  | x :: y :: r, h => by
    have ih := joinL_len (s := s) (ls := y :: r) (fun l m => h l (List.mem_cons_of_mem _ m))
    have := h x (by simp)
    show (x ++ (s ++ TL.joinL s (y :: r))).length ≤ ((y :: r).length + 1) * (n + s.length)
    rw [List.length_append, List.length_append, Nat.succ_mul]
    omega
theorem tl_joinS (s : Str) (xs : List Str) : tl (Txt.join s xs) = TL.joinL (tl s) (xs.map tl) := by
  have h := join_S (tl s) (xs.map tl)
  rw [tl_mapS] at h
  exact congrArg tl h
theorem sum_len {n : Nat} : ∀ {xs : List Str}, (∀ x ∈ xs, (tl x).length ≤ n) → (xs.map (·.length)).sum ≤ xs.length * n
  | [], _ => by simp
  | x :: xs, h => by
    have := h x (by simp)
    have ih := sum_len (n := n) (xs := xs) (fun y m => h y (List.mem_cons_of_mem _ m))
    rw [List.map_cons, List.sum_cons, List.length_cons, Nat.succ_mul, tl_len]; omega
def sp8__law_new_name (K : PySem.W.Frag) : Sp := fun vs H Q _ => ∃ (s a u : Addr) (us : List Str) (c : Nat), vs = [.ref s, .ref u] ∧ SqL K H u (us.map V.str) ∧ u ≠ s ∧ us.length ≤ 9 ∧ Src H s a (c + 8) ∧
  ∀ (x : Str) (H' : Hp), Nm (tl x) → (tl x).length ≤ 8 → Ext s H H' → Src H' s a c → Q (.str x) H'
def sp8__law_names (K : PySem.W.Frag) : Sp := fun vs H Q _ => ∃ (s a : Addr) (m c : Nat), vs = [.ref s, .int m] ∧ m ≤ 9 ∧ Src H s a (c + 8 * m) ∧
  ∀ (u : Addr) (us : List Str) (H' : Hp), H u = none → H' u = some (.lst (us.map V.str)) → us.length = m → (∀ x ∈ us, Nm (tl x) ∧ (tl x).length ≤ 8) → Ext s H H' → Src H' s a c → Q (.ref u) H'
theorem numL_lead : ∀ m : Nat, 1 ≤ m → ∃ c r, TL.numL m = c :: r ∧ 49 ≤ c ∧ c ≤ 57 := by
  intro m
  induction m using Nat.strongRecOn with
  | ind m ih =>
    intro h
    by_cases k : m < 10
    · rw [TL.numL_lt k]; exact ⟨48 + m, [], rfl, by omega, by omega⟩
    · obtain ⟨c, r, e, h1⟩ := ih (m / 10) (by omega) (by omega)
      rw [TL.numL_step (by omega), e]; exact ⟨c, _, rfl, h1⟩
theorem num_dOk {m : Nat} (h1 : 1 ≤ m) (h2 : m ≤ 999999) : dOk (TL.numL m) = true := by
  obtain ⟨c, r, e, h3, h4⟩ := numL_lead m h1
  have l6 := TL.numL_len (n := m) (k := 6) (by decide) (by omega)
  have ad : (TL.numL m).all dgt = true := List.all_eq_true.mpr fun d hd => (dgt_iff d).mpr (by have := TL.numL_digits m d hd; omega)
  rw [e] at l6 ad ⊢
  show (decide _ && (decide (c ≠ 48) && _)) = true
  rw [decide_eq_true l6, decide_eq_true (show c ≠ 48 by omega), ad]; rfl
theorem par_free1 {s : Nat} {q : List Nat} : ∀ {p acc : List Nat}, s ∉ p → TL.par [s] acc (p ++ s :: q) = some (acc ++ p, q)
  | [], acc, _ => by
    show (if TL.pre [s] (s :: q) = true then some (acc, q) else _) = _
    rw [if_pos (by show ([s] == [s]) = true; simp), List.append_nil]
  | c :: r, acc, h => by
    have hc : ¬ c = s := fun e => h (by rw [e]; exact List.mem_cons_self ..)
    show (if TL.pre [s] (c :: (r ++ s :: q)) = true then _ else TL.par [s] (acc ++ [c]) (r ++ s :: q)) = _
    rw [if_neg (by show ¬ ([c] == [s]) = true; simp [hc]), par_free1 (fun m => h (List.mem_cons_of_mem _ m)), List.append_assoc]; rfl
theorem Nm.name {l : List Nat} (h : Nm l) (h8 : l.length ≤ 8) : nameB l = true := by
  obtain ⟨⟨c, r, e, h1⟩, h2⟩ := h
  unfold nameB
  rw [decide_eq_true h8, (plain_iff l).mpr ⟨c, by rw [e]; rfl, (ltr_iff c).mpr h1, List.all_eq_true.mpr fun d hd => ?_⟩]; rfl
  unfold alnum
  rcases h2 d hd with k | k
  · rw [(ltr_iff d).mpr k]; rfl
  · rw [(dgt_iff d).mpr k, Bool.or_true]
theorem ident_text {m : Nat} {x : Str} (h1 : 1 ≤ m) (h2 : m ≤ 999999) (hx : Nm (tl x)) (h8 : (tl x).length ≤ 8) : identD (TL.numL m ++ 64 :: tl x) = .tup [.str x, .int (m : Int)] := by
  unfold identD
  rw [par_free1 (s := 64) (acc := []) (TL.numL_free (.inr (by decide)))]
  show (if (dOk ([] ++ TL.numL m) && nameB (tl x)) = true then _ else _) = _
  rw [List.nil_append, num_dOk h1 h2, hx.name h8, TL.numL_val]; rfl
theorem identDL (l : List Nat) : DL 2 (identD l) := by
  unfold identD
  cases TL.par [64] [] l with
  | none => exact True.intro
  | some pr =>
    obtain ⟨p, r⟩ := pr
    show DL 2 (if (dOk p && nameB r) = true then _ else _)
    split
    · refine ⟨by show 2 ≤ _; decide, fun x hx => ?_⟩
      simp only [List.mem_cons, List.not_mem_nil, or_false] at hx
      rcases hx with e | e <;> subst e <;> exact True.intro
    · exact True.intro
theorem DV.same {K : PySem.W.Frag} {H H' : Hp} (m : Same H H') {d : D} {v : V} (h : DV K H d v) : DV K H' d v := DV.ext (fun _ _ q => m.tup q) h
end Z
namespace Z
open PySem L2
section
variable {P : Program} {w : World} {K : PySem.W.Frag} {mg : Str → Option Value} {base : Heap}
theorem ok__law_mix (D : Df K mg "_law_mix" s__law_mix ["seed", "turn"]) (T : Tx mg) : Cal P w K mg base "_law_mix" ["seed", "turn"] 1 sp__law_mix := by
  obtain ⟨f, fd, F, gf, bf⟩ := D
  refine ⟨f, fd, F.ok sc__law_mix (fun vs H Q E h => ?_) (fun cdv A outer s H vs Q E hr h => ?_), gf, F.kp, bf⟩
  · obtain ⟨x, y, rfl, _⟩ := h; rfl
  · obtain ⟨x, y, rfl, x0, x1, y0, y1, q⟩ := h
    refine ⟨_, (pss_cons (ps_set (i := 2) sc__law_mix.nd rfl (Or.inl rfl) (pe_op op_mod (pe_callTy call_int1 (by rfl) T.n_int (by decide +kernel) (pa_cons (pe_op op_add (pe_op op_add (pe_op op_mul (pv 0) pe_int) (pe_op op_mul (pv 1) pe_int)) pe_int) pa_nil)) pe_int))
      (pss_cons (ps_set (i := 2) sc__law_mix.nd rfl (Or.inl rfl) (pe_op op_mod (pe_callTy call_int1 (by rfl) T.n_int (by decide +kernel) (pa_cons (pe_op op_add (pe_op op_add (pe_op op_mul (pv 2) (pv 2)) (pe_op op_mul (pv 1) pe_int)) pe_int) pa_nil)) pe_int))
      (pss_cons (ps_set (i := 2) sc__law_mix.nd rfl (Or.inl rfl) (pe_op op_mod (pe_callTy call_int1 (by rfl) T.n_int (by decide +kernel) (pa_cons (pe_op op_add (pe_op op_add (pe_op op_mul (pv 2) pe_int) (pe_op op_mul (pe_op op_mul (pv 1) (pv 1)) pe_int)) pe_int) pa_nil)) pe_int))
      (pss_one (ps_ret (pv 2)))))), ?_⟩

    refine ⟨_, rfl, _, _, rfl, rfl, .inr (by decide), _, rfl, _, _, rfl, rfl, .inr (by decide), _, _, rfl, rfl, _, _, rfl, rfl, .inl ⟨_, rfl, _, _, rfl, rfl, (by show (0 : Int) < _; decide), ?_⟩⟩
    refine ⟨_, rfl, _, rfl, _, _, rfl, rfl, .inl ⟨by omega, by omega⟩, _, rfl, _, _, rfl, rfl, .inr (by decide), _, _, rfl, rfl, _, _, rfl, rfl, .inl ⟨_, rfl, _, _, rfl, rfl, (by show (0 : Int) < _; decide), ?_⟩⟩
    refine ⟨_, rfl, _, _, rfl, rfl, .inr (by decide), _, rfl, _, rfl, _, _, rfl, rfl, .inl ⟨by omega, by omega⟩, _, _, rfl, rfl, .inr (by decide), _, _, rfl, rfl, _, _, rfl, rfl, .inl ⟨_, rfl, _, _, rfl, rfl, (by show (0 : Int) < _; decide), ?_⟩⟩
    exact ⟨_, rfl, q _ (Int.emod_nonneg _ (by decide)) (by omega)⟩
end
end Z
namespace Z
open PySem L2
section
variable {P : Program} {w : World} {K : PySem.W.Frag} {mg : Str → Option Value} {base : Heap}
theorem ok__law_source (D : Df K mg "_law_source" s__law_source ["script"]) (T : Tx mg) (C__law_mix : Cal P w K mg base "_law_mix" ["seed", "turn"] 1 sp__law_mix) : Cal P w K mg base "_law_source" ["script"] 2 (sp__law_source K) := by
  obtain ⟨f__law_mix, fd__law_mix, G__law_mix, g__law_mix, k__law_mix, b__law_mix⟩ := C__law_mix
  obtain ⟨f, fd, F, gf, bf⟩ := D
  refine ⟨f, fd, F.ok sc__law_source (fun vs H Q E h => ?_) (fun cdv A outer s H vs Q E hr h => ?_), gf, F.kp, bf⟩
  · obtain ⟨a, ns, rfl, _⟩ := h; rfl
  · obtain ⟨a, ns, rfl, hS, hlen, q⟩ := h
    refine ⟨_, (pss_cons (ps_set (i := 1) sc__law_source.nd rfl (Or.inl rfl) pe_int)
      (pss_cons (ps_for PassesOwn.never rfl (pi_range1 (by rfl) T.n_range (pa_cons (pe_callB call_len_seq (by rfl) T.n_len PySem.boot_len (pa_cons (pv 0) pa_nil)) pa_nil)) (pg_name (i := 2) sc__law_source.nd rfl (Or.inl rfl))
      (pss_one (ps_set (i := 1) sc__law_source.nd rfl (Or.inl rfl) (pe_call G__law_mix (hr.mono (by decide)) (by rfl) g__law_mix k__law_mix b__law_mix .nil pass0 (pa_cons (pe_op op_add (pv 1) (pe_op op_mod (pe_callTy call_int1 (by rfl) T.n_int (by decide +kernel) (pa_cons (pe_ix ix_list (pv 0) (pv 2) (fun _ _ => rfl)) pa_nil)) pe_int)) (pa_cons (pv 2) pa_nil))))))
      (pss_one (ps_ret (pe_lst (pa_cons (pe_callTy call_list_of (by rfl) T.n_list (by decide +kernel) (pa_cons (pv 0) pa_nil)) (pa_cons pe_int (pa_cons pe_int (pa_cons (pv 1) (pa_cons pe_int pa_nil)))))))))), ?_⟩
    refine ⟨_, rfl, a, _, rfl, .inl hS, _, rfl, by rw [List.length_map]; omega, by rw [List.length_map]; omega, ?_⟩
    refine for_range (lo := 0) (n := (((ns.map V.int).length : Int)).toNat) (fun i σ H' => ∃ (e : Int) (v : Option V), σ = [some (.ref a), some (.int e), v] ∧ H' = H ∧ 0 ≤ e ∧ e < 2147483647) ⟨17, none, rfl, rfl, by decide, by decide⟩ ?_ ?_
    · rintro i σ H' hi ⟨e, v, rfl, rfl, e0, e1⟩
      rw [List.length_map] at hi
      have hi' : i < ns.length := by omega
      refine ⟨_, rfl, _, rfl, _, rfl, a, _, _, .int ns[i], rfl, rfl, hS, ?_, .inl ⟨_, rfl, _, _, rfl, rfl, (by show (0 : Int) < _; decide), _, _, rfl, rfl, _, rfl, ?_⟩⟩
      · rw [Int.zero_add]
        exact atI_nat (by rw [List.getElem?_map, List.getElem?_eq_getElem hi']; rfl)
      · refine ⟨_, _, rfl, ?_, ?_, ?_, ?_, fun v v0 v1 => ?_⟩
        · have := Int.emod_nonneg ns[i] (by decide : (2147483647 : Int) ≠ 0); omega
        · have := Int.emod_lt_of_pos ns[i] (by decide : (0 : Int) < 2147483647); omega
        · omega
        · omega
        · exact ⟨v, _, rfl, rfl, v0, v1⟩
    · rintro σ H' ⟨e, v, rfl, rfl, e0, e1⟩
      refine ⟨_, rfl, a, _, rfl, .inl hS, fun l hl => ?_⟩
      refine ⟨_, rfl, by show 5 ≤ sizeLine; decide, fun s hs => ?_⟩
      have hsl : s ≠ l := fun z => by rw [z, upd_same] at hs; cases hs
      have hs0 : H' s = none := by rw [upd_ne hsl] at hs; exact hs
      refine q s l _ hs0 ((same_new hl).trans (same_new hs)) ⟨ns, 0, 0, e, 0, upd_same, by rw [upd_ne hsl.symm, upd_same], hsl.symm, hlen, by decide, by decide, by decide, e0, e1, by decide, by decide⟩
end
end Z
namespace Z
open PySem L2
section
variable {P : Program} {w : World} {K : PySem.W.Frag} {mg : Str → Option Value} {base : Heap}
theorem ok__law_draw (D : Df K mg "_law_draw" s__law_draw ["source", "many"]) (T : Tx mg) (C__law_mix : Cal P w K mg base "_law_mix" ["seed", "turn"] 1 sp__law_mix) : Cal P w K mg base "_law_draw" ["source", "many"] 2 sp__law_draw := by
  obtain ⟨f__law_mix, fd__law_mix, G__law_mix, g__law_mix, k__law_mix, b__law_mix⟩ := C__law_mix
  obtain ⟨f, fd, F, gf, bf⟩ := D
  refine ⟨f, fd, F.ok sc__law_draw (fun vs H Q E h => ?_) (fun cdv A outer s H vs Q E hr h => ?_), gf, F.kp, bf⟩
  · obtain ⟨s, a, m, c, rfl, _⟩ := h; rfl
  · obtain ⟨s, a, m, c, rfl, m0, m1, hS, q⟩ := h
    refine ⟨_, (C8.pss_cut (ps_if (PW.pt (pw_and (pt_cmpR op_eq (pe_ix ix_list (pv 0) pe_int (fun _ _ => rfl)) pe_int (nomark _)) (pw_and (pt_cmpR op_lt (pe_ix ix_list (pv 0) pe_int (fun _ _ => rfl)) (pe_callB call_len_seq (by rfl) T.n_len PySem.boot_len (pa_cons (pe_ix ix_list (pv 0) pe_int (fun _ _ => rfl)) pa_nil)) (nomark _)) (pw_and1 (pt_cmpR op_eq (pe_op op_mod (pe_callTy call_int1 (by rfl) T.n_int (by decide +kernel) (pa_cons (pe_ix ix_list (pv 0) pe_int (fun _ _ => rfl)) pa_nil)) pe_int) pe_int (nomark _))))))
      (pss_cons (ps_set (i := 2) sc__law_draw.nd rfl (Or.inl rfl) (pe_ix ix_list (pe_ix ix_list (pv 0) pe_int (fun _ _ => rfl)) (pe_ix ix_list (pv 0) pe_int (fun _ _ => rfl)) (fun _ _ => rfl)))
        (pss_cons (ps_asg (pe_op op_add (pe_ix ix_list (pv 0) pe_int (fun _ _ => rfl)) pe_int) (pg_sub (pv 0) pe_int set_list))
        (pss_one (ps_if (pt_cmpR op_ge (pe_callB call_abs (by rfl) T.n_abs (by decide +kernel) (pa_cons (pv 2) pa_nil)) (pe_op op_pow pe_int pe_int) (nomark _))
        (pss_one (ps_asg (pe_op op_and (pe_callB call_abs (by rfl) T.n_abs (by decide +kernel) (pa_cons (pv 2) pa_nil)) (pe_op op_sub (pe_op op_shl pe_int pe_int) pe_int)) (pg_sub (pv 0) pe_int set_list)))
        (pss_one (ps_asg (pe_call G__law_mix (hr.mono (by decide)) (by rfl) g__law_mix k__law_mix b__law_mix .nil pass0 (pa_cons (pe_op op_add (pe_ix ix_list (pv 0) pe_int (fun _ _ => rfl)) (pe_op op_mod (pe_callTy call_int1 (by rfl) T.n_int (by decide +kernel) (pa_cons (pv 2) pa_nil)) pe_int)) (pa_cons (pe_ix ix_list (pv 0) pe_int (fun _ _ => rfl)) pa_nil))) (pg_sub (pv 0) pe_int set_list)))))))
      pss_nil)
      (pss_cons (ps_if (pt_cmpR op_gt (pe_ix ix_list (pv 0) pe_int (fun _ _ => rfl)) pe_int (nomark _))
      (pss_cons (ps_set (i := 3) sc__law_draw.nd rfl (Or.inl rfl) (pe_op op_mod (pe_callTy call_int1 (by rfl) T.n_int (by decide +kernel) (pa_cons (pe_ix ix_list (pv 0) pe_int (fun _ _ => rfl)) pa_nil)) (pv 1)))
        (pss_cons (ps_asg (pe_op op_fdivN (pe_callTy call_int1 (by rfl) T.n_int (by decide +kernel) (pa_cons (pe_ix ix_list (pv 0) pe_int (fun _ _ => rfl)) pa_nil)) (pv 1)) (pg_sub (pv 0) pe_int set_list))
        (pss_one (ps_ret (pv 3)))))
      pss_nil)
      (pss_cons (ps_asg (pe_op op_add (pe_ix ix_list (pv 0) pe_int (fun _ _ => rfl)) pe_int) (pg_sub (pv 0) pe_int set_list))
      (pss_one (ps_ret (pe_op op_mod (pe_callTy call_int1 (by rfl) T.n_int (by decide +kernel) (pa_cons (pe_op op_fdiv (pe_call G__law_mix (hr.mono (by decide)) (by rfl) g__law_mix k__law_mix b__law_mix .nil pass0 (pa_cons (pe_ix ix_list (pv 0) pe_int (fun _ _ => rfl)) (pa_cons (pe_ix ix_list (pv 0) pe_int (fun _ _ => rfl)) pa_nil))) pe_int) pa_nil)) (pv 1))))))), ?_⟩
    refine ⟨fun σ' H' => (∃ v2 v3, σ' = [some (.ref s), some (.int m), v2, v3]) ∧ Src H' s a (c + 1) ∧ Ext s H H', ?_, ?_⟩
    · obtain ⟨ns, i, b, e, t, h1, h2, as, h4, h5, h6, h7, h8, h9, h10, h11⟩ := id hS
      have hL : SqL K H s [.ref a, .int i, .int b, .int e, .int t] := SqL.of h1
      refine ⟨_, rfl, _, _, _, _, rfl, rfl, hL, rfl, rfl, _, rfl, ite2 (fun c1 => ?_) (fun c1 => iteF ⟨⟨_, _, rfl⟩, hS, Ext.refl _ _⟩)⟩
      refine ⟨_, rfl, _, _, _, _, rfl, rfl, hL, rfl, _, rfl, _, _, _, _, rfl, rfl, hL, rfl, a, _, rfl, .inl (SqL.of h2), _, _, rfl, rfl, _, rfl, ite2 (fun c2 => ?_) (fun c2 => iteF ⟨⟨_, _, rfl⟩, hS, Ext.refl _ _⟩)⟩
      refine ⟨_, rfl, _, _, _, _, rfl, rfl, hL, rfl, .inl ⟨_, rfl, _, _, rfl, rfl, (by show (0 : Int) < 6; decide), rfl, _, rfl, ite2 (fun c3 => ?_) (fun c3 => ⟨⟨_, _, rfl⟩, hS, Ext.refl _ _⟩)⟩⟩
      have hi : i < ns.length := by
        have := of_decide_eq_true c2
        rw [List.length_map] at this
        exact this
      have hi' : i.toNat < ns.length := by omega
      -- cell = source[0][source[1]]
      refine ⟨_, rfl, _, _, _, _, rfl, rfl, hL, rfl, _, rfl, _, _, _, _, rfl, rfl, hL, rfl, a, _, _, .int ns[i.toNat], rfl, rfl, SqL.of h2, at_of (j := i.toNat) (by omega) (by rw [List.getElem?_map, List.getElem?_eq_getElem hi']; rfl), ?_⟩
      -- source[1] = source[1] + 1
      refine ⟨_, rfl, _, _, _, _, rfl, rfl, hL, rfl, _, _, rfl, rfl, _, rfl, _, _, _, 1, rfl, rfl, h1, rfl, ?_⟩
      refine ⟨_, rfl, _, rfl, _, _, rfl, rfl, ⟨by decide, by decide, by decide⟩, _, _, rfl, rfl, _, rfl, ite2 (fun c4 => ?_) (fun c4 => ?_)⟩
      · refine ⟨_, rfl, _, rfl, _, _, rfl, rfl, ⟨by decide, by decide, by decide⟩, _, _, rfl, rfl, _, _, rfl, rfl, _, rfl, _, _, _, 2, rfl, rfl, upd_same, rfl, ?_⟩
        refine ⟨⟨_, _, rfl⟩, ?_, ?_⟩
        · refine ⟨ns, i + 1, _, e, t, upd_same, by rw [upd_ne as, upd_ne as]; exact h2, as, h4, by omega, by omega, ?_, h8, h9, h10, h11⟩
          exact and_nn (by split <;> omega) _
        · exact Ext.put.trans Ext.put
      · refine ⟨_, rfl, _, _, _, _, rfl, rfl, SqL.of upd_same, rfl, _, rfl, .inl ⟨_, rfl, _, _, rfl, rfl, (by show (0 : Int) < 2147483647; decide), _, _, rfl, rfl, _, rfl, _, _, _, _, rfl, rfl, SqL.of upd_same, rfl, _, _, rfl, ?_, ?_, ?_, ?_, fun v v0 v1 => ?_⟩⟩
        · have := Int.emod_nonneg ns[i.toNat] (by decide : (2147483647 : Int) ≠ 0); omega
        · have := Int.emod_lt_of_pos ns[i.toNat] (by decide : (0 : Int) < 2147483647); omega
        · omega
        · omega
        · refine ⟨_, rfl, _, _, _, 3, rfl, rfl, upd_same, rfl, ⟨_, _, rfl⟩, ?_, Ext.put.trans Ext.put⟩
          exact ⟨ns, i + 1, b, v, t, upd_same, by rw [upd_ne as, upd_ne as]; exact h2, as, h4, by omega, by omega, h7, v0, v1, h10, h11⟩
    · rintro σ' H' ⟨⟨v2, v3, rfl⟩, hS', hx⟩
      obtain ⟨ns, i, b, e, t, h1, h2, as, h4, h5, h6, h7, h8, h9, h10, h11⟩ := id hS'
      have hL : SqL K H' s [.ref a, .int i, .int b, .int e, .int t] := SqL.of h1
      refine ⟨_, rfl, _, _, _, _, rfl, rfl, hL, rfl, _, _, rfl, rfl, _, rfl, ite2 (fun c1 => ?_) (fun c1 => ?_)⟩
      · refine ⟨_, rfl, _, _, _, _, rfl, rfl, hL, rfl, .inl ⟨_, rfl, _, rfl, _, _, rfl, rfl, m0, ?_⟩⟩
        refine ⟨_, rfl, _, _, _, _, rfl, rfl, hL, rfl, .inl ⟨_, rfl, _, rfl, _, _, rfl, rfl, ⟨by omega, by omega⟩, _, rfl, _, _, _, 2, rfl, rfl, h1, rfl, ?_⟩⟩
        refine ⟨_, rfl, q _ _ (Int.emod_nonneg _ (by omega)) (Int.emod_lt_of_pos _ m0) (hx.trans Ext.put) ?_⟩
        refine ⟨ns, i, _, e, t, upd_same, by rw [upd_ne as]; exact h2, as, h4, h5, h6, ?_, h8, h9, h10, by omega⟩
        exact Int.fdiv_nonneg h7 (by omega)
      · refine ⟨_, rfl, _, _, _, _, rfl, rfl, hL, rfl, _, _, rfl, rfl, _, rfl, _, _, _, 4, rfl, rfl, h1, rfl, ?_⟩
        refine ⟨_, rfl, _, _, _, _, rfl, rfl, SqL.of upd_same, rfl, _, rfl, _, _, _, _, rfl, rfl, SqL.of upd_same, rfl, _, _, rfl, h8, by omega, by omega, by omega, fun v v0 v1 => ?_⟩
        refine ⟨_, _, rfl, rfl, ⟨by decide, by decide⟩, .inl ⟨_, rfl, _, rfl, _, _, rfl, rfl, m0, ?_⟩⟩
        refine q _ _ (Int.emod_nonneg _ (by omega)) (Int.emod_lt_of_pos _ m0) (hx.trans Ext.put) ?_
        exact ⟨ns, i, b, e, t + 1, upd_same, by rw [upd_ne as]; exact h2, as, h4, h5, h6, h7, h8, h9, by omega, by omega⟩
end
end Z
namespace Z
open PySem L2
section
variable {P : Program} {w : World} {K : PySem.W.Frag} {mg : Str → Option Value} {base : Heap}
theorem ok__law_is_int (D : Df K mg "_law_is_int" s__law_is_int ["value"]) (T : Tx mg)  : Cal P w K mg base "_law_is_int" ["value"] 1 (sp__law_is_int K) := by
  obtain ⟨f, fd, F, gf, bf⟩ := D
  refine ⟨f, fd, F.ok sc__law_is_int (fun vs H Q E h => ?_) (fun cdv A outer s H vs Q E hr h => ?_), gf, F.kp, bf⟩
  · obtain ⟨i, rfl, _⟩ := h; rfl
  · obtain ⟨i, rfl, q⟩ := h
    refine ⟨_, (pss_one (ps_ret (pe_and (pe_callB call_isi (by rfl) T.n_isinstance (by decide +kernel) (pa_cons (pv 0) (pa_cons (pe_bltn (v := .ty "int") (by rfl) T.n_int (by decide +kernel) rfl) pa_nil))) (pe_one (pe_not (pe_callB call_isi (by rfl) T.n_isinstance (by decide +kernel) (pa_cons (pv 0) (pa_cons (pe_bltn (v := .ty "bool") (by rfl) T.n_bool (by decide +kernel) rfl) pa_nil)))))))), ?_⟩
    refine ⟨_, rfl, _, _, _, _, true, rfl, .ty _, .base (.int i), kit_ty (by decide +kernel), _, rfl, ?_⟩
    refine iteT ⟨_, rfl, _, _, _, _, false, rfl, .ty _, .base (.int i), kit_ty (by decide +kernel), _, rfl, q⟩

theorem ok__law_same (D : Df K mg "_law_same" s__law_same ["actual", "due"]) (T : Tx mg) (C__law_is_int : Cal P w K mg base "_law_is_int" ["value"] 1 (sp__law_is_int K)) : ∀ n, Cal P w K mg base "_law_same" ["actual", "due"] (n + 1) (sp__law_same K n)
  | 0 => by
    obtain ⟨f, fd, F, gf, bf⟩ := D
    exact ⟨f, fd, ⟨fun vs H Q E h => by obtain ⟨_, _, _, _, _, _, h, _⟩ := h; exact h.elim, fun A outer s H args us vs Q E _ _ _ _ h => by obtain ⟨_, _, _, _, _, _, h, _⟩ := h; exact h.elim⟩, gf, F.kp, bf⟩
  | n + 1 => by
    obtain ⟨f__law_same, fd__law_same, G__law_same, g__law_same, k__law_same, b__law_same⟩ := ok__law_same D T C__law_is_int n
    obtain ⟨f__law_is_int, fd__law_is_int, G__law_is_int, g__law_is_int, k__law_is_int, b__law_is_int⟩ := C__law_is_int
    obtain ⟨f, fd, F, gf, bf⟩ := D
    refine ⟨f, fd, F.ok sc__law_same (fun vs H Q E h => ?_) (fun cdv A outer s H vs Q E hr h => ?_), gf, F.kp, bf⟩
    · obtain ⟨d, v, u, rfl, _⟩ := h; rfl
    · obtain ⟨d, v, u, rfl, hv, hu, hd, q⟩ := h
      refine ⟨_, (pss_cons (ps_if (pt_val (pe_callB call_isi (by rfl) T.n_isinstance (by decide +kernel) (pa_cons (pv 1) (pa_cons (pe_bltn (v := .ty "tuple") (by rfl) T.n_tuple (by decide +kernel) rfl) pa_nil))))
      (pss_cons (ps_if (PW.pt (pw_or (pt_not (pt_val (pe_callB call_isi (by rfl) T.n_isinstance (by decide +kernel) (pa_cons (pv 0) (pa_cons (pe_bltn (v := .ty "tuple") (by rfl) T.n_tuple (by decide +kernel) rfl) pa_nil))))) (pw_or1 (pt_cmpR op_ne (pe_callB call_len_seq (by rfl) T.n_len PySem.boot_len (pa_cons (pv 0) pa_nil)) (pe_callB call_len_seq (by rfl) T.n_len PySem.boot_len (pa_cons (pv 1) pa_nil)) (nomark _)))))
        (pss_one (ps_ret pe_bl))
        pss_nil)
        (pss_cons (ps_for PassesOwn.never rfl (pi_range1 (by rfl) T.n_range (pa_cons (pe_callB call_len_seq (by rfl) T.n_len PySem.boot_len (pa_cons (pv 1) pa_nil)) pa_nil)) (pg_name (i := 2) sc__law_same.nd rfl (Or.inl rfl))
        (pss_one (ps_if (pt_not (pt_val (pe_call G__law_same hr (by rfl) g__law_same k__law_same b__law_same .nil pass0 (pa_cons (pe_ix ix_tup (pv 0) (pv 2) (fun _ _ => rfl)) (pa_cons (pe_ix ix_tup (pv 1) (pv 2) (fun _ _ => rfl)) pa_nil)))))
          (pss_one (ps_ret pe_bl))
          pss_nil)))
        (pss_one (ps_ret pe_bl))))
      pss_nil)
      (pss_cons (ps_if (pt_cmpR op_isN (pv 1) pe_non (nomark _))
      (pss_one (ps_ret (pe_cmpR op_isN (pv 0) pe_non (nomark _))))
      pss_nil)
      (pss_cons (ps_if (pt_val (pe_callB call_isi (by rfl) T.n_isinstance (by decide +kernel) (pa_cons (pv 1) (pa_cons (pe_bltn (v := .ty "bool") (by rfl) T.n_bool (by decide +kernel) rfl) pa_nil))))
      (pss_one (ps_ret (pe_and (pe_callB call_isi (by rfl) T.n_isinstance (by decide +kernel) (pa_cons (pv 0) (pa_cons (pe_bltn (v := .ty "bool") (by rfl) T.n_bool (by decide +kernel) rfl) pa_nil))) (pe_one (pe_cmpR op_eq (pv 0) (pv 1) (nomark _))))))
      pss_nil)
      (pss_cons (ps_if (pt_val (pe_callB call_isi (by rfl) T.n_isinstance (by decide +kernel) (pa_cons (pv 1) (pa_cons (pe_bltn (v := .ty "int") (by rfl) T.n_int (by decide +kernel) rfl) pa_nil))))
      (pss_one (ps_ret (pe_and (pe_call G__law_is_int (hr.mono (by omega)) (by rfl) g__law_is_int k__law_is_int b__law_is_int .nil pass0 (pa_cons (pv 0) pa_nil)) (pe_one (pe_cmpR op_eq (pv 0) (pv 1) (nomark _))))))
      pss_nil)
      (pss_one (ps_ret (pe_and (pe_callB call_isi (by rfl) T.n_isinstance (by decide +kernel) (pa_cons (pv 0) (pa_cons (pe_bltn (v := .ty "str") (by rfl) T.n_str (by decide +kernel) rfl) pa_nil))) (pe_one (pe_cmpR op_eq (pv 0) (pv 1) (nomark _)))))))))), ?_⟩
      cases d with
      | non =>
        unfold DV at hv hu; subst hv hu
        refine ⟨_, rfl, _, _, _, _, false, rfl, .ty _, .base .non, kit_ty (by decide +kernel), _, rfl, iteF ?_⟩
        exact ⟨_, rfl, rfl, _, rfl, iteT ⟨_, rfl, rfl, q⟩⟩
      | bl b =>
        unfold DV at hv hu; subst hv hu
        refine ⟨_, rfl, _, _, _, _, false, rfl, .ty _, .base (.bl b), kit_ty (by decide +kernel), _, rfl, iteF ?_⟩
        refine ⟨_, rfl, rfl, _, rfl, iteF ?_⟩
        refine ⟨_, rfl, _, _, _, _, true, rfl, .ty _, .base (.bl b), kit_ty (by decide +kernel), _, rfl, iteT ?_⟩
        refine ⟨_, rfl, _, _, _, _, true, rfl, .ty _, .base (.bl b), kit_ty (by decide +kernel), _, rfl, iteT ?_⟩
        refine ⟨_, rfl, _, rfl, rfl, ?_⟩
        rw [decide_eq_true rfl]; exact q
      | int b =>
        unfold DV at hv hu; subst hv hu
        refine ⟨_, rfl, _, _, _, _, false, rfl, .ty _, .base (.int b), kit_ty (by decide +kernel), _, rfl, iteF ?_⟩
        refine ⟨_, rfl, rfl, _, rfl, iteF ?_⟩
        refine ⟨_, rfl, _, _, _, _, false, rfl, .ty _, .base (.int b), kit_ty (by decide +kernel), _, rfl, iteF ?_⟩
        refine ⟨_, rfl, _, _, _, _, true, rfl, .ty _, .base (.int b), kit_ty (by decide +kernel), _, rfl, iteT ?_⟩
        refine ⟨_, rfl, _, rfl, _, rfl, iteT ?_⟩
        refine ⟨_, rfl, _, rfl, rfl, ?_⟩
        rw [decide_eq_true rfl]; exact q
      | str b =>
        unfold DV at hv hu; subst hv hu
        refine ⟨_, rfl, _, _, _, _, false, rfl, .ty _, .base (.str b), kit_ty (by decide +kernel), _, rfl, iteF ?_⟩
        refine ⟨_, rfl, rfl, _, rfl, iteF ?_⟩
        refine ⟨_, rfl, _, _, _, _, false, rfl, .ty _, .base (.str b), kit_ty (by decide +kernel), _, rfl, iteF ?_⟩
        refine ⟨_, rfl, _, _, _, _, false, rfl, .ty _, .base (.str b), kit_ty (by decide +kernel), _, rfl, iteF ?_⟩
        refine ⟨_, rfl, _, _, _, _, true, rfl, .ty _, .base (.str b), kit_ty (by decide +kernel), _, rfl, iteT ?_⟩
        refine ⟨_, rfl, _, rfl, rfl, ?_⟩
        rw [decide_eq_true rfl]; exact q
      | tup ds =>
        unfold DV at hv hu
        obtain ⟨a, vs, rfl, ha, hvs⟩ := hv
        obtain ⟨b, us, rfl, hb, hus⟩ := hu
        have hl := hvs.len
        have hm := hus.len
        refine ⟨_, rfl, _, _, _, _, true, rfl, .ty _, TyX.ofT hb, kit_ty (by decide +kernel), _, rfl, iteT ?_⟩
        refine ⟨_, rfl, _, _, _, _, true, rfl, .ty _, TyX.ofT ha, kit_ty (by decide +kernel), _, rfl, iteF ?_⟩
        refine ⟨_, rfl, a, _, rfl, .inr ha, _, rfl, b, _, rfl, .inr hb, rfl, _, rfl, iteNS (by rw [hl, hm]) ?_⟩
        refine ⟨_, rfl, b, _, rfl, .inr hb, _, rfl, by omega, by have := hd.1; omega, ?_⟩
        refine for_range (lo := 0) (n := ((us.length : Int)).toNat) (fun i σ H' => ∃ (x : Option V), σ = [some (.ref a), some (.ref b), x] ∧ H' = H) ⟨none, rfl, rfl⟩ ?_ ?_
        · rintro i σ H' hi ⟨x, rfl, rfl⟩
          have hi' : i < us.length := by omega
          have hi2 : i < ds.length := by omega
          obtain ⟨v1, e1, q1⟩ := hvs.get (List.getElem?_eq_getElem hi2)
          obtain ⟨v2, e2, q2⟩ := hus.get (List.getElem?_eq_getElem hi2)
          refine ⟨_, rfl, _, rfl, a, _, _, v1, rfl, rfl, ha, at_of (j := i) (by omega) e1, _, rfl, _, rfl, b, _, _, v2, rfl, rfl, hb, at_of (j := i) (by omega) e2, ?_⟩
          refine ⟨ds[i], v1, v2, rfl, q1, q2, hd.2 _ (List.getElem_mem hi2), _, rfl, iteF ?_⟩
          exact ⟨_, rfl, rfl⟩
        · rintro σ H' ⟨x, rfl, rfl⟩
          exact q
end
end Z
namespace Z
open PySem L2 SX
section
variable {P : Program} {w : World} {K : PySem.W.Frag} {mg : Str → Option Value} {base : Heap}
theorem ok__law_once_in (D : Df K mg "_law_once_in" s__law_once_in ["source", "many"]) (T : Tx mg) (C__law_draw : Cal P w K mg base "_law_draw" ["source", "many"] 2 sp__law_draw) : Cal P w K mg base "_law_once_in" ["source", "many"] 3 sp__law_once_in := by
  obtain ⟨f__law_draw, fd__law_draw, G__law_draw, g__law_draw, k__law_draw, b__law_draw⟩ := C__law_draw
  obtain ⟨f, fd, F, gf, bf⟩ := D
  refine ⟨f, fd, F.ok sc__law_once_in (fun vs H Q E h => ?_) (fun cdv A outer s H vs Q E hr h => ?_), gf, F.kp, bf⟩
  · obtain ⟨s, a, m, c, rfl, _⟩ := h; rfl
  · obtain ⟨s, a, m, c, rfl, m0, m1, hS, q⟩ := h
    refine ⟨_, (pss_one (ps_ret (pe_cmpR op_eq (pe_call G__law_draw (hr.mono (by decide)) (by rfl) g__law_draw k__law_draw b__law_draw .nil pass0 (pa_cons (pv 0) (pa_cons (pv 1) pa_nil))) (pe_op op_fdiv (pv 1) pe_int) (nomark _)))), ?_⟩
    refine ⟨_, rfl, _, rfl, s, a, _, c, rfl, m0, m1, hS, fun v H' v0 v1 hE hS' => ?_⟩
    exact ⟨_, rfl, _, _, rfl, rfl, ⟨by decide, by decide⟩, rfl, q _ _ hE hS'⟩
end
end Z
namespace Z
open PySem L2 SX
section
variable {P : Program} {w : World} {K : PySem.W.Frag} {mg : Str → Option Value} {base : Heap}
theorem ok__law_new_name (D : Df K mg "_law_new_name" s__law_new_name ["source", "used"]) (T : Tx mg) (C__law_draw : Cal P w K mg base "_law_draw" ["source", "many"] 2 sp__law_draw) : Cal P w K mg base "_law_new_name" ["source", "used"] 3 (sp8__law_new_name K) := by
  obtain ⟨f__law_draw, fd__law_draw, G__law_draw, g__law_draw, k__law_draw, b__law_draw⟩ := C__law_draw
  obtain ⟨f, fd, F, gf, bf⟩ := D
  refine ⟨f, fd, F.ok sc__law_new_name (fun vs H Q E h => ?_) (fun cdv A outer s H vs Q E hr h => ?_), gf, F.kp, bf⟩
  · obtain ⟨s, a, u, us, c, rfl, _⟩ := h; rfl
  · obtain ⟨s, a, u, us, c, rfl, hU, hus, hul, hS, q⟩ := h
    refine ⟨_, (pss_cons (ps_set (i := 2) sc__law_new_name.nd rfl (Or.inl rfl) pe_str)
      (pss_cons (ps_set (i := 3) sc__law_new_name.nd rfl (Or.inl rfl) (pe_op op_add pe_int (pe_call G__law_draw (hr.mono (by decide)) (by rfl) g__law_draw k__law_draw b__law_draw .nil pass0 (pa_cons (pv 0) (pa_cons pe_int pa_nil)))))
      (pss_cons (ps_set (i := 4) sc__law_new_name.nd rfl (Or.inl rfl) (pe_item_str (pv 2) (pe_call G__law_draw (hr.mono (by decide)) (by rfl) g__law_draw k__law_draw b__law_draw .nil pass0 (pa_cons (pv 0) (pa_cons pe_int pa_nil))) (fun _ _ => rfl)))
      (pss_cons (ps_for PassesOwn.never rfl (pi_range1 (by rfl) T.n_range (pa_cons (pe_op op_sub (pv 3) pe_int) pa_nil)) (pg_name (i := 5) sc__law_new_name.nd rfl (Or.inl rfl))
      (pss_one (ps_set (i := 4) sc__law_new_name.nd rfl (Or.inl rfl) (pe_op op_add_str (pv 4) (pe_item_str (pe_op op_add_str (pv 2) pe_str) (pe_call G__law_draw (hr.mono (by decide)) (by rfl) g__law_draw k__law_draw b__law_draw .nil pass0 (pa_cons (pv 0) (pa_cons pe_int pa_nil))) (fun _ _ => rfl))))))
      (pss_cons (ps_for PassesOwn.never rfl (pi_range1 (by rfl) T.n_range (pa_cons (pe_op op_add (pe_callB call_len_seq (by rfl) T.n_len PySem.boot_len (pa_cons (pv 1) pa_nil)) pe_int) pa_nil)) (pg_name (i := 5) sc__law_new_name.nd rfl (Or.inl rfl))
      (pss_cons (ps_set (i := 6) sc__law_new_name.nd rfl (Or.inl rfl) (pe_op op_add_str (pv 4) (pe_ix ix_list (pe_lst (pa_cons pe_str (pa_cons (pe_callTy call_str_int (by rfl) T.n_str (by decide +kernel) (pa_cons (pv 5) pa_nil)) pa_nil))) (pe_callTy call_int1 (by rfl) T.n_int (by decide +kernel) (pa_cons (pe_cmpR op_gt (pv 5) pe_int (nomark _)) pa_nil)) (fun _ _ => rfl))))
        (pss_one (ps_if (pt_cmpR op_notIn_seq (pv 6) (pv 1) (by rfl))
        (pss_one (ps_ret (pv 6)))
        pss_nil))))
      (pss_one (ps_ret (pv 4)))))))), ?_⟩
    -- size, the first letter
    refine ⟨_, rfl, s, a, _, c + 7, rfl, by decide, by decide, hS, fun v1 H1 v10 v11 x1 S1 => ?_⟩
    refine ⟨_, _, rfl, rfl, ?_⟩
    refine ⟨_, rfl, _, rfl, s, a, _, c + 6, rfl, by decide, by decide, S1, fun v2 H2 v20 v21 x2 S2 => ?_⟩
    obtain ⟨ch, e1, _, e3⟩ := at_str (x := Str.ofString "abcdefghijklmnopqrstuvwxyz") v20 v21
    refine ⟨_, _, ch, rfl, rfl, v20, by omega, v21, e1, ?_⟩
    have hch : 97 ≤ ch ∧ ch ≤ 122 := alpha_mem e3
    -- the further signs
    refine ⟨_, rfl, _, _, rfl, rfl, _, rfl, by omega, by omega, ?_⟩
    refine for_range (lo := 0) (n := (1 + v1 - 1).toNat) (fun i σ H' => ∃ (x : Str) (v : Option V), σ = [some (.ref s), some (.ref u), some (.str "abcdefghijklmnopqrstuvwxyz"), some (.int (1 + v1)), some (.str x), v, none] ∧ Nm (tl x) ∧ (tl x).length = i + 1 ∧ Ext s H H' ∧ Src H' s a (c + (5 - i))) ?_ ?_ ?_
    · exact ⟨S [ch], none, rfl, ⟨⟨ch, [], rfl, hch⟩, fun y hy => by rw [List.mem_singleton.mp hy]; exact .inl hch⟩, rfl, x1.trans x2, S2.mono (by omega)⟩
    · rintro i σ H' hi ⟨x, v, rfl, hN, hl, hE, hS'⟩
      refine ⟨_, rfl, _, rfl, _, _, rfl, rfl, by decide +kernel, ?_⟩
      refine ⟨_, rfl, s, a, _, c + (5 - (i + 1)), rfl, by decide, by decide, hS'.mono (by omega), fun v3 H3 v30 v31 x3 S3 => ?_⟩
      obtain ⟨d, e1, _, e3⟩ := at_str (x := Str.ofString "abcdefghijklmnopqrstuvwxyz" ++ Str.ofString "0123456789") v30 v31
      refine ⟨_, _, d, rfl, rfl, v30, by omega, v31, e1, _, _, rfl, rfl, ?_, ?_⟩
      · rw [tl_len, hl]; exact Nat.le_trans (show i + 1 + 1 ≤ 10 by omega) (by decide)
      · exact ⟨_, _, rfl, by rw [tl_app]; exact hN.app (fun y hy => by rw [List.mem_singleton.mp hy]; exact low_mem e3), by rw [tl_app, List.length_append, hl]; rfl, hE.trans x3, S3⟩
    · rintro σ H3 ⟨x, v, rfl, hN, hl, hE, hS'⟩
      have hU3 : SqL K H3 u (us.map V.str) := hE.seqL hus hU
      refine ⟨_, rfl, u, _, rfl, .inl hU3, _, _, rfl, rfl, _, rfl, by rw [List.length_map]; omega, by rw [List.length_map]; omega, ?_⟩
      refine for_range (lo := 0) (n := ((((us.map V.str).length : Int)) + 1).toNat) (fun i σ H' => ∃ (v t : Option V), σ = [some (.ref s), some (.ref u), some (.str "abcdefghijklmnopqrstuvwxyz"), some (.int (1 + v1)), some (.str x), v, t] ∧ Same H3 H') ⟨_, _, rfl, Same.refl _⟩ ?_ ?_
      · rintro i σ H' hi ⟨v', t', rfl, hM⟩
        rw [List.length_map] at hi
        obtain ⟨y, hy, hyl, hya⟩ : ∃ y : Str, atI [V.str (Str.ofString ""), V.str (Str.ofString (toString (0 + (i : Int))))] (if decide ((0 : Int) < 0 + (i : Int)) = true then 1 else 0) = some (.str y) ∧ (tl y).length ≤ 1 ∧ Low (tl y) := by
          by_cases h0 : i = 0
          · subst h0
            exact ⟨Str.ofString "", rfl, by decide, Low.nil⟩
          · rw [if_pos (decide_eq_true (by omega))]
            refine ⟨_, rfl, ?_, ?_⟩
            · rw [Int.zero_add, num_S, tl_S]
              have := TL.numL_len (n := i) (k := 1) (by decide) (by omega)
              omega
            · rw [Int.zero_add, num_S, tl_S]
              exact low_num i
        refine ⟨_, rfl, _, rfl, _, rfl, log_small (by omega), by show 2 ≤ sizeLine; decide, fun p hp => ?_⟩
        refine ⟨_, rfl, _, _, rfl, rfl, .inr ⟨_, rfl, p, _, _, _, rfl, rfl, SqL.of upd_same, hy, _, _, rfl, rfl, ?_, ?_⟩⟩
        · rw [tl_len, tl_len]; exact Nat.le_trans (show _ ≤ 70 by omega) (by decide)
        have hM' : Same H3 (upd H' p (HO.lst [V.str (Str.ofString ""), V.str (Str.ofString (toString (0 + (i : Int))))])) := hM.trans (same_new hp)
        refine ⟨_, rfl, _, rfl, u, _, rfl, .inl (hM'.seq hU3), rfl, flat_strs us, _, rfl, ite2 (fun _ => ?_) (fun _ => ⟨_, _, rfl, hM'⟩)⟩
        exact ⟨_, rfl, q _ _ (by rw [tl_app]; exact hN.app hya) (by rw [tl_app, List.length_append]; omega) (hE.trans (Ext.of hM')) ((hS'.ext hM').mono (by omega))⟩
      · rintro σ H' ⟨v', t', rfl, hM⟩
        exact ⟨_, rfl, q x H' hN (by omega) (hE.trans (Ext.of hM)) ((hS'.ext hM).mono (by omega))⟩
end
section
variable {P : Program} {w : World} {K : PySem.W.Frag} {mg : Str → Option Value} {base : Heap}
theorem ok__law_names (D : Df K mg "_law_names" s__law_names ["source", "many"]) (T : Tx mg) (C__law_new_name : Cal P w K mg base "_law_new_name" ["source", "used"] 3 (sp8__law_new_name K)) : Cal P w K mg base "_law_names" ["source", "many"] 4 (sp8__law_names K) := by
  obtain ⟨f__law_new_name, fd__law_new_name, G__law_new_name, g__law_new_name, k__law_new_name, b__law_new_name⟩ := C__law_new_name
  obtain ⟨f, fd, F, gf, bf⟩ := D
  refine ⟨f, fd, F.ok sc__law_names (fun vs H Q E h => ?_) (fun cdv A outer s H vs Q E hr h => ?_), gf, F.kp, bf⟩
  · obtain ⟨s, a, m, c, rfl, _⟩ := h; rfl
  · obtain ⟨s, a, m, c, rfl, hm, hS, q⟩ := h
    refine ⟨_, (pss_cons (ps_set (i := 2) sc__law_names.nd rfl (Or.inl rfl) (pe_lst pa_nil))
      (pss_cons (ps_for PassesOwn.never rfl (pi_range1 (by rfl) T.n_range (pa_cons (pv 1) pa_nil)) (pg_name (i := 3) sc__law_names.nd rfl (Or.inl rfl))
      (pss_one (ps_expr (pe_bm PySem.F.plainAttrs_list PySem.F.slot_list_append PySem.F.type_list_append mt_append (pv 2) (pa_cons (pe_call G__law_new_name (hr.mono (by decide)) (by rfl) g__law_new_name k__law_new_name b__law_new_name .nil pass0 (pa_cons (pv 0) (pa_cons (pv 2) pa_nil))) pa_nil)))))
      (pss_one (ps_ret (pv 2))))), ?_⟩
    refine ⟨Nat.zero_le _, fun u hu => ?_⟩
    have us : u ≠ s := hS.ne hu
    have ua : u ≠ a := hS.nea hu
    refine ⟨_, rfl, _, rfl, by omega, by omega, ?_⟩
    refine for_range (lo := 0) (n := ((m : Int)).toNat) (fun i σ H' => ∃ (xs : List Str) (v : Option V), σ = [some (.ref s), some (.int m), some (.ref u), v] ∧ H' u = some (.lst (xs.map V.str)) ∧ xs.length = i ∧ (∀ x ∈ xs, Nm (tl x) ∧ (tl x).length ≤ 8) ∧ Ext s H H' ∧ Src H' s a (c + 8 * (m - i))) ?_ ?_ ?_
    · exact ⟨[], none, rfl, upd_same, rfl, (fun _ h => by cases h), Ext.new hu, (hS.new hu).mono (by omega)⟩
    · rintro i σ H' hi ⟨xs, v, rfl, hx, hl, hA, hE, hS'⟩
      refine ⟨_, rfl, .inl ⟨rfl, _, SqL.of hx⟩, _, rfl, _, rfl, s, a, u, xs, c + 8 * (m - (i + 1)), rfl, SqL.of hx, us, by omega, by rw [show c + 8 * (m - (i + 1)) + 8 = c + 8 * (m - i) by omega]; exact hS', fun x H2 hN hl2 hE2 hS2 => ?_⟩
      refine ⟨u, _, _, rfl, rfl, hE2 _ _ us hx, ?_, ?_⟩
      · rw [List.length_map]; exact small1000 (by omega)
      · refine ⟨xs ++ [x], _, rfl, by rw [upd_same, List.map_append]; rfl, by rw [List.length_append]; simp [hl], fun y hy => ?_, ?_, hS2.put us ua⟩
        · rcases List.mem_append.mp hy with h | h
          · exact hA y h
          · rw [List.mem_singleton.mp h]; exact ⟨hN, hl2⟩
        · intro b o hb hH
          rw [upd_ne (ne_of_none hH hu)]; exact hE2 _ _ hb (hE _ _ hb hH)
    · rintro σ H' ⟨xs, v, rfl, hx, hl, hA, hE, hS'⟩
      exact ⟨_, rfl, q u xs H' hu hx (by omega) hA hE (hS'.mono (by omega))⟩

end
end Z
namespace Z
open PySem L2 SX
section
variable {P : Program} {w : World} {K : PySem.W.Frag} {mg : Str → Option Value} {base : Heap}
theorem ok_number_of (D : Df K mg "number_of" s_number_of ["text", "longest"]) (T : Tx mg)  : Cal P w K mg base "number_of" ["text", "longest"] 1 sp_number_of := by
  obtain ⟨t_DIGITS, h_DIGITS⟩ := T.c_DIGITS
  obtain ⟨f, fd, F, gf, bf⟩ := D
  refine ⟨f, fd, F.ok sc_number_of (fun vs H Q E h => ?_) (fun cdv A outer s₀ H vs Q E hr h => ?_), gf, F.kp, bf⟩
  · obtain ⟨x, rfl, _⟩ := h; rfl
  · obtain ⟨x, rfl, xl, q⟩ := h
    refine ⟨_, (pss_cons (ps_if (PW.pt (pw_or (pt_cmpR op_eq (pv 0) pe_str (nomark _)) (pw_or (pt_cmpR op_gt (pe_callB call_lenS (by rfl) T.n_len PySem.boot_len (pa_cons (pv 0) pa_nil)) (pv 1) (nomark _)) (pw_or1 (pt_not (pt_val (pe_callB (cr_all rfl) (by rfl) T.n_all (by decide +kernel) (pa_cons (pe_lc (own := [("sign", 2)]) (g := gName 2) (tt := tYes) rfl sc_number_of.nd (pi_str (pv 0)) (blkOk_by (own := [("sign", 2)]) (N := N_number_of) (sc := defScope s_number_of) (by decide +kernel)) (fun _ _ _ _ _ => pg_name (i := 2) sc_number_of.nd rfl (Or.inl rfl)) (fun _ _ _ _ _ => pts_nil) (fun _ _ _ _ _ => (pe_cmpR op_in_sign (pv 2) (pe_glob (v := .str ("0123456789")) (by rfl) h_DIGITS ⟨_, rfl⟩) (by rfl)))) pa_nil))))))))
      (pss_one (ps_ret pe_non))
      pss_nil)
      (pss_cons (ps_if (PW.pt (pw_and (pt_cmpR op_eq (pe_item_str (pv 0) pe_int (fun _ _ => rfl)) pe_str (nomark _)) (pw_and1 (pt_cmpR op_ne (pv 0) pe_str (nomark _)))))
      (pss_one (ps_ret pe_non))
      pss_nil)
      (pss_one (ps_ret (pe_callTy call_int_str (by rfl) T.n_int (by decide +kernel) (pa_cons (pv 0) pa_nil)))))), ?_⟩
    have small : ∀ n : Nat, n ≤ 30000 → n < sizeLine := fun n h => Nat.lt_of_le_of_lt h (by decide)
    have lx := tl_len x
    have none_ : numOk (tl x) = false → ∀ H', Same H H' → Q .non H' := fun e H' m => by
      have := q H' m
      unfold numV at this
      rw [if_neg (by rw [e]; exact Bool.false_ne_true)] at this; exact this
    have no : ¬ (tl x ≠ [] ∧ (tl x).length ≤ 6 ∧ (tl x).all dgt = true ∧ ¬ ((tl x).head? = some 48 ∧ tl x ≠ [48])) → numOk (tl x) = false := fun h => by
      cases e : numOk (tl x) with
      | false => rfl
      | true => exact absurd ((numOk_iff _).mp e) h
    refine ⟨_, rfl, rfl, _, rfl, ite2 (fun cc => iteT ?_) (fun cc => ?_)⟩
    · have e : tl x = [] := eqL.mp (of_decide_eq_true cc)
      exact none_ (no fun h => h.1 e) H (Same.refl _)
    have ne : tl x ≠ [] := fun e => cc (decide_eq_true (eqL.mpr e))
    refine ⟨_, rfl, x, rfl, Nat.le_of_lt (small _ (by omega)), _, rfl, _, _, rfl, rfl, _, rfl, ite2 (fun c2 => iteT ?_) (fun c2 => ?_)⟩
    · have e := of_decide_eq_true c2
      exact none_ (no fun h => by have := h.2.1; omega) H (Same.refl _)
    have l6 : (tl x).length ≤ 6 := by
      have : ¬ (6 : Int) < (x.length : Int) := fun e => c2 (decide_eq_true e)
      omega
    refine ⟨_, rfl, x, rfl, fun D hD => ?_⟩
    refine lc_str (l := tl x) (fun i H' => H' D = some (.lst ((((tl x).take i).map dgt).map V.bl)) ∧ Same H H') ⟨upd_same, same_new hD⟩ ?_ ?_
    · rintro i c H' hi ⟨h1, h2⟩
      have et : (tl x).take (i + 1) = (tl x).take i ++ [c] := by rw [List.take_add_one, hi]; rfl
      refine ⟨rfl, _, rfl, c, _, rfl, rfl, _, h1, by rw [List.length_map, List.length_map, List.length_take]; exact small _ (by omega), by rw [upd_same, et, List.map_append, List.map_append]; rfl, fun bb o hh => ?_⟩
      rw [upd_ne (ne_of_none hh hD)]; exact h2 _ _ hh
    · rintro H' ⟨h1, h2⟩
      rw [List.take_length] at h1
      refine ⟨D, _, rfl, SqL.of h1, _, rfl, ?_⟩
      rw [show (((tl x).map dgt)).all id = (tl x).all dgt by rw [List.all_map]; rfl]
      cases ha : (tl x).all dgt with
      | false => exact iteT (none_ (no fun h => by rw [ha] at h; exact absurd h.2.2.1 Bool.false_ne_true) _ h2)
      | true =>
        refine iteF ?_
        obtain ⟨c, hc, hh⟩ := head_at ne
        have ln : 0 < (tl x).length := List.length_pos_iff.mpr ne
        have fin : ¬ ((tl x).head? = some 48 ∧ tl x ≠ [48]) → ∃ a n, [V.str x] = [V.str a] ∧ PySem.intText? a = some n ∧ a.length ≤ 640 ∧ Q (.int n) H' := fun k => by
          have e : numOk (tl x) = true := (numOk_iff _).mpr ⟨ne, l6, ha, k⟩
          have := q H' h2
          unfold numV at this
          rw [if_pos e] at this
          exact ⟨x, _, rfl, isint ha ne (Nat.le_trans l6 (by decide)), by omega, this⟩
        refine ⟨_, rfl, x, 0, c, rfl, rfl, by decide, by decide, by omega, hc, rfl, _, rfl, ite2 (fun c3 => ?_) (fun c3 => iteF ?_)⟩
        · have e3 : c = 48 := by have := eqL.mp (of_decide_eq_true c3); exact (List.cons.inj this).1
          refine ⟨_, rfl, rfl, _, rfl, ite2 (fun c4 => ?_) (fun c4 => ?_)⟩
          · refine none_ (no fun h => h.2.2.2 ⟨by rw [hh, e3], fun e => ?_⟩) _ h2
            have k : (!decide (V.str x = V.str (Str.ofString "0"))) = true := c4
            rw [decide_eq_true (eqL.mpr e)] at k; cases k
          · refine ⟨_, rfl, fin fun k => c4 ?_⟩
            rw [decide_eq_false fun e => k.2 (eqL.mp e)]; rfl
        · refine ⟨_, rfl, fin fun k => c3 (decide_eq_true (eqL.mpr ?_))⟩
          rw [hh] at k
          have := Option.some.inj k.1
          rw [this]; rfl
end
section
variable {P : Program} {w : World} {K : PySem.W.Frag} {mg : Str → Option Value} {base : Heap}
theorem ok_is_word (D : Df K mg "is_word" s_is_word ["text"]) (T : Tx mg)  : Cal P w K mg base "is_word" ["text"] 1 sp_is_word := by
  obtain ⟨t_DIGITS, h_DIGITS⟩ := T.c_DIGITS
  obtain ⟨t_LETTERS, h_LETTERS⟩ := T.c_LETTERS
  obtain ⟨f, fd, F, gf, bf⟩ := D
  refine ⟨f, fd, F.ok sc_is_word (fun vs H Q E h => ?_) (fun cdv A outer s₀ H vs Q E hr h => ?_), gf, F.kp, bf⟩
  · obtain ⟨x, rfl, _⟩ := h; rfl
  · obtain ⟨x, rfl, xl, q⟩ := h
    refine ⟨_, (pss_cons (ps_if (PW.pt (pw_or (pt_cmpR op_eq (pv 0) pe_str (nomark _)) (pw_or1 (pt_cmpR op_notIn_sign (pe_item_str (pv 0) pe_int (fun _ _ => rfl)) (pe_glob (v := .str ("abcdefghijklmnopqrstuvwxyz")) (by rfl) h_LETTERS ⟨_, rfl⟩) (by rfl)))))
      (pss_one (ps_ret pe_bl))
      pss_nil)
      (pss_one (ps_ret (pe_callB (cr_all rfl) (by rfl) T.n_all (by decide +kernel) (pa_cons (pe_lc (own := [("sign", 1)]) (g := gName 1) (tt := tYes) rfl sc_is_word.nd (pi_str (pv 0)) (blkOk_by (own := [("sign", 1)]) (N := N_is_word) (sc := defScope s_is_word) (by decide +kernel)) (fun _ _ _ _ _ => pg_name (i := 1) sc_is_word.nd rfl (Or.inl rfl)) (fun _ _ _ _ _ => pts_nil) (fun _ _ _ _ _ => (pe_or (pe_cmpR op_in_sign (pv 1) (pe_glob (v := .str ("abcdefghijklmnopqrstuvwxyz")) (by rfl) h_LETTERS ⟨_, rfl⟩) (by rfl)) (pe_one (pe_cmpR op_in_sign (pv 1) (pe_glob (v := .str ("0123456789")) (by rfl) h_DIGITS ⟨_, rfl⟩) (by rfl)))))) pa_nil))))), ?_⟩
    have small : ∀ n : Nat, n ≤ 30000 → n < sizeLine := fun n h => Nat.lt_of_le_of_lt h (by decide)
    have lx := tl_len x
    have no : ¬ (∃ c, (tl x).head? = some c ∧ ltr c = true ∧ (tl x).all alnum = true) → ∀ H', Same H H' → Q (.bl false) H' := fun h H' m => by
      have := q H' m
      cases e : plain (tl x) with
      | false => rw [e] at this; exact this
      | true => exact absurd ((plain_iff _).mp e) h
    refine ⟨_, rfl, rfl, _, rfl, ite2 (fun cc => iteT ?_) (fun cc => ?_)⟩
    · have e : tl x = [] := eqL.mp (of_decide_eq_true cc)
      exact no (fun ⟨c, h, _⟩ => (by rw [e] at h; cases h)) H (Same.refl _)
    have ne : tl x ≠ [] := fun e => cc (decide_eq_true (eqL.mpr e))
    obtain ⟨c, hc, hh⟩ := head_at ne
    have ln : 0 < (tl x).length := List.length_pos_iff.mpr ne
    refine ⟨_, rfl, x, 0, c, rfl, rfl, by decide, by decide, by omega, hc, c, _, rfl, rfl, _, rfl, ite2 (fun c2 => ?_) (fun c2 => ?_)⟩
    · have c2' : (!ltr c) = true := c2
      refine no (fun ⟨d, h, k, _⟩ => ?_) H (Same.refl _)
      rw [hh] at h; cases h; rw [k] at c2'; cases c2'
    have lc : ltr c = true := by
      cases e : ltr c with
      | true => rfl
      | false => exact absurd (show (!ltr c) = true by rw [e]; rfl) c2
    refine ⟨_, rfl, x, rfl, fun D hD => ?_⟩
    refine lc_str (l := tl x) (fun i H' => H' D = some (.lst ((((tl x).take i).map alnum).map V.bl)) ∧ Same H H') ⟨upd_same, same_new hD⟩ ?_ ?_
    · rintro i c H' hi ⟨h1, h2⟩
      have et : (tl x).take (i + 1) = (tl x).take i ++ [c] := by rw [List.take_add_one, hi]; rfl
      have fin : ∀ b : Bool, b = alnum c → ∃ acc, H' D = some (.lst acc) ∧ acc.length < sizeLine ∧ (upd H' D (.lst (acc ++ [.bl b]))) D = some (.lst ((((tl x).take (i + 1)).map alnum).map V.bl)) ∧ Same H (upd H' D (.lst (acc ++ [.bl b]))) := fun b hb => by
        subst hb
        refine ⟨_, h1, by rw [List.length_map, List.length_map, List.length_take]; exact small _ (by omega), by rw [upd_same, et, List.map_append, List.map_append]; rfl, fun bb o hh => ?_⟩
        rw [upd_ne (ne_of_none hh hD)]; exact h2 _ _ hh
      refine ⟨rfl, _, rfl, c, _, rfl, rfl, _, rfl, ite2 (fun k => fin true ?_) (fun k => ⟨_, rfl, c, _, rfl, rfl, fin (dgt c) ?_⟩)⟩
      · show true = (ltr c || dgt c); rw [show ltr c = true from k]; rfl
      · show dgt c = (ltr c || dgt c); rw [show ltr c = false from Bool.eq_false_iff.mpr k]; rfl
    · rintro H' ⟨h1, h2⟩
      rw [List.take_length] at h1
      refine ⟨D, _, rfl, SqL.of h1, ?_⟩
      rw [show (((tl x).map alnum)).all id = (tl x).all alnum by rw [List.all_map]; rfl]
      cases ha : (tl x).all alnum with
      | false => exact no (fun ⟨_, _, _, h⟩ => (by rw [ha] at h; cases h)) _ h2
      | true =>
        have := q H' h2
        rw [(plain_iff _).mpr ⟨c, hh, lc, ha⟩] at this; exact this
end
section
variable {P : Program} {w : World} {K : PySem.W.Frag} {mg : Str → Option Value} {base : Heap}
theorem ok_is_name (D : Df K mg "is_name" s_is_name ["text"]) (T : Tx mg) (C_is_word : Cal P w K mg base "is_word" ["text"] 1 sp_is_word) : Cal P w K mg base "is_name" ["text"] 2 sp_is_name := by
  obtain ⟨f_is_word, fd_is_word, G_is_word, g_is_word, k_is_word, b_is_word⟩ := C_is_word
  obtain ⟨t_LONGEST_NAME, h_LONGEST_NAME⟩ := T.c_LONGEST_NAME
  obtain ⟨f, fd, F, gf, bf⟩ := D
  refine ⟨f, fd, F.ok sc_is_name (fun vs H Q E h => ?_) (fun cdv A outer s₀ H vs Q E hr h => ?_), gf, F.kp, bf⟩
  · obtain ⟨x, rfl, _⟩ := h; rfl
  · obtain ⟨x, rfl, xl, q⟩ := h
    refine ⟨_, (pss_one (ps_ret (pe_and (pe_cmpR op_le (pe_callB call_lenS (by rfl) T.n_len PySem.boot_len (pa_cons (pv 0) pa_nil)) (pe_glob (v := .int 8) (by rfl) h_LONGEST_NAME ⟨_, rfl⟩) (nomark _)) (pe_one (pe_call G_is_word (hr.mono (by decide)) (by rfl) g_is_word k_is_word b_is_word .nil pass0 (pa_cons (pv 0) pa_nil)))))), ?_⟩
    have small : ∀ n : Nat, n ≤ 30000 → n ≤ sizeLine := fun n h => Nat.le_trans h (by decide)
    have lx := tl_len x
    refine ⟨_, rfl, x, rfl, small _ (by omega), _, _, rfl, rfl, _, rfl, ite2 (fun k => ?_) (fun k => ?_)⟩
    · have l8 := of_decide_eq_true k
      refine ⟨_, rfl, x, rfl, xl, fun H' m => ?_⟩
      have := q H' m
      unfold nameB at this
      rw [decide_eq_true (show (tl x).length ≤ 8 by omega)] at this; exact this
    · have := q H (Same.refl _)
      unfold nameB at this
      rw [decide_eq_false (show ¬ (tl x).length ≤ 8 from fun h => k (decide_eq_true (show (x.length : Int) ≤ 8 by omega)))] at this; exact this
end
section
variable {P : Program} {w : World} {K : PySem.W.Frag} {mg : Str → Option Value} {base : Heap}
theorem ok_is_address (D : Df K mg "is_address" s_is_address ["text"]) (T : Tx mg) (C_is_name : Cal P w K mg base "is_name" ["text"] 2 sp_is_name) : Cal P w K mg base "is_address" ["text"] 3 sp_is_address := by
  obtain ⟨f_is_name, fd_is_name, G_is_name, g_is_name, k_is_name, b_is_name⟩ := C_is_name
  obtain ⟨f, fd, F, gf, bf⟩ := D
  refine ⟨f, fd, F.ok sc_is_address (fun vs H Q E h => ?_) (fun cdv A outer s₀ H vs Q E hr h => ?_), gf, F.kp, bf⟩
  · obtain ⟨x, rfl, _⟩ := h; rfl
  · obtain ⟨x, rfl, xl, q⟩ := h
    refine ⟨_, (pss_cons (ps_asg (pe_partition (pv 0) pe_str) (pg_tup rfl (pgs_cons (pg_name (i := 1) sc_is_address.nd rfl (Or.inl rfl)) (pgs_cons (pg_name (i := 2) sc_is_address.nd rfl (Or.inl rfl)) (pgs_cons (pg_name (i := 3) sc_is_address.nd rfl (Or.inl rfl)) pgs_nil)))))
      (pss_one (ps_ret (pe_and (pe_call G_is_name (hr.mono (by decide)) (by rfl) g_is_name k_is_name b_is_name .nil pass0 (pa_cons (pv 1) pa_nil)) (pe_one (pe_call G_is_name (hr.mono (by decide)) (by rfl) g_is_name k_is_name b_is_name .nil pass0 (pa_cons (pv 3) pa_nil))))))), ?_⟩
    have small : ∀ n : Nat, n ≤ 30000 → n ≤ sizeLine := fun n h => Nat.le_trans h (by decide)
    have lx := tl_len x
    refine ⟨_, rfl, ⟨_, rfl⟩, x, Str.ofString "@", rfl, rfl, rfl, small _ (by omega), fun t ht => ?_⟩
    refine ⟨t, _, rfl, SqT.of upd_same, rfl, _, _, rfl, _, _, rfl, _, _, rfl, rfl, ?_⟩
    cases hp : TL.par [64] [] (tl x) with
    | none =>
      have fin : ∀ H', Same H H' → Q (.bl false) H' := fun H' m => by
        have := q H' m
        unfold addrB at this
        rw [hp] at this; exact this
      rw [part_none hp]
      refine ⟨_, rfl, x, rfl, xl, fun H1 m1 => ⟨_, rfl, ite2 (fun _ => ?_) (fun _ => fin _ ((same_new ht).trans m1))⟩⟩
      exact ⟨_, rfl, S [], rfl, Nat.zero_le _, fun H2 m2 => fin H2 ((same_new ht).trans (m1.trans m2))⟩
    | some pq =>
      obtain ⟨p, r⟩ := pq
      have el := par_some hp
      have el' : (tl x).length = p.length + (r.length + 1) := by
        have := congrArg List.length el
        rw [List.nil_append, List.length_append, List.length_cons] at this; exact this
      have fin : ∀ H', Same H H' → Q (.bl (nameB p && nameB r)) H' := fun H' m => by
        have := q H' m
        unfold addrB at this
        rw [hp] at this; exact this
      rw [part_some hp]
      refine ⟨_, rfl, S p, rfl, by show p.length ≤ _; omega, fun H1 m1 => ⟨_, rfl, ite2 (fun k => ?_) (fun k => ?_)⟩⟩
      · refine ⟨_, rfl, S r, rfl, by show r.length ≤ _; omega, fun H2 m2 => ?_⟩
        have := fin H2 ((same_new ht).trans (m1.trans m2))
        rw [show nameB p = true from k] at this; exact this
      · have := fin H1 ((same_new ht).trans m1)
        rw [show nameB p = false from Bool.eq_false_iff.mpr k] at this; exact this
end
section
variable {P : Program} {w : World} {K : PySem.W.Frag} {mg : Str → Option Value} {base : Heap}
theorem ok_is_board (D : Df K mg "is_board" s_is_board ["text"]) (T : Tx mg) (C_is_word : Cal P w K mg base "is_word" ["text"] 1 sp_is_word) : Cal P w K mg base "is_board" ["text"] 2 sp_is_board := by
  obtain ⟨f_is_word, fd_is_word, G_is_word, g_is_word, k_is_word, b_is_word⟩ := C_is_word
  obtain ⟨t_LONGEST_BOARD, h_LONGEST_BOARD⟩ := T.c_LONGEST_BOARD
  obtain ⟨f, fd, F, gf, bf⟩ := D
  refine ⟨f, fd, F.ok sc_is_board (fun vs H Q E h => ?_) (fun cdv A outer s₀ H vs Q E hr h => ?_), gf, F.kp, bf⟩
  · obtain ⟨x, rfl, _⟩ := h; rfl
  · obtain ⟨x, rfl, xl, q⟩ := h
    refine ⟨_, (pss_one (ps_ret (pe_and (pe_cmpR op_le (pe_callB call_lenS (by rfl) T.n_len PySem.boot_len (pa_cons (pv 0) pa_nil)) (pe_glob (v := .int 600) (by rfl) h_LONGEST_BOARD ⟨_, rfl⟩) (nomark _)) (pe_one (pe_callB (cr_all rfl) (by rfl) T.n_all (by decide +kernel) (pa_cons (pe_lc (own := [("word", 1)]) (g := gName 1) (tt := tYes) rfl sc_is_board.nd (pi_list (pe_split (pv 0) pe_str)) (blkOk_by (own := [("word", 1)]) (N := N_is_board) (sc := defScope s_is_board) (by decide +kernel)) (fun _ _ _ _ _ => pg_name (i := 1) sc_is_board.nd rfl (Or.inl rfl)) (fun _ _ _ _ _ => pts_nil) (fun _ _ _ _ _ => (pe_call G_is_word (hr.mono (by decide)) (by rfl) g_is_word k_is_word b_is_word .nil pass0 (pa_cons (pv 1) pa_nil)))) pa_nil)))))), ?_⟩
    have small : ∀ n : Nat, n ≤ 30000 → n < sizeLine := fun n h => Nat.lt_of_le_of_lt h (by decide)
    have lx := tl_len x
    refine ⟨_, rfl, x, rfl, Nat.le_of_lt (small _ (by omega)), _, _, rfl, rfl, _, rfl, ite2 (fun k => ?_) (fun k => ?_)⟩
    · have l6 : (x.length : Int) ≤ 600 := of_decide_eq_true k
      refine ⟨_, rfl, ⟨_, rfl⟩, x, Str.ofString ".", rfl, rfl, rfl, Nat.le_of_lt (small _ (by omega)), fun B hB => ?_⟩
      rw [split_dot]
      have pb := spl_bound 46 (tl x) []
      have hB1 : (upd H B (HO.lst (((TL.spl [46] 0 [] (tl x)).map S).map V.str))) B = some (.lst (((TL.spl [46] 0 [] (tl x)).map S).map V.str)) := upd_same
      refine ⟨B, rfl, ⟨_, SqL.of hB1⟩, fun D hD => ?_⟩
      refine lc_list (K := K) (a := B) (xs := ((TL.spl [46] 0 [] (tl x)).map S).map V.str) (fun i H' => H' D = some (.lst ((((TL.spl [46] 0 [] (tl x)).take i).map plain).map V.bl)) ∧ Same (upd H B (HO.lst (((TL.spl [46] 0 [] (tl x)).map S).map V.str))) H') ⟨upd_same, same_new hD⟩ (fun i H' _ h => SqL.of (h.2 _ _ hB1)) ?_ ?_
      · rintro i y H' hi ⟨h1, h2⟩
        rw [List.getElem?_map, List.getElem?_map] at hi
        obtain ⟨y', hy, rfl⟩ := Option.map_eq_some_iff.mp hi
        obtain ⟨it, hit, rfl⟩ := Option.map_eq_some_iff.mp hy
        have il := pb.1 it (List.mem_of_getElem? hit)
        have ib := (List.getElem?_eq_some_iff.mp hit).1
        have ic := pb.2
        rw [List.length_nil] at il
        have et : (TL.spl [46] 0 [] (tl x)).take (i + 1) = (TL.spl [46] 0 [] (tl x)).take i ++ [it] := by rw [List.take_add_one, hit]; rfl
        refine ⟨rfl, _, rfl, S it, rfl, by show it.length ≤ _; omega, fun H2 m2 => ?_⟩
        refine ⟨_, m2 _ _ h1, by rw [List.length_map, List.length_map, List.length_take]; exact small _ (by omega), by rw [upd_same, et, List.map_append, List.map_append]; rfl, fun bb o hh => ?_⟩
        rw [upd_ne (ne_of_none hh hD)]; exact (h2.trans m2) _ _ hh
      · rintro H' ⟨h1, h2⟩
        rw [List.length_map, List.length_map, List.take_length] at h1
        refine ⟨D, _, rfl, SqL.of h1, ?_⟩
        rw [show ((TL.spl [46] 0 [] (tl x)).map plain).all id = (TL.spl [46] 0 [] (tl x)).all plain by rw [List.all_map]; rfl]
        have := q H' ((same_new hB).trans h2)
        unfold boardB at this
        rw [decide_eq_true (show (tl x).length ≤ 600 by omega)] at this; exact this
    · have := q H (Same.refl _)
      unfold boardB at this
      rw [decide_eq_false (show ¬ (tl x).length ≤ 600 from fun h => k (decide_eq_true (show (x.length : Int) ≤ 600 by omega)))] at this; exact this
end
section
variable {P : Program} {w : World} {K : PySem.W.Frag} {mg : Str → Option Value} {base : Heap}
theorem ok_is_id (D : Df K mg "is_id" s_is_id ["id"]) (T : Tx mg) (C_is_name : Cal P w K mg base "is_name" ["text"] 2 sp_is_name) : Cal P w K mg base "is_id" ["id"] 3 (sp_is_id K) := by
  obtain ⟨f_is_name, fd_is_name, G_is_name, g_is_name, k_is_name, b_is_name⟩ := C_is_name
  obtain ⟨t_LAST_NUMBER, h_LAST_NUMBER⟩ := T.c_LAST_NUMBER
  obtain ⟨f, fd, F, gf, bf⟩ := D
  refine ⟨f, fd, F.ok sc_is_id (fun vs H Q E h => ?_) (fun cdv A outer s₀ H vs Q E hr h => ?_), gf, F.kp, bf⟩
  · obtain ⟨a, x, n, rfl, _⟩ := h; rfl
  · obtain ⟨a, x, n, rfl, hA, xl, q⟩ := h
    refine ⟨_, (pss_one (ps_ret (pe_and (pe_call G_is_name (hr.mono (by decide)) (by rfl) g_is_name k_is_name b_is_name .nil pass0 (pa_cons (pe_ix ix_tup (pv 0) pe_int (fun _ _ => rfl)) pa_nil)) (pe_one (pe_chain op_le op_le pe_int (pe_ix ix_tup (pv 0) pe_int (fun _ _ => rfl)) (pe_glob (v := .int 999999) (by rfl) h_LAST_NUMBER ⟨_, rfl⟩)))))), ?_⟩
    refine ⟨_, rfl, a, _, _, .str x, rfl, rfl, hA, atI_nat (j := 0) rfl, x, rfl, xl, fun H1 m1 => ⟨_, rfl, ite2 (fun k => ?_) (fun k => ?_)⟩⟩
    · have fin := q H1 m1
      rw [show nameB (tl x) = true from k] at fin
      refine ⟨_, rfl, a, _, _, .int n, rfl, rfl, m1.tup hA, atI_nat (j := 1) rfl, _, _, rfl, rfl, _, rfl, ite2 (fun k1 => ?_) (fun k1 => ?_)⟩
      · rw [show decide (1 ≤ n) = true from k1] at fin
        exact ⟨_, _, rfl, rfl, fin⟩
      · rw [show decide (1 ≤ n) = false from Bool.eq_false_iff.mpr k1] at fin
        exact fin
    · have fin := q H1 m1
      rw [show nameB (tl x) = false from Bool.eq_false_iff.mpr k] at fin
      exact fin
end
section
variable {P : Program} {w : World} {K : PySem.W.Frag} {mg : Str → Option Value} {base : Heap}
theorem ok_id_text (D : Df K mg "id_text" s_id_text ["id"]) (T : Tx mg)  : Cal P w K mg base "id_text" ["id"] 1 (sp_id_text K) := by
  obtain ⟨f, fd, F, gf, bf⟩ := D
  refine ⟨f, fd, F.ok sc_id_text (fun vs H Q E h => ?_) (fun cdv A outer s₀ H vs Q E hr h => ?_), gf, F.kp, bf⟩
  · obtain ⟨a, x, n, rfl, _⟩ := h; rfl
  · obtain ⟨a, x, n, rfl, hA, xl, nl, q⟩ := h
    refine ⟨_, (pss_one (ps_ret (pe_joined (.cons (pe_fmt (pe_ix ix_tup (pv 0) pe_int (fun _ _ => rfl))) (.cons pe_str (.cons (pe_fmt (pe_ix ix_tup (pv 0) pe_int (fun _ _ => rfl))) .nil)))))), ?_⟩
    have small : ∀ n : Nat, n ≤ 30000 → n ≤ sizeLine := fun n h => Nat.le_trans h (by decide)
    have lx := tl_len x
    have nL := TL.numL_len (n := n) (k := 6) (by decide) (by omega)
    have t1 : tl (Str.ofString (toString (n : Int))) = TL.numL n := TL.tl_num n
    refine ⟨_, rfl, a, _, _, .int (n : Int), rfl, rfl, hA, atI_nat (j := 1) rfl, .inr ⟨(n : Int), rfl, ?_, _, rfl, ?_, _, rfl, ?_, _, rfl, a, _, _, .str x, rfl, rfl, hA, atI_nat (j := 0) rfl, .inl ⟨x, rfl, small _ (by omega), _, rfl, ?_, ?_⟩⟩⟩
    · show n.log2 < 1920
      by_cases h0 : n = 0
      · subst h0; decide
      · exact Nat.lt_of_lt_of_le ((Nat.log2_lt h0).mpr (show n < 2 ^ 20 by have : (2 : Nat) ^ 20 = 1048576 := by decide
                                                                           omega)) (by decide)
    · rw [tl_len, tl_app, List.length_append, t1]; exact small _ (by show 0 + _ ≤ _; omega)
    · rw [tl_len, tl_app, tl_app, List.length_append, List.length_append, t1]; exact small _ (by show (0 + _) + 1 ≤ _; omega)
    · rw [tl_len, tl_app, tl_app, tl_app, List.length_append, List.length_append, List.length_append, t1]; exact small _ (by show ((0 + _) + 1) + _ ≤ _; omega)
    · refine q _ ?_
      rw [tl_app, tl_app, tl_app, t1]
      show ([] ++ TL.numL n ++ [64]) ++ tl x = _
      rw [List.nil_append, List.append_assoc]; rfl
end
section
variable {P : Program} {w : World} {K : PySem.W.Frag} {mg : Str → Option Value} {base : Heap}
theorem ok_id_of (D : Df K mg "id_of" s_id_of ["text"]) (T : Tx mg) (C_is_id : Cal P w K mg base "is_id" ["id"] 3 (sp_is_id K)) (C_number_of : Cal P w K mg base "number_of" ["text", "longest"] 1 sp_number_of) : Cal P w K mg base "id_of" ["text"] 4 (sp_id_of K) := by
  obtain ⟨f_is_id, fd_is_id, G_is_id, g_is_id, k_is_id, b_is_id⟩ := C_is_id
  obtain ⟨f_number_of, fd_number_of, G_number_of, g_number_of, k_number_of, b_number_of⟩ := C_number_of
  obtain ⟨t_LAST_NUMBER, h_LAST_NUMBER⟩ := T.c_LAST_NUMBER
  obtain ⟨f, fd, F, gf, bf⟩ := D
  refine ⟨f, fd, F.ok sc_id_of (fun vs H Q E h => ?_) (fun cdv A outer s₀ H vs Q E hr h => ?_), gf, F.kp, bf⟩
  · obtain ⟨x, rfl, _⟩ := h; rfl
  · obtain ⟨x, rfl, xl, q⟩ := h
    refine ⟨_, (pss_cons (ps_asg (pe_partition (pv 0) pe_str) (pg_tup rfl (pgs_cons (pg_name (i := 1) sc_id_of.nd rfl (Or.inl rfl)) (pgs_cons (pg_name (i := 2) sc_id_of.nd rfl (Or.inl rfl)) (pgs_cons (pg_name (i := 3) sc_id_of.nd rfl (Or.inl rfl)) pgs_nil)))))
      (pss_cons (ps_set (i := 4) sc_id_of.nd rfl (Or.inl rfl) (pe_call G_number_of (hr.mono (by decide)) (by rfl) g_number_of k_number_of b_number_of .nil pass0 (pa_cons (pv 1) (pa_cons (pe_callB call_lenS (by rfl) T.n_len PySem.boot_len (pa_cons (pe_callTy call_str_int (by rfl) T.n_str (by decide +kernel) (pa_cons (pe_glob (v := .int 999999) (by rfl) h_LAST_NUMBER ⟨_, rfl⟩) pa_nil)) pa_nil)) pa_nil))))
      (pss_cons (ps_if (PW.pt (pw_or (pt_cmpR op_isN (pv 4) pe_non (nomark _)) (pw_or1 (pt_not (pt_val (pe_call G_is_id (hr.mono (by decide)) (by rfl) g_is_id k_is_id b_is_id .nil pass0 (pa_cons (pe_tup (pa_cons (pv 3) (pa_cons (pv 4) pa_nil))) pa_nil)))))))
      (pss_one (ps_ret pe_non))
      pss_nil)
      (pss_one (ps_ret (pe_tup (pa_cons (pv 3) (pa_cons (pv 4) pa_nil)))))))), ?_⟩
    have small : ∀ n : Nat, n ≤ 30000 → n ≤ sizeLine := fun n h => Nat.le_trans h (by decide)
    have lx := tl_len x
    have l6 : (Str.ofString (toString (999999 : Int))).length = 6 := by decide +kernel
    refine ⟨_, rfl, ⟨_, rfl⟩, x, Str.ofString "@", rfl, rfl, rfl, small _ (by omega), fun t ht => ?_⟩
    refine ⟨t, _, rfl, SqT.of upd_same, rfl, _, _, rfl, _, _, rfl, _, _, rfl, rfl, ?_⟩
    obtain ⟨dx, u, px, e, dl, pl, fin⟩ : ∃ dx u px : Str, Txt.partition x (Str.ofString "@") = (dx, u, px) ∧ (tl dx).length ≤ 2000 ∧ (tl px).length ≤ 2000 ∧ ∀ v H', Same H H' → DV K H' (if (dOk (tl dx) && nameB (tl px)) = true then .tup [.str px, .int (NumText.digitsVal (tl dx) : Nat)] else .non) v → Q v H' := by
      cases hp : TL.par [64] [] (tl x) with
      | none =>
        refine ⟨x, S [], S [], part_none hp, xl, Nat.zero_le _, fun v H' m d => q v H' m ?_⟩
        unfold identD
        rw [hp]
        rw [show nameB (tl (S [])) = false by decide, Bool.and_false] at d
        exact d
      | some pq =>
        obtain ⟨d, p⟩ := pq
        have el := congrArg List.length (par_some hp)
        rw [List.nil_append, List.length_append, List.length_cons] at el
        refine ⟨S d, Str.ofString "@", S p, part_some hp, by show d.length ≤ _; omega, by show p.length ≤ _; omega, fun v H' m dd => q v H' m ?_⟩
        unfold identD
        rw [hp]
        exact dd
    rw [e]
    refine ⟨_, rfl, (999999 : Int), rfl, by decide, _, rfl, by rw [l6]; decide, dx, ?_, dl, fun H1 m1 => ?_⟩
    · show [V.str dx, V.int ((Str.ofString (toString (999999 : Int))).length : Int)] = _
      rw [l6]; rfl
    have mm := (same_new (o := HO.tup [V.str dx, .str u, .str px]) ht).trans m1
    cases en : numOk (tl dx) with
    | false =>
      have eV : numV (tl dx) = .non := by unfold numV; rw [en]; rfl
      have ed : dOk (tl dx) = false := by
        cases k : dOk (tl dx) with
        | false => rfl
        | true => rw [(dOk_num k).1] at en; cases en
      rw [eV]
      refine ⟨_, rfl, rfl, _, rfl, iteT (iteT ?_)⟩
      refine fin .non H1 mm ?_
      rw [ed, Bool.false_and]; rfl
    | true =>
      have eV : numV (tl dx) = .int (NumText.digitsVal (tl dx) : Nat) := by unfold numV; rw [en]; rfl
      rw [eV]
      refine ⟨_, rfl, rfl, _, rfl, iteF ⟨_, rfl, _, rfl, by show 2 ≤ sizeLine; decide, fun t2 h2 => ?_⟩⟩
      have m2 := same_new (o := HO.tup [V.str px, .int (NumText.digitsVal (tl dx) : Nat)]) h2
      refine ⟨t2, px, _, rfl, SqT.of upd_same, pl, fun H2 m3 => ⟨_, rfl, ite2 (fun k => ?_) (fun k => ?_)⟩⟩
      · refine fin .non H2 (mm.trans (m2.trans m3)) ?_
        have : (dOk (tl dx) && nameB (tl px)) = false := by
          cases kd : dOk (tl dx) with
          | false => rfl
          | true =>
            have := dOk_num kd
            rw [decide_eq_true (show (1 : Int) ≤ (NumText.digitsVal (tl dx) : Nat) by omega), decide_eq_true (show ((NumText.digitsVal (tl dx) : Nat) : Int) ≤ 999999 by omega)] at k
            simpa using k
        rw [this]; rfl
      · have kd : dOk (tl dx) = true := by
          cases kd : dOk (tl dx) with
          | true => rfl
          | false =>
            rw [num_zero en kd] at k
            exact absurd (by rw [show decide ((1 : Int) ≤ ((0 : Nat) : Int)) = false by decide, Bool.false_and, Bool.and_false]; rfl) k
        have kn : nameB (tl px) = true := by
          cases kn : nameB (tl px) with
          | true => rfl
          | false => rw [kn] at k; exact absurd rfl k
        refine ⟨_, rfl, _, rfl, by show 2 ≤ sizeLine; decide, fun t3 h3 => ?_⟩
        refine fin _ _ (mm.trans (m2.trans (m3.trans (same_new h3)))) ?_
        rw [kd, kn]
        exact ⟨t3, _, rfl, SqT.of upd_same, _, _, rfl, by unfold DV; rfl, _, _, rfl, by unfold DV; rfl, rfl⟩
end
section
variable {P : Program} {w : World} {K : PySem.W.Frag} {mg : Str → Option Value} {base : Heap}
theorem ok_split_address (D : Df K mg "split_address" s_split_address ["address"]) (T : Tx mg)  : Cal P w K mg base "split_address" ["address"] 1 (sp_split_address K) := by
  obtain ⟨f, fd, F, gf, bf⟩ := D
  refine ⟨f, fd, F.ok sc_split_address (fun vs H Q E h => ?_) (fun cdv A outer s₀ H vs Q E hr h => ?_), gf, F.kp, bf⟩
  · obtain ⟨x, p, r, rfl, _⟩ := h; rfl
  · obtain ⟨x, p, r, rfl, xl, hp, q⟩ := h
    refine ⟨_, (pss_cons (ps_asg (pe_partition (pv 0) pe_str) (pg_tup rfl (pgs_cons (pg_name (i := 1) sc_split_address.nd rfl (Or.inl rfl)) (pgs_cons (pg_name (i := 2) sc_split_address.nd rfl (Or.inl rfl)) (pgs_cons (pg_name (i := 3) sc_split_address.nd rfl (Or.inl rfl)) pgs_nil)))))
      (pss_one (ps_ret (pe_tup (pa_cons (pv 1) (pa_cons (pv 3) pa_nil)))))), ?_⟩
    have small : ∀ n : Nat, n ≤ 30000 → n ≤ sizeLine := fun n h => Nat.le_trans h (by decide)
    have lx := tl_len x
    refine ⟨_, rfl, ⟨_, rfl⟩, x, Str.ofString "@", rfl, rfl, rfl, small _ (by omega), fun t ht => ?_⟩
    refine ⟨t, _, rfl, SqT.of upd_same, rfl, _, _, rfl, _, _, rfl, _, _, rfl, rfl, ?_⟩
    rw [part_some hp]
    refine ⟨_, rfl, _, rfl, by show 2 ≤ sizeLine; decide, fun t2 h2 => ?_⟩
    refine q _ _ ((same_new ht).trans (same_new h2)) ⟨t2, _, rfl, SqT.of upd_same, ?_⟩
    exact ⟨_, _, rfl, by unfold DV; rfl, _, _, rfl, by unfold DV; rfl, rfl⟩
end
section
variable {P : Program} {w : World} {K : PySem.W.Frag} {mg : Str → Option Value} {base : Heap}
theorem ok__law_plain (D : Df K mg "_law_plain" s__law_plain ["text"]) (T : Tx mg)  : Cal P w K mg base "_law_plain" ["text"] 1 sp_is_word := by
  obtain ⟨f, fd, F, gf, bf⟩ := D
  refine ⟨f, fd, F.ok sc__law_plain (fun vs H Q E h => ?_) (fun cdv A outer s₀ H vs Q E hr h => ?_), gf, F.kp, bf⟩
  · obtain ⟨x, rfl, _⟩ := h; rfl
  · obtain ⟨x, rfl, xl, q⟩ := h
    refine ⟨_, (pss_cons (ps_set (i := 1) sc__law_plain.nd rfl (Or.inl rfl) pe_str)
      (pss_cons (ps_if (PW.pt (pw_or (pt_cmpR op_eq (pv 0) pe_str (nomark _)) (pw_or1 (pt_cmpR op_notIn_sign (pe_item_str (pv 0) pe_int (fun _ _ => rfl)) (pv 1) (by rfl)))))
      (pss_one (ps_ret pe_bl))
      pss_nil)
      (pss_cons (ps_for PassesOwn.never rfl (pi_str (pv 0)) (pg_name (i := 2) sc__law_plain.nd rfl (Or.inl rfl))
      (pss_one (ps_if (pt_cmpR op_notIn_sign (pv 2) (pe_op op_add_str (pv 1) pe_str) (by rfl))
        (pss_one (ps_ret pe_bl))
        pss_nil)))
      (pss_one (ps_ret pe_bl))))), ?_⟩
    have small : ∀ n : Nat, n ≤ 30000 → n < sizeLine := fun n h => Nat.lt_of_le_of_lt h (by decide)
    have lx := tl_len x
    have no : ¬ (∃ c, (tl x).head? = some c ∧ ltr c = true ∧ (tl x).all alnum = true) → ∀ H', Same H H' → Q (.bl false) H' := fun h H' m => by
      have := q H' m
      cases e : plain (tl x) with
      | false => rw [e] at this; exact this
      | true => exact absurd ((plain_iff _).mp e) h
    refine ⟨_, rfl, rfl, _, rfl, ite2 (fun cc => iteT ?_) (fun cc => ?_)⟩
    · have e : tl x = [] := eqL.mp (of_decide_eq_true cc)
      exact no (fun ⟨c, h, _⟩ => (by rw [e] at h; cases h)) H (Same.refl _)
    have ne : tl x ≠ [] := fun e => cc (decide_eq_true (eqL.mpr e))
    obtain ⟨c, hc, hh⟩ := head_at ne
    have ln : 0 < (tl x).length := List.length_pos_iff.mpr ne
    refine ⟨_, rfl, x, 0, c, rfl, rfl, by decide, by decide, by omega, hc, _, rfl, c, _, rfl, rfl, _, rfl, ite2 (fun c2 => ?_) (fun c2 => ?_)⟩
    · have c2' : (!ltr c) = true := c2
      refine no (fun ⟨d, h, k, _⟩ => ?_) H (Same.refl _)
      rw [hh] at h; cases h; rw [k] at c2'; cases c2'
    have lc : ltr c = true := by
      cases e : ltr c with
      | true => rfl
      | false => exact absurd (show (!ltr c) = true by rw [e]; rfl) c2
    have al : ∀ d, decide (d ∈ tl (Str.ofString "abcdefghijklmnopqrstuvwxyz" ++ Str.ofString "0123456789")) = alnum d := fun d => by
      rw [tl_app, Bool.eq_iff_iff, decide_eq_true_iff, List.mem_append]
      show _ ↔ (ltr d || dgt d) = true
      rw [Bool.or_eq_true]
      exact ⟨fun h => h.elim (fun k => .inl (decide_eq_true k)) (fun k => .inr (decide_eq_true k)), fun h => h.elim (fun k => .inl (of_decide_eq_true k)) (fun k => .inr (of_decide_eq_true k))⟩
    refine ⟨_, rfl, x, rfl, ?_⟩
    refine for_str (l := tl x) (fun i σ H' => (∃ v2 : Option V, σ = [some (.str x), some (.str (Str.ofString "abcdefghijklmnopqrstuvwxyz")), v2]) ∧ H' = H ∧ ((tl x).take i).all alnum = true) ⟨⟨_, rfl⟩, rfl, rfl⟩ ?_ ?_
    · rintro i d σ H' hi ⟨⟨v2, rfl⟩, rfl, h3⟩
      have et : (tl x).take (i + 1) = (tl x).take i ++ [d] := by rw [List.take_add_one, hi]; rfl
      refine ⟨_, rfl, _, rfl, _, _, rfl, rfl, by decide +kernel, d, _, rfl, rfl, _, rfl, ite2 (fun k => ?_) (fun k => ?_)⟩
      · have k' : (!decide (d ∈ tl (Str.ofString "abcdefghijklmnopqrstuvwxyz" ++ Str.ofString "0123456789"))) = true := k
        rw [al] at k'
        refine no (fun ⟨_, _, _, h⟩ => ?_) H' (Same.refl _)
        rw [List.all_eq_true.mp h d (List.mem_of_getElem? hi)] at k'; cases k'
      · refine ⟨⟨_, rfl⟩, rfl, ?_⟩
        rw [et, List.all_append, h3]
        show (true && (alnum d && true)) = true
        have : alnum d = true := by
          cases e : alnum d with
          | true => rfl
          | false => exact absurd (show (!decide (d ∈ tl (Str.ofString "abcdefghijklmnopqrstuvwxyz" ++ Str.ofString "0123456789"))) = true by rw [al, e]; rfl) k
        rw [this]; rfl
    · rintro σ H' ⟨⟨v2, rfl⟩, rfl, h3⟩
      rw [List.take_length] at h3
      have := q H' (Same.refl _)
      rw [(plain_iff _).mpr ⟨c, hh, lc, h3⟩] at this; exact this
end
section
variable {P : Program} {w : World} {K : PySem.W.Frag} {mg : Str → Option Value} {base : Heap}
theorem ok__law_is_name (D : Df K mg "_law_is_name" s__law_is_name ["text"]) (T : Tx mg) (C__law_plain : Cal P w K mg base "_law_plain" ["text"] 1 sp_is_word) : Cal P w K mg base "_law_is_name" ["text"] 2 sp_is_name := by
  obtain ⟨f__law_plain, fd__law_plain, G__law_plain, g__law_plain, k__law_plain, b__law_plain⟩ := C__law_plain
  obtain ⟨f, fd, F, gf, bf⟩ := D
  refine ⟨f, fd, F.ok sc__law_is_name (fun vs H Q E h => ?_) (fun cdv A outer s₀ H vs Q E hr h => ?_), gf, F.kp, bf⟩
  · obtain ⟨x, rfl, _⟩ := h; rfl
  · obtain ⟨x, rfl, xl, q⟩ := h
    refine ⟨_, (pss_one (ps_ret (pe_and (pe_call G__law_plain (hr.mono (by decide)) (by rfl) g__law_plain k__law_plain b__law_plain .nil pass0 (pa_cons (pv 0) pa_nil)) (pe_one (pe_cmpR op_le (pe_callB call_lenS (by rfl) T.n_len PySem.boot_len (pa_cons (pv 0) pa_nil)) pe_int (nomark _)))))), ?_⟩
    have small : ∀ n : Nat, n ≤ 30000 → n ≤ sizeLine := fun n h => Nat.le_trans h (by decide)
    have lx := tl_len x
    refine ⟨_, rfl, x, rfl, xl, fun H1 m1 => ⟨_, rfl, ite2 (fun k => ?_) (fun k => ?_)⟩⟩
    · have := q H1 m1
      unfold nameB at this
      rw [show plain (tl x) = true from k, Bool.and_true] at this
      refine ⟨_, rfl, x, rfl, small _ (by omega), _, _, rfl, rfl, ?_⟩
      show Q (.bl (decide ((x.length : Int) ≤ 8))) H1
      rw [show decide ((x.length : Int) ≤ 8) = decide ((tl x).length ≤ 8) by rw [decide_eq_decide]; omega]
      exact this
    · have := q H1 m1
      unfold nameB at this
      rw [show plain (tl x) = false from Bool.eq_false_iff.mpr k, Bool.and_false] at this; exact this
end
section
variable {P : Program} {w : World} {K : PySem.W.Frag} {mg : Str → Option Value} {base : Heap}
theorem ok__law_is_address (D : Df K mg "_law_is_address" s__law_is_address ["text"]) (T : Tx mg) (C__law_is_name : Cal P w K mg base "_law_is_name" ["text"] 2 sp_is_name) : Cal P w K mg base "_law_is_address" ["text"] 3 sp_is_address := by
  obtain ⟨f__law_is_name, fd__law_is_name, G__law_is_name, g__law_is_name, k__law_is_name, b__law_is_name⟩ := C__law_is_name
  obtain ⟨f, fd, F, gf, bf⟩ := D
  refine ⟨f, fd, F.ok sc__law_is_address (fun vs H Q E h => ?_) (fun cdv A outer s₀ H vs Q E hr h => ?_), gf, F.kp, bf⟩
  · obtain ⟨x, rfl, _⟩ := h; rfl
  · obtain ⟨x, rfl, xl, q⟩ := h
    refine ⟨_, (pss_cons (ps_set (i := 1) sc__law_is_address.nd rfl (Or.inl rfl) (pe_split (pv 0) pe_str))
      (pss_one (ps_ret (pe_and (pe_cmpR op_eq (pe_callB call_len_seq (by rfl) T.n_len PySem.boot_len (pa_cons (pv 1) pa_nil)) pe_int (nomark _)) (pe_and (pe_call G__law_is_name (hr.mono (by decide)) (by rfl) g__law_is_name k__law_is_name b__law_is_name .nil pass0 (pa_cons (pe_ix ix_list (pv 1) pe_int (fun _ _ => rfl)) pa_nil)) (pe_one (pe_call G__law_is_name (hr.mono (by decide)) (by rfl) g__law_is_name k__law_is_name b__law_is_name .nil pass0 (pa_cons (pe_ix ix_list (pv 1) pe_int (fun _ _ => rfl)) pa_nil)))))))), ?_⟩
    have small : ∀ n : Nat, n ≤ 30000 → n ≤ sizeLine := fun n h => Nat.le_trans h (by decide)
    have lx := tl_len x
    refine ⟨_, rfl, ⟨_, rfl⟩, x, Str.ofString "@", rfl, rfl, rfl, small _ (by omega), fun B hB => ?_⟩
    rw [split_at]
    rcases at_two (tl x) with ⟨p, r, hp, hs⟩ | ⟨hl, hn⟩
    · rw [hs]
      have el := congrArg List.length (par_some hp)
      rw [List.nil_append, List.length_append, List.length_cons] at el
      have hB1 : (upd H B (HO.lst [V.str (S p), V.str (S r)])) B = some (.lst [V.str (S p), V.str (S r)]) := upd_same
      have fin : ∀ H', Same H H' → Q (.bl (nameB p && nameB r)) H' := fun H' m => by
        have := q H' m
        unfold addrB at this
        rw [hp] at this; exact this
      refine ⟨_, rfl, B, _, rfl, .inl (SqL.of hB1), rfl, _, rfl, iteT ?_⟩
      refine ⟨_, rfl, B, _, _, .str (S p), rfl, rfl, SqL.of hB1, atI_nat (j := 0) rfl, S p, rfl, by show p.length ≤ _; omega, fun H1 m1 => ⟨_, rfl, ite2 (fun k => ?_) (fun k => ?_)⟩⟩
      · refine ⟨_, rfl, B, _, _, .str (S r), rfl, rfl, SqL.of (m1 _ _ hB1), atI_nat (j := 1) rfl, S r, rfl, by show r.length ≤ _; omega, fun H2 m2 => ?_⟩
        have := fin H2 ((same_new hB).trans (m1.trans m2))
        rw [show nameB p = true from k] at this; exact this
      · have := fin H1 ((same_new hB).trans m1)
        rw [show nameB p = false from Bool.eq_false_iff.mpr k] at this; exact this
    · refine ⟨_, rfl, B, _, rfl, .inl (SqL.of upd_same), rfl, _, rfl, ite2 (fun k => ?_) (fun _ => ?_)⟩
      · have e := of_decide_eq_true k
        injection e with e
        rw [List.length_map, List.length_map] at e
        omega
      · have fin0 : ∀ H', Same H H' → Q (.bl false) H' := fun H' m => by
          have := q H' m
          rw [addr_false hn] at this; exact this
        exact fin0 _ (same_new hB)
end
section
variable {P : Program} {w : World} {K : PySem.W.Frag} {mg : Str → Option Value} {base : Heap}
theorem ok__law_is_board (D : Df K mg "_law_is_board" s__law_is_board ["text"]) (T : Tx mg) (C__law_plain : Cal P w K mg base "_law_plain" ["text"] 1 sp_is_word) : Cal P w K mg base "_law_is_board" ["text"] 2 sp_is_board := by
  obtain ⟨f__law_plain, fd__law_plain, G__law_plain, g__law_plain, k__law_plain, b__law_plain⟩ := C__law_plain
  obtain ⟨f, fd, F, gf, bf⟩ := D
  refine ⟨f, fd, F.ok sc__law_is_board (fun vs H Q E h => ?_) (fun cdv A outer s₀ H vs Q E hr h => ?_), gf, F.kp, bf⟩
  · obtain ⟨x, rfl, _⟩ := h; rfl
  · obtain ⟨x, rfl, xl, q⟩ := h
    refine ⟨_, (pss_cons (ps_if (pt_cmpR op_gt (pe_callB call_lenS (by rfl) T.n_len PySem.boot_len (pa_cons (pv 0) pa_nil)) pe_int (nomark _))
      (pss_one (ps_ret pe_bl))
      pss_nil)
      (pss_cons (ps_for PassesOwn.never rfl (pi_list (pe_split (pv 0) pe_str)) (pg_name (i := 1) sc__law_is_board.nd rfl (Or.inl rfl))
      (pss_one (ps_if (pt_not (pt_val (pe_call G__law_plain (hr.mono (by decide)) (by rfl) g__law_plain k__law_plain b__law_plain .nil pass0 (pa_cons (pv 1) pa_nil))))
        (pss_one (ps_ret pe_bl))
        pss_nil)))
      (pss_one (ps_ret pe_bl)))), ?_⟩
    have small : ∀ n : Nat, n ≤ 30000 → n ≤ sizeLine := fun n h => Nat.le_trans h (by decide)
    have lx := tl_len x
    refine ⟨_, rfl, x, rfl, small _ (by omega), _, _, rfl, rfl, _, rfl, ite2 (fun k => ?_) (fun k => ?_)⟩
    · have h : (600 : Int) < (x.length : Int) := of_decide_eq_true k
      have := q H (Same.refl _)
      unfold boardB at this
      rw [decide_eq_false (show ¬ (tl x).length ≤ 600 by omega)] at this; exact this
    have l6 : (tl x).length ≤ 600 := by
      have : ¬ (600 : Int) < (x.length : Int) := fun h => k (decide_eq_true h)
      omega
    have fin : ∀ H', Same H H' → Q (.bl ((TL.spl [46] 0 [] (tl x)).all plain)) H' := fun H' m => by
      have := q H' m
      unfold boardB at this
      rw [decide_eq_true l6] at this; exact this
    refine ⟨_, rfl, ⟨_, rfl⟩, x, Str.ofString ".", rfl, rfl, rfl, small _ (by omega), fun B hB => ?_⟩
    rw [split_dot]
    have pb := spl_bound 46 (tl x) []
    have hB1 : (upd H B (HO.lst (((TL.spl [46] 0 [] (tl x)).map S).map V.str))) B = some (.lst (((TL.spl [46] 0 [] (tl x)).map S).map V.str)) := upd_same
    refine ⟨B, rfl, ⟨_, SqL.of hB1⟩, ?_⟩
    refine for_list (K := K) (a := B) (xs := ((TL.spl [46] 0 [] (tl x)).map S).map V.str) (fun i σ H' => (∃ v1 : Option V, σ = [some (.str x), v1]) ∧ Same (upd H B (HO.lst (((TL.spl [46] 0 [] (tl x)).map S).map V.str))) H' ∧ ((TL.spl [46] 0 [] (tl x)).take i).all plain = true) ⟨⟨_, rfl⟩, Same.refl _, rfl⟩ (fun i σ H' _ h => SqL.of (h.2.1 _ _ hB1)) ?_ ?_
    · rintro i y σ H' hi ⟨⟨v1, rfl⟩, h2, h3⟩
      rw [List.getElem?_map, List.getElem?_map] at hi
      obtain ⟨y', hy, rfl⟩ := Option.map_eq_some_iff.mp hi
      obtain ⟨it, hit, rfl⟩ := Option.map_eq_some_iff.mp hy
      have il := pb.1 it (List.mem_of_getElem? hit)
      rw [List.length_nil] at il
      have et : (TL.spl [46] 0 [] (tl x)).take (i + 1) = (TL.spl [46] 0 [] (tl x)).take i ++ [it] := by rw [List.take_add_one, hit]; rfl
      refine ⟨_, rfl, S it, rfl, by show it.length ≤ _; omega, fun H2 m2 => ⟨_, rfl, ite2 (fun k => ?_) (fun k => ?_)⟩⟩
      · have k' : (!plain it) = true := k
        have := fin H2 ((same_new hB).trans (h2.trans m2))
        rw [show ((TL.spl [46] 0 [] (tl x)).all plain) = false from ?_] at this
        · exact this
        · cases e : (TL.spl [46] 0 [] (tl x)).all plain with
          | false => rfl
          | true => rw [List.all_eq_true.mp e it (List.mem_of_getElem? hit)] at k'; cases k'
      · refine ⟨⟨_, rfl⟩, h2.trans m2, ?_⟩
        rw [et, List.all_append, h3]
        show (true && (plain it && true)) = true
        have : plain it = true := by
          cases e : plain it with
          | true => rfl
          | false => exact absurd (show (!plain it) = true by rw [e]; rfl) k
        rw [this]; rfl
    · rintro σ H' ⟨⟨v1, rfl⟩, h2, h3⟩
      rw [List.length_map, List.length_map, List.take_length] at h3
      have := fin H' ((same_new hB).trans h2)
      rw [h3] at this; exact this
end
section
variable {P : Program} {w : World} {K : PySem.W.Frag} {mg : Str → Option Value} {base : Heap}
theorem ok__law_ident (D : Df K mg "_law_ident" s__law_ident ["text"]) (T : Tx mg) (C__law_is_name : Cal P w K mg base "_law_is_name" ["text"] 2 sp_is_name) : Cal P w K mg base "_law_ident" ["text"] 3 (sp_id_of K) := by
  obtain ⟨f__law_is_name, fd__law_is_name, G__law_is_name, g__law_is_name, k__law_is_name, b__law_is_name⟩ := C__law_is_name
  obtain ⟨f, fd, F, gf, bf⟩ := D
  refine ⟨f, fd, F.ok sc__law_ident (fun vs H Q E h => ?_) (fun cdv A outer s₀ H vs Q E hr h => ?_), gf, F.kp, bf⟩
  · obtain ⟨x, rfl, _⟩ := h; rfl
  · obtain ⟨x, rfl, xl, q⟩ := h
    refine ⟨_, (pss_cons (ps_set (i := 1) sc__law_ident.nd rfl (Or.inl rfl) (pe_split (pv 0) pe_str))
      (pss_cons (ps_if (PW.pt (pw_or (pt_cmpR op_ne (pe_callB call_len_seq (by rfl) T.n_len PySem.boot_len (pa_cons (pv 1) pa_nil)) pe_int (nomark _)) (pw_or1 (pt_not (pt_val (pe_call G__law_is_name (hr.mono (by decide)) (by rfl) g__law_is_name k__law_is_name b__law_is_name .nil pass0 (pa_cons (pe_ix ix_list (pv 1) pe_int (fun _ _ => rfl)) pa_nil)))))))
      (pss_one (ps_ret pe_non))
      pss_nil)
      (pss_cons (ps_if (PW.pt (pw_or (pt_cmpR op_eq (pe_ix ix_list (pv 1) pe_int (fun _ _ => rfl)) pe_str (nomark _)) (pw_or (pt_cmpR op_gt (pe_callB call_lenS (by rfl) T.n_len PySem.boot_len (pa_cons (pe_ix ix_list (pv 1) pe_int (fun _ _ => rfl)) pa_nil)) pe_int (nomark _)) (pw_or1 (pt_cmpR op_eq (pe_item_str (pe_ix ix_list (pv 1) pe_int (fun _ _ => rfl)) pe_int (fun _ _ => rfl)) pe_str (nomark _))))))
      (pss_one (ps_ret pe_non))
      pss_nil)
      (pss_cons (ps_for PassesOwn.never rfl (pi_str (pe_ix ix_list (pv 1) pe_int (fun _ _ => rfl))) (pg_name (i := 2) sc__law_ident.nd rfl (Or.inl rfl))
      (pss_one (ps_if (pt_cmpR op_notIn_sign (pv 2) pe_str (by rfl))
        (pss_one (ps_ret pe_non))
        pss_nil)))
      (pss_one (ps_ret (pe_tup (pa_cons (pe_ix ix_list (pv 1) pe_int (fun _ _ => rfl)) (pa_cons (pe_callTy call_int_str (by rfl) T.n_int (by decide +kernel) (pa_cons (pe_ix ix_list (pv 1) pe_int (fun _ _ => rfl)) pa_nil)) pa_nil))))))))), ?_⟩
    have small : ∀ n : Nat, n ≤ 30000 → n ≤ sizeLine := fun n h => Nat.le_trans h (by decide)
    have lx := tl_len x
    refine ⟨_, rfl, ⟨_, rfl⟩, x, Str.ofString "@", rfl, rfl, rfl, small _ (by omega), fun B hB => ?_⟩
    rw [split_at]
    have none_ : (∀ p r, TL.par [64] [] (tl x) = some (p, r) → (dOk p && nameB r) = false) → ∀ H', Same H H' → Q .non H' := fun h H' m => by
      have := q .non H' m
      rw [ident_non h] at this
      exact this (by unfold DV; rfl)
    rcases at_two (tl x) with ⟨p, r, hp, hs⟩ | ⟨hl, hn⟩
    · rw [hs]
      have el := congrArg List.length (par_some hp)
      rw [List.nil_append, List.length_append, List.length_cons] at el
      have hB1 : (upd H B (HO.lst [V.str (S p), V.str (S r)])) B = some (.lst [V.str (S p), V.str (S r)]) := upd_same
      have no : (dOk p && nameB r) = false → ∀ H', Same H H' → Q .non H' := fun h => none_ fun p' r' e => by rw [hp] at e; cases e; exact h
      have sp : (S p).length = p.length := S_len p
      refine ⟨_, rfl, B, _, rfl, .inl (SqL.of hB1), rfl, _, rfl, iteF ⟨_, rfl, B, _, _, .str (S r), rfl, rfl, SqL.of hB1, atI_nat (j := 1) rfl, S r, rfl, by show r.length ≤ _; omega, fun H1 m1 => ⟨_, rfl, ite2 (fun k => ?_) (fun k => ?_)⟩⟩⟩
      · refine no ?_ H1 ((same_new hB).trans m1)
        have k' : (!nameB r) = true := k
        cases e : nameB r with
        | false => rw [Bool.and_false]
        | true => rw [e] at k'; cases k'
      have hr : nameB r = true := by
        cases e : nameB r with
        | true => rfl
        | false => exact absurd (show (!nameB r) = true by rw [e]; rfl) k
      have mm := (same_new (o := HO.lst [V.str (S p), V.str (S r)]) hB).trans m1
      have hB2 := m1 _ _ hB1
      refine ⟨_, rfl, B, _, _, .str (S p), rfl, rfl, SqL.of hB2, atI_nat (j := 0) rfl, rfl, _, rfl, ite2 (fun c1 => iteT ?_) (fun c1 => ?_)⟩
      · have e : p = [] := eqL.mp (of_decide_eq_true c1)
        exact no (by rw [e]; rfl) _ mm
      have ne : p ≠ [] := fun e => c1 (decide_eq_true (eqL.mpr e))
      have lp : 0 < p.length := List.length_pos_iff.mpr ne
      refine ⟨_, rfl, B, _, _, .str (S p), rfl, rfl, SqL.of hB2, atI_nat (j := 0) rfl, S p, rfl, small _ (by rw [sp]; omega), _, _, rfl, rfl, _, rfl, ite2 (fun c2 => iteT ?_) (fun c2 => ?_)⟩
      · have e : (6 : Int) < ((S p).length : Int) := of_decide_eq_true c2
        rw [sp] at e
        refine no ?_ _ mm
        cases kd : dOk p with
        | false => rfl
        | true =>
          have := ((numOk_iff p).mp (dOk_num kd).1).2.1
          omega
      have l6 : p.length ≤ 6 := by
        have : ¬ (6 : Int) < ((S p).length : Int) := fun h => c2 (decide_eq_true h)
        rw [sp] at this
        omega
      obtain ⟨c, hc, hh⟩ := head_at (x := S p) ne
      have hh' : p.head? = some c := hh
      obtain ⟨p', ep⟩ : ∃ p', p = c :: p' := by
        cases p with
        | nil => exact absurd rfl ne
        | cons d p' => cases hh'; exact ⟨p', rfl⟩
      refine ⟨_, rfl, B, _, _, .str (S p), rfl, rfl, SqL.of hB2, atI_nat (j := 0) rfl, S p, 0, c, rfl, rfl, by decide, by decide, by rw [sp]; omega, hc, rfl, _, rfl, ite2 (fun c3 => ?_) (fun c3 => ?_)⟩
      · have e : [c] = [48] := eqL.mp (of_decide_eq_true c3)
        refine no ?_ _ mm
        rw [ep, (List.cons.inj e).1]
        show ((decide _ && (decide (48 ≠ 48) && _)) && _) = false
        rw [show decide ((48 : Nat) ≠ 48) = false by decide, Bool.false_and, Bool.and_false, Bool.false_and]
      have c48 : c ≠ 48 := fun e => c3 (decide_eq_true (eqL.mpr (by rw [e]; rfl)))
      refine ⟨_, rfl, B, _, _, .str (S p), rfl, rfl, SqL.of hB2, atI_nat (j := 0) rfl, S p, rfl, ?_⟩
      refine for_str (l := p) (fun i σ H' => (∃ v2 : Option V, σ = [some (.str x), some (.ref B), v2]) ∧ H' = H1 ∧ (p.take i).all dgt = true) ⟨⟨_, rfl⟩, rfl, rfl⟩ ?_ ?_
      · rintro i d σ H' hi ⟨⟨v2, rfl⟩, rfl, h3⟩
        have et : p.take (i + 1) = p.take i ++ [d] := by rw [List.take_add_one, hi]; rfl
        refine ⟨_, rfl, d, _, rfl, rfl, _, rfl, ite2 (fun k => ?_) (fun k => ?_)⟩
        · have k' : (!dgt d) = true := k
          refine no ?_ _ mm
          cases kd : dOk p with
          | false => rfl
          | true =>
            have := List.all_eq_true.mp ((numOk_iff p).mp (dOk_num kd).1).2.2.1 d (List.mem_of_getElem? hi)
            rw [this] at k'; cases k'
        · refine ⟨⟨_, rfl⟩, rfl, ?_⟩
          rw [et, List.all_append, h3]
          show (true && (dgt d && true)) = true
          have : dgt d = true := by
            cases e : dgt d with
            | true => rfl
            | false => exact absurd (show (!dgt d) = true by rw [e]; rfl) k
          rw [this]; rfl
      · rintro σ H' ⟨⟨v2, rfl⟩, rfl, h3⟩
        rw [List.take_length] at h3
        have kd : dOk p = true := by
          rw [ep]
          show (decide _ && (decide (c ≠ 48) && _)) = true
          rw [← ep, decide_eq_true l6, decide_eq_true c48, h3]; rfl
        refine ⟨_, rfl, B, _, _, .str (S r), rfl, rfl, SqL.of hB2, atI_nat (j := 1) rfl, _, rfl, B, _, _, .str (S p), rfl, rfl, SqL.of hB2, atI_nat (j := 0) rfl, S p, _, rfl, isint h3 ne (Nat.le_trans l6 (by decide)), by rw [sp]; omega, by show 2 ≤ sizeLine; decide, fun t ht => ?_⟩
        refine q _ _ (mm.trans (same_new ht)) ?_
        unfold identD
        rw [hp]
        show DV K _ (if (dOk p && nameB r) = true then _ else _) _
        rw [kd, hr]
        exact ⟨t, _, rfl, SqT.of upd_same, _, _, rfl, by unfold DV; rfl, _, _, rfl, by unfold DV; rfl, rfl⟩
    · refine ⟨_, rfl, B, _, rfl, .inl (SqL.of upd_same), rfl, _, rfl, ite2 (fun k => iteT ?_) (fun k => ?_)⟩
      · exact none_ (fun p r h => by rw [hn p r h, Bool.and_false]) _ (same_new hB)
      · refine absurd ?_ k
        have : ¬ (V.int (((TL.spl [64] 0 [] (tl x)).map S).map V.str).length = V.int 2) := fun e => by
          injection e with e
          rw [List.length_map, List.length_map] at e
          omega
        show (!decide _) = true
        rw [decide_eq_false this]; rfl
end
section
variable {P : Program} {w : World} {K : PySem.W.Frag} {mg : Str → Option Value} {base : Heap}
theorem ok__law_bent (D : Df K mg "_law_bent" s__law_bent ["source", "text"]) (T : Tx mg) (C__law_draw : Cal P w K mg base "_law_draw" ["source", "many"] 2 sp__law_draw) : Cal P w K mg base "_law_bent" ["source", "text"] 3 sp__law_bent := by
  obtain ⟨f__law_draw, fd__law_draw, G__law_draw, g__law_draw, k__law_draw, b__law_draw⟩ := C__law_draw
  obtain ⟨f, fd, F, gf, bf⟩ := D
  refine ⟨f, fd, F.ok sc__law_bent (fun vs H Q E h => ?_) (fun cdv A outer s₀ H vs Q E hr h => ?_), gf, F.kp, bf⟩
  · obtain ⟨s, a, x, c, rfl, _⟩ := h; rfl
  · obtain ⟨s, a, x, c, rfl, xl, hS, q⟩ := h
    refine ⟨_, (pss_cons (ps_set (i := 2) sc__law_bent.nd rfl (Or.inl rfl) (pe_call G__law_draw (hr.mono (by decide)) (by rfl) g__law_draw k__law_draw b__law_draw .nil pass0 (pa_cons (pv 0) (pa_cons pe_int pa_nil))))
      (pss_cons (ps_set (i := 3) sc__law_bent.nd rfl (Or.inl rfl) (pe_call G__law_draw (hr.mono (by decide)) (by rfl) g__law_draw k__law_draw b__law_draw .nil pass0 (pa_cons (pv 0) (pa_cons (pe_op op_add (pe_callB call_lenS (by rfl) T.n_len PySem.boot_len (pa_cons (pv 1) pa_nil)) pe_int) pa_nil))))
      (pss_cons (ps_set (i := 4) sc__law_bent.nd rfl (Or.inl rfl) (pe_item_str pe_str (pe_call G__law_draw (hr.mono (by decide)) (by rfl) g__law_draw k__law_draw b__law_draw .nil pass0 (pa_cons (pv 0) (pa_cons pe_int pa_nil))) (fun _ _ => rfl)))
      (pss_cons (ps_if (pt_cmpR op_eq (pv 2) pe_int (nomark _))
      (pss_one (ps_ret (pe_op op_add_str (pe_op op_add_str (pe_slice sl_str (pv 1) po_none (po_some (pv 3))) (pv 4)) (pe_slice sl_str (pv 1) (po_some (pv 3)) po_none))))
      pss_nil)
      (pss_cons (ps_if (pt_cmpR op_eq (pv 2) pe_int (nomark _))
      (pss_one (ps_ret (pe_op op_add_str (pe_op op_add_str (pe_slice sl_str (pv 1) po_none (po_some (pv 3))) (pv 4)) (pe_slice sl_str (pv 1) (po_some (pe_op op_add (pv 3) pe_int)) po_none))))
      pss_nil)
      (pss_cons (ps_if (pt_cmpR op_eq (pv 2) pe_int (nomark _))
      (pss_one (ps_ret (pe_op op_add_str (pe_slice sl_str (pv 1) po_none (po_some (pv 3))) (pe_slice sl_str (pv 1) (po_some (pe_op op_add (pv 3) pe_int)) po_none))))
      pss_nil)
      (pss_cons (ps_if (pt_cmpR op_eq (pv 2) pe_int (nomark _))
      (pss_one (ps_ret (pe_op op_add_str (pe_callTy call_str_int (by rfl) T.n_str (by decide +kernel) (pa_cons (pe_call G__law_draw (hr.mono (by decide)) (by rfl) g__law_draw k__law_draw b__law_draw .nil pass0 (pa_cons (pv 0) (pa_cons pe_int pa_nil))) pa_nil)) (pv 1))))
      pss_nil)
      (pss_cons (ps_if (pt_cmpR op_eq (pv 2) pe_int (nomark _))
      (pss_one (ps_ret (pe_op op_add_str (pv 1) (pe_slice sl_str pe_str po_none (po_some (pe_call G__law_draw (hr.mono (by decide)) (by rfl) g__law_draw k__law_draw b__law_draw .nil pass0 (pa_cons (pv 0) (pa_cons pe_int pa_nil))))))))
      pss_nil)
      (pss_one (ps_ret (pv 1))))))))))), ?_⟩
    have small : ∀ n : Nat, n ≤ 30000 → n ≤ sizeLine := fun n h => Nat.le_trans h (by decide)
    have lx := tl_len x
    refine ⟨_, rfl, s, a, _, c + 9, rfl, by decide, by decide, hS, fun v H1 v0 v1 x1 S1 => ?_⟩
    refine ⟨_, rfl, _, rfl, x, rfl, small _ (by omega), _, _, rfl, rfl, s, a, _, c + 8, rfl, by omega, by omega, S1, fun pl H2 p0 p1 x2 S2 => ?_⟩
    refine ⟨_, rfl, s, a, _, c + 7, rfl, by decide, by decide, S2, fun o H3 o0 o1 x3 S3 => ?_⟩
    obtain ⟨ch, hc, _⟩ := at_str (x := Str.ofString "A-_@. 0zZ/:~") o0 (by rw [show (Str.ofString "A-_@. 0zZ/:~").length = 12 by decide +kernel]; exact o1)
    refine ⟨_, o, ch, rfl, rfl, o0, by omega, by rw [show (Str.ofString "A-_@. 0zZ/:~").length = 12 by decide +kernel]; exact o1, hc, ?_⟩
    have xx := x1.trans (x2.trans x3)
    have e1 : (tl (cutS x none (some pl))).length ≤ pl.toNat ∧ (tl (cutS x none (some pl))).length ≤ (tl x).length := by
      refine ⟨?_, cut_le _ _ _⟩
      rw [cutS_to p0, List.length_take]; exact Nat.min_le_left _ _
    have e2 : (tl (cutS x (some pl) none)).length = (tl x).length - pl.toNat := by rw [cutS_from p0, List.length_drop]
    have e3 : (tl (cutS x (some (pl + 1)) none)).length ≤ (tl x).length - pl.toNat := by rw [cutS_from (by omega), List.length_drop]; omega
    have lS : ∀ y : Str, y.length = (tl y).length := tl_len
    have lc : (tl (S [ch])).length = 1 := rfl
    refine ⟨_, rfl, rfl, _, rfl, ite2 (fun _ => ?_) (fun _ => ?_)⟩
    · refine ⟨_, rfl, _, rfl, pl, rfl, x, rfl, small _ (by omega), _, rfl, _, _, rfl, rfl, small _ (by rw [lS, lS, lc]; omega), _, rfl, _, rfl, pl, rfl, x, rfl, small _ (by omega), _, _, rfl, rfl, small _ (by rw [lS, lS, tl_app, List.length_append, lc]; omega), ?_⟩
      exact q _ _ (by rw [tl_app, tl_app, List.length_append, List.length_append, lc]; omega) xx (S3.mono (by omega))
    refine ⟨_, rfl, rfl, _, rfl, ite2 (fun _ => ?_) (fun _ => ?_)⟩
    · refine ⟨_, rfl, _, rfl, pl, rfl, x, rfl, small _ (by omega), _, rfl, _, _, rfl, rfl, small _ (by rw [lS, lS, lc]; omega), _, rfl, _, rfl, _, _, rfl, rfl, _, rfl, x, rfl, small _ (by omega), _, _, rfl, rfl, small _ (by rw [lS, lS, tl_app, List.length_append, lc]; omega), ?_⟩
      exact q _ _ (by rw [tl_app, tl_app, List.length_append, List.length_append, lc]; omega) xx (S3.mono (by omega))
    refine ⟨_, rfl, rfl, _, rfl, ite2 (fun _ => ?_) (fun _ => ?_)⟩
    · refine ⟨_, rfl, _, rfl, pl, rfl, x, rfl, small _ (by omega), _, rfl, _, rfl, _, _, rfl, rfl, _, rfl, x, rfl, small _ (by omega), _, _, rfl, rfl, small _ (by rw [lS, lS]; omega), ?_⟩
      exact q _ _ (by rw [tl_app, List.length_append]; omega) xx (S3.mono (by omega))
    refine ⟨_, rfl, rfl, _, rfl, ite2 (fun _ => ?_) (fun _ => ?_)⟩
    · refine ⟨_, rfl, s, a, _, c + 6, rfl, by decide, by decide, S3, fun d H4 d0 d1 x4 S4 => ?_⟩
      obtain ⟨m, rfl⟩ := Int.eq_ofNat_of_zero_le d0
      have t1 : tl (Str.ofString (toString (m : Int))) = TL.numL m := TL.tl_num m
      have t2 := TL.numL_len (n := m) (k := 1) (by decide) (by omega)
      refine ⟨(m : Int), rfl, ?_, _, rfl, _, _, rfl, rfl, small _ (by rw [lS, lS, t1]; omega), ?_⟩
      · show m.log2 < 1920
        by_cases h0 : m = 0
        · subst h0; decide
        · exact Nat.lt_of_lt_of_le ((Nat.log2_lt h0).mpr (show m < 2 ^ 20 by have : (2 : Nat) ^ 20 = 1048576 := by decide
                                                                             omega)) (by decide)
      · exact q _ _ (by rw [tl_app, List.length_append, t1]; omega) (xx.trans x4) (S4.mono (by omega))
    refine ⟨_, rfl, rfl, _, rfl, ite2 (fun _ => ?_) (fun _ => ?_)⟩
    · refine ⟨_, rfl, _, rfl, s, a, _, c + 6, rfl, by decide, by decide, S3, fun d H4 d0 d1 x4 S4 => ?_⟩
      have l9 := cut_le (Str.ofString "abcdefghi") none (some d)
      rw [show (tl (Str.ofString "abcdefghi")).length = 9 by rfl] at l9
      refine ⟨d, rfl, _, rfl, by decide +kernel, _, _, rfl, rfl, small _ (by rw [lS, lS]; omega), ?_⟩
      exact q _ _ (by rw [tl_app, List.length_append]; omega) (xx.trans x4) (S4.mono (by omega))
    exact ⟨_, rfl, q _ _ (by omega) xx (S3.mono (by omega))⟩
end
section
variable {P : Program} {w : World} {K : PySem.W.Frag} {mg : Str → Option Value} {base : Heap}
theorem ok__law_strings (D : Df K mg "_law_strings" s__law_strings ["source"]) (T : Tx mg) (C__law_bent : Cal P w K mg base "_law_bent" ["source", "text"] 3 sp__law_bent) (C__law_draw : Cal P w K mg base "_law_draw" ["source", "many"] 2 sp__law_draw) (C__law_names : Cal P w K mg base "_law_names" ["source", "many"] 4 (sp8__law_names K)) (C__law_once_in : Cal P w K mg base "_law_once_in" ["source", "many"] 3 sp__law_once_in) : Cal P w K mg base "_law_strings" ["source"] 5 sp__law_strings := by
  obtain ⟨f__law_bent, fd__law_bent, G__law_bent, g__law_bent, k__law_bent, b__law_bent⟩ := C__law_bent
  obtain ⟨f__law_draw, fd__law_draw, G__law_draw, g__law_draw, k__law_draw, b__law_draw⟩ := C__law_draw
  obtain ⟨f__law_names, fd__law_names, G__law_names, g__law_names, k__law_names, b__law_names⟩ := C__law_names
  obtain ⟨f__law_once_in, fd__law_once_in, G__law_once_in, g__law_once_in, k__law_once_in, b__law_once_in⟩ := C__law_once_in
  obtain ⟨f, fd, F, gf, bf⟩ := D
  refine ⟨f, fd, F.ok sc__law_strings (fun vs H Q E h => ?_) (fun cdv A outer s₀ H vs Q E hr h => ?_), gf, F.kp, bf⟩
  · obtain ⟨s, a, c, rfl, _⟩ := h; rfl
  · obtain ⟨s, a, c, rfl, hS, q⟩ := h
    refine ⟨_, (pss_cons (ps_set (i := 1) sc__law_strings.nd rfl (Or.inl rfl) (pe_call G__law_names (hr.mono (by decide)) (by rfl) g__law_names k__law_names b__law_names .nil pass0 (pa_cons (pv 0) (pa_cons pe_int pa_nil))))
      (pss_cons (ps_set (i := 2) sc__law_strings.nd rfl (Or.inl rfl) (pe_ix ix_list (pe_lst (pa_cons pe_str (pa_cons pe_str (pa_cons pe_str (pa_cons pe_str (pa_cons pe_str pa_nil)))))) (pe_call G__law_draw (hr.mono (by decide)) (by rfl) g__law_draw k__law_draw b__law_draw .nil pass0 (pa_cons (pv 0) (pa_cons pe_int pa_nil))) (fun _ _ => rfl)))
      (pss_cons (ps_set (i := 3) sc__law_strings.nd rfl (Or.inl rfl) (pe_op op_add pe_int (pe_call G__law_draw (hr.mono (by decide)) (by rfl) g__law_draw k__law_draw b__law_draw .nil pass0 (pa_cons (pv 0) (pa_cons pe_int pa_nil)))))
      (pss_cons (ps_set (i := 4) sc__law_strings.nd rfl (Or.inl rfl) (pe_join (pv 2) (pe_slice sl_list (pv 1) po_none (po_some (pv 3)))))
      (pss_cons (ps_set (i := 5) sc__law_strings.nd rfl (Or.inl rfl) (pe_op op_add_str (pe_ix ix_list (pv 1) pe_int (fun _ _ => rfl)) (pe_slice sl_str pe_str po_none (po_some (pe_call G__law_draw (hr.mono (by decide)) (by rfl) g__law_draw k__law_draw b__law_draw .nil pass0 (pa_cons (pv 0) (pa_cons pe_int pa_nil)))))))
      (pss_cons (ps_set (i := 6) sc__law_strings.nd rfl (Or.inl rfl) (pe_lst (pa_cons (pv 4) (pa_cons (pe_op op_add_str (pe_op op_add_str (pe_ix ix_list (pv 1) pe_int (fun _ _ => rfl)) pe_str) (pe_ix ix_list (pv 1) pe_int (fun _ _ => rfl))) (pa_cons (pe_join pe_str (pv 1)) (pa_cons (pe_ix ix_list (pv 1) pe_int (fun _ _ => rfl)) (pa_cons (pv 5) pa_nil)))))))
      (C8.pss_cut (ps_if (pt_val (pe_call G__law_once_in (hr.mono (by decide)) (by rfl) g__law_once_in k__law_once_in b__law_once_in .nil pass0 (pa_cons (pv 0) (pa_cons pe_int pa_nil))))
      (pss_one (ps_expr (pe_bm PySem.F.plainAttrs_list PySem.F.slot_list_append PySem.F.type_list_append mt_append (pv 6) (pa_cons (pe_op op_add_str (pe_slice sl_str (pe_op op_mul_str (pe_op op_add_str (pe_ix ix_list (pv 1) pe_int (fun _ _ => rfl)) pe_str) pe_int) po_none (po_some (pe_op op_add pe_int (pe_call G__law_draw (hr.mono (by decide)) (by rfl) g__law_draw k__law_draw b__law_draw .nil pass0 (pa_cons (pv 0) (pa_cons pe_int pa_nil)))))) pe_str) pa_nil))))
      pss_nil)
      (pss_one (ps_ret (pe_op L2.op_cat (pe_op L2.op_cat (pe_lc (own := [("one", 7)]) (g := gName 7) (tt := tYes) rfl sc__law_strings.nd (pi_list (pv 6)) (blkOk_by (own := [("one", 7)]) (N := N__law_strings) (sc := defScope s__law_strings) (by decide +kernel)) (fun _ _ _ _ _ => pg_name (i := 7) sc__law_strings.nd rfl (Or.inl rfl)) (fun _ _ _ _ _ => pts_nil) (fun _ _ _ _ _ => (pe_call G__law_bent (hr.mono (by decide)) (by rfl) g__law_bent k__law_bent b__law_bent .nil pass0 (pa_cons (pv 0) (pa_cons (pv 7) pa_nil))))) (pv 6)) (pe_lst (pa_cons pe_str pa_nil)))))))))))), ?_⟩
    have small : ∀ n : Nat, n ≤ 30000 → n ≤ sizeLine := fun n h => Nat.le_trans h (by decide)
    have lS : ∀ y : Str, y.length = (tl y).length := tl_len
    refine ⟨_, rfl, s, a, 3, c + 400, rfl, by decide, hS.mono (by omega), fun n ns H1 hn hN nl nA x1 S1 => ?_⟩
    obtain ⟨n0, n1, n2, rfl⟩ : ∃ n0 n1 n2, ns = [n0, n1, n2] := by
      match ns, nl with
      | [x, y, z], _ => exact ⟨x, y, z, rfl⟩
    have l0 : (tl n0).length ≤ 70 := Nat.le_trans (nA n0 (by simp)).2 (by decide)
    have l1 : (tl n1).length ≤ 70 := Nat.le_trans (nA n1 (by simp)).2 (by decide)
    have l2 : (tl n2).length ≤ 70 := Nat.le_trans (nA n2 (by simp)).2 (by decide)
    have nS : n ≠ s := hS.ne hn
    refine ⟨by show 5 ≤ sizeLine; decide, fun J hJ => ?_⟩
    refine ⟨_, rfl, s, a, _, c + 399, rfl, by decide, by decide, (S1.new hJ).mono (by omega), fun v H2 v0 v1 x2 S2 => ?_⟩
    have Js := S1.ne hJ
    have hJ2 := x2 _ _ Js upd_same
    obtain ⟨jt, hj, jl⟩ : ∃ jt : Str, [V.str (Str.ofString ""), V.str (Str.ofString "@"), V.str (Str.ofString "."), V.str (Str.ofString "@"), V.str (Str.ofString ".")][v.toNat]? = some (V.str jt) ∧ (tl jt).length ≤ 1 := by
      rcases (by omega : v.toNat = 0 ∨ v.toNat = 1 ∨ v.toNat = 2 ∨ v.toNat = 3 ∨ v.toNat = 4) with e | e | e | e | e <;> rw [e] <;> exact ⟨_, rfl, by decide +kernel⟩
    refine ⟨J, _, v, .str jt, rfl, rfl, SqL.of hJ2, atI_pos v0 hj, ?_⟩
    refine ⟨_, rfl, s, a, _, c + 398, rfl, by decide, by decide, S2.mono (by omega), fun w H3 w0 w1 x3 S3 => ?_⟩
    refine ⟨_, _, rfl, rfl, ?_⟩
    have x13 : Ext s H1 H3 := (Ext.new hJ).trans (x2.trans x3)
    have hN3 := x13 _ _ nS hN
    refine ⟨_, rfl, ⟨_, rfl⟩, _, rfl, _, rfl, 1 + w, rfl, n, _, rfl, SqL.of hN3, fun p hp => ?_⟩
    have ep : cutV ([n0, n1, n2].map V.str) none (some (1 + w)) = (([n0, n1, n2].take (1 + w).toNat).map V.str) := by rw [cutV_to (by omega), List.map_take]
    rw [ep]
    have pA : ∀ x ∈ [n0, n1, n2].take (1 + w).toNat, (tl x).length ≤ 70 := fun x m => Nat.le_trans (nA x (List.mem_of_mem_take m)).2 (by decide)
    have pn : ([n0, n1, n2].take (1 + w).toNat).length ≤ 3 := by rw [List.length_take]; exact Nat.min_le_right _ _
    have psum := sum_len pA
    refine ⟨jt, p, _, rfl, rfl, .inl (SqL.of upd_same), ?_, ?_⟩
    · have := Nat.mul_le_mul pn jl
      have := lS jt
      have : ([n0, n1, n2].take (1 + w).toNat).length * jt.length ≤ 3 * 1 := by rw [lS jt]; exact Nat.mul_le_mul pn jl
      omega
    have tlen : (tl (Txt.join jt ([n0, n1, n2].take (1 + w).toNat))).length ≤ 213 := by
      rw [tl_joinS]
      refine Nat.le_trans (joinL_len (n := 70) fun l m => ?_) ?_
      · obtain ⟨x, hx, rfl⟩ := List.mem_map.mp m
        exact pA x hx
      · rw [List.length_map]
        have : ([n0, n1, n2].take (1 + w).toNat).length * (70 + (tl jt).length) ≤ 3 * (70 + 1) := Nat.mul_le_mul pn (by omega)
        omega
    have hN4 := same_new (o := HO.lst (([n0, n1, n2].take (1 + w).toNat).map V.str)) hp _ _ hN3
    have S4 := S3.new (o := HO.lst (([n0, n1, n2].take (1 + w).toNat).map V.str)) hp
    refine ⟨_, rfl, n, _, _, .str n0, rfl, rfl, SqL.of hN4, atI_nat (j := 0) rfl, ?_⟩
    refine ⟨_, rfl, s, a, _, c + 397, rfl, by decide, by decide, S4.mono (by omega), fun d H5 d0 d1 x5 S5 => ?_⟩
    have l8 := cut_le (Str.ofString "12345678") none (some d)
    rw [show (tl (Str.ofString "12345678")).length = 8 by rfl] at l8
    refine ⟨d, rfl, _, rfl, by decide +kernel, _, _, rfl, rfl, small _ (by rw [lS, lS]; omega), ?_⟩
    have hN5 := x5 _ _ nS hN4
    have lo : (tl (n0 ++ cutS (Str.ofString "12345678") none (some d))).length ≤ 80 := by rw [tl_app, List.length_append]; omega
    have la : (tl (n0 ++ Str.ofString "@")).length = (tl n0).length + 1 := by rw [tl_app, List.length_append]; rfl
    have lb : (tl (n0 ++ Str.ofString "@" ++ n1)).length ≤ 141 := by rw [tl_app, List.length_append, la]; omega
    have jA : ∀ x ∈ [n0, n1, n2], (tl x).length ≤ 70 := fun x m => Nat.le_trans (nA x m).2 (by decide)
    have ld : (tl (Txt.join (Str.ofString ".") [n0, n1, n2])).length ≤ 213 := by
      rw [tl_joinS]
      refine Nat.le_trans (joinL_len (n := 70) fun l m => ?_) ?_
      · obtain ⟨x, hx, rfl⟩ := List.mem_map.mp m
        exact jA x hx
      · show 3 * (70 + 1) ≤ 213; decide
    refine ⟨_, rfl, _, rfl, n, _, _, .str n0, rfl, rfl, SqL.of hN5, atI_nat (j := 0) rfl, _, _, rfl, rfl, small _ (by rw [lS, lS]; show _ + 1 ≤ _; omega), _, rfl, n, _, _, .str n1, rfl, rfl, SqL.of hN5, atI_nat (j := 1) rfl, _, _, rfl, rfl, small _ (by rw [lS, lS, la]; omega), ?_⟩
    refine ⟨⟨_, rfl⟩, _, rfl, Str.ofString ".", n, [n0, n1, n2], rfl, rfl, .inl (SqL.of hN5), ?_, ?_⟩
    · have := sum_len jA
      show _ + 3 * 1 ≤ _
      have e3 : [n0, n1, n2].length = 3 := rfl
      omega
    refine ⟨_, rfl, n, _, _, .str n2, rfl, rfl, SqL.of hN5, atI_nat (j := 2) rfl, _, rfl, by show 5 ≤ sizeLine; decide, fun F hF => ?_⟩
    have Fs := S5.ne hF
    have Fa := S5.nea hF
    have xF : Ext s H H5 := x1.trans (x13.trans ((Ext.new hp).trans x5))
    have HF : H F = none := ext_free xF S5 hF
    have outF : ∀ (G : Hp) (o : HO), Ext s H G → Ext s H (upd G F o) := fun G o x v w hb hh => by
      rw [upd_ne (ne_of_none hh HF)]; exact x _ _ hb hh
    have Fn : F ≠ n := (ne_of_none hN5 hF).symm
    have hF5 : (upd H5 F (HO.lst ([Txt.join jt ([n0, n1, n2].take (1 + w).toNat), n0 ++ Str.ofString "@" ++ n1, Txt.join (Str.ofString ".") [n0, n1, n2], n2, n0 ++ cutS (Str.ofString "12345678") none (some d)].map V.str))) F = some (.lst ([Txt.join jt ([n0, n1, n2].take (1 + w).toNat), n0 ++ Str.ofString "@" ++ n1, Txt.join (Str.ofString ".") [n0, n1, n2], n2, n0 ++ cutS (Str.ofString "12345678") none (some d)].map V.str)) := upd_same
    have lf : ∀ x ∈ [Txt.join jt ([n0, n1, n2].take (1 + w).toNat), n0 ++ Str.ofString "@" ++ n1, Txt.join (Str.ofString ".") [n0, n1, n2], n2, n0 ++ cutS (Str.ofString "12345678") none (some d)], (tl x).length ≤ 700 := by
      intro x hx
      simp only [List.mem_cons, List.not_mem_nil, or_false] at hx
      rcases hx with e | e | e | e | e <;> subst e <;> omega
    have S6 := S5.new (o := HO.lst ([Txt.join jt ([n0, n1, n2].take (1 + w).toNat), n0 ++ Str.ofString "@" ++ n1, Txt.join (Str.ofString ".") [n0, n1, n2], n2, n0 ++ cutS (Str.ofString "12345678") none (some d)].map V.str)) hF
    have x6 : Ext s H _ := xF.trans (Ext.new (o := HO.lst ([Txt.join jt ([n0, n1, n2].take (1 + w).toNat), n0 ++ Str.ofString "@" ++ n1, Txt.join (Str.ofString ".") [n0, n1, n2], n2, n0 ++ cutS (Str.ofString "12345678") none (some d)].map V.str)) hF)
    refine ⟨fun σ' H' => ∃ (fs : List Str) (v1 v2 v3 v4 v5 v7 : Option V), σ' = [some (.ref s), v1, v2, v3, v4, v5, some (.ref F), v7] ∧ H' F = some (.lst (fs.map V.str)) ∧ fs.length ≤ 6 ∧ (∀ x ∈ fs, (tl x).length ≤ 700) ∧ Ext s H H' ∧ Src H' s a (c + 390), ?_, ?_⟩
    · refine ⟨_, rfl, s, a, _, c + 396, rfl, by decide, by decide, S6.mono (by omega), fun bb H7 x7 S7 => ?_⟩
      have hF7 := x7 _ _ Fs hF5
      refine ⟨_, rfl, ite2 (fun _ => ?_) (fun _ => ⟨_, _, _, _, _, _, _, rfl, hF7, by show 5 ≤ 6; decide, lf, x6.trans x7, S7.mono (by omega)⟩)⟩
      have hN7 := x7 _ _ nS (same_new (o := HO.lst ([Txt.join jt ([n0, n1, n2].take (1 + w).toNat), n0 ++ Str.ofString "@" ++ n1, Txt.join (Str.ofString ".") [n0, n1, n2], n2, n0 ++ cutS (Str.ofString "12345678") none (some d)].map V.str)) hF _ _ hN5)
      have lp : (tl (n0 ++ Str.ofString ".")).length = (tl n0).length + 1 := by rw [tl_app, List.length_append]; rfl
      refine ⟨_, rfl, .inl ⟨rfl, _, SqL.of hF7⟩, _, rfl, n, _, _, .str n0, rfl, rfl, SqL.of hN7, atI_nat (j := 0) rfl, _, _, rfl, rfl, small _ (by rw [lS, lS]; show _ + 1 ≤ _; omega), _, 400, rfl, rfl, by decide, by decide, by rw [lp]; show _ * 400 ≤ _; omega, fun r hr' => ?_⟩
      have lr : (tl r).length ≤ 30000 := by rw [hr', rep_len, lp]; show 400 * _ ≤ _; omega
      refine ⟨_, rfl, s, a, _, c + 395, rfl, by decide, by decide, S7.mono (by omega), fun k H8 k0 k1 x8 S8 => ?_⟩
      have lk : (tl (cutS r none (some (597 + k)))).length ≤ 602 := by
        rw [cutS_to (by omega), List.length_take]
        exact Nat.le_trans (Nat.min_le_left _ _) (by omega)
      refine ⟨_, _, rfl, rfl, 597 + k, rfl, r, rfl, small _ (by rw [lS]; exact lr), _, _, rfl, rfl, small _ (by rw [lS, lS]; show _ + 1 ≤ _; omega), ?_⟩
      have hF8 := x8 _ _ Fs hF7
      refine ⟨F, _, _, rfl, rfl, hF8, by show 5 < sizeLine; decide, ?_⟩
      refine ⟨[Txt.join jt ([n0, n1, n2].take (1 + w).toNat), n0 ++ Str.ofString "@" ++ n1, Txt.join (Str.ofString ".") [n0, n1, n2], n2, n0 ++ cutS (Str.ofString "12345678") none (some d)] ++ [cutS r none (some (597 + k)) ++ Str.ofString "a"], _, _, _, _, _, _, rfl, upd_same, by show 6 ≤ 6; decide, fun x hx => ?_, outF _ _ (x6.trans (x7.trans x8)), (S8.put Fs Fa).mono (by omega)⟩
      rcases List.mem_append.mp hx with h | h
      · exact lf x h
      · rw [List.mem_singleton.mp h, tl_app, List.length_append]; show _ + 1 ≤ _; omega
    rintro σ' H7 ⟨fs, v1, v2, v3, v4, v5, v7, rfl, hF7, fl, fA, x7, S7⟩
    refine ⟨_, rfl, F, rfl, ⟨_, SqL.of hF7⟩, fun D hD => ?_⟩
    have Ds := S7.ne hD
    have Da := S7.nea hD
    have DF : F ≠ D := ne_of_none hF7 hD
    have HD : H D = none := ext_free x7 S7 hD
    have outD : ∀ (G : Hp) (o : HO), Ext s H G → Ext s H (upd G D o) := fun G o x v w hb hh => by
      rw [upd_ne (ne_of_none hh HD)]; exact x _ _ hb hh
    refine lc_list (K := K) (a := F) (xs := fs.map V.str) (fun i H' => ∃ ys : List Str, H' D = some (.lst (ys.map V.str)) ∧ ys.length = i ∧ (∀ y ∈ ys, (tl y).length ≤ 710) ∧ H' F = some (.lst (fs.map V.str)) ∧ Ext s H H' ∧ Src H' s a (c + (390 - 20 * i))) ⟨[], upd_same, rfl, (fun _ h => (by cases h)), by rw [upd_ne DF]; exact hF7, outD _ _ x7, (S7.new hD)⟩ (fun i H' _ ⟨_, _, _, _, h, _⟩ => SqL.of h) ?_ ?_
    · rintro i y H' hi ⟨ys, h1, h2, h3, h4, h5, h6⟩
      have ib := (List.getElem?_eq_some_iff.mp hi).1
      rw [List.length_map] at ib
      rw [List.getElem?_map] at hi
      obtain ⟨z, hz, rfl⟩ := Option.map_eq_some_iff.mp hi
      have zl := fA z (List.mem_of_getElem? hz)
      refine ⟨rfl, _, rfl, _, rfl, s, a, z, c + (390 - 20 * i) - 10, rfl, by omega, h6.mono (by omega), fun y H2 yl x2 S2 => ?_⟩
      refine ⟨_, x2 _ _ Ds h1, by rw [List.length_map]; exact Nat.lt_of_le_of_lt (show ys.length ≤ 10 by omega) (by decide), ys ++ [y], by rw [upd_same, List.map_append]; rfl, by rw [List.length_append, h2]; rfl, fun u hu => ?_, by rw [upd_ne DF]; exact x2 _ _ Fs h4, outD _ _ (h5.trans x2), (S2.put Ds Da).mono (by omega)⟩
      rcases List.mem_append.mp hu with h | h
      · exact h3 u h
      · rw [List.mem_singleton.mp h]; omega
    · rintro H' ⟨ys, h1, h2, h3, h4, h5, h6⟩
      rw [List.length_map] at h2
      refine ⟨_, rfl, D, F, _, _, rfl, rfl, h1, h4, by rw [List.length_map, List.length_map]; exact small _ (by omega), fun R hR => ?_⟩
      have nR := same_new (o := HO.lst (ys.map V.str ++ fs.map V.str)) hR
      refine ⟨by show 1 ≤ sizeLine; decide, fun O hO => ?_⟩
      have nO := same_new (o := HO.lst [V.str (Str.ofString "")]) hO
      refine ⟨R, O, _, _, rfl, rfl, nO _ _ upd_same, upd_same, by rw [List.length_append, List.length_map, List.length_map]; exact small _ (by show _ + 1 ≤ _; omega), fun U hU => ?_⟩
      have nU := same_new (o := HO.lst ((ys.map V.str ++ fs.map V.str) ++ [V.str (Str.ofString "")])) hU
      have xx := h5.trans (Ext.of (nR.trans nO))
      refine q U (ys ++ fs ++ [Str.ofString ""]) _ (ext_free xx (h6.ext (nR.trans nO)) hU) (by rw [upd_same, List.map_append, List.map_append]; rfl) ?_ (fun x hx => ?_) (xx.trans (Ext.of nU)) ((h6.ext (nR.trans (nO.trans nU))).mono (by omega))
      · rw [List.length_append, List.length_append]; show _ + 1 ≤ 20; omega
      · rcases List.mem_append.mp hx with h | h
        · rcases List.mem_append.mp h with h | h
          · have := h3 x h; omega
          · have := fA x h; omega
        · rw [List.mem_singleton.mp h]; decide
end

end Z
namespace Z
open PySem L2 SX
section
variable {P : Program} {w : World} {K : PySem.W.Frag} {mg : Str → Option Value} {base : Heap}
theorem ok_law {f : Addr} {fd : FuncData} (F : Fun K "law" "law" s_law f fd) (T : Tx mg) (C__law_bent : Cal P w K mg base "_law_bent" ["source", "text"] 3 sp__law_bent) (C__law_draw : Cal P w K mg base "_law_draw" ["source", "many"] 2 sp__law_draw) (C__law_ident : Cal P w K mg base "_law_ident" ["text"] 3 (sp_id_of K)) (C__law_is_address : Cal P w K mg base "_law_is_address" ["text"] 3 sp_is_address) (C__law_is_board : Cal P w K mg base "_law_is_board" ["text"] 2 sp_is_board) (C__law_is_name : Cal P w K mg base "_law_is_name" ["text"] 2 sp_is_name) (C__law_names : Cal P w K mg base "_law_names" ["source", "many"] 4 (sp8__law_names K)) (C__law_same : Cal P w K mg base "_law_same" ["actual", "due"] 3 (sp__law_same K 2)) (C__law_source : Cal P w K mg base "_law_source" ["script"] 2 (sp__law_source K)) (C__law_strings : Cal P w K mg base "_law_strings" ["source"] 5 sp__law_strings) (C_id_of : Cal P w K mg base "id_of" ["text"] 4 (sp_id_of K)) (C_id_text : Cal P w K mg base "id_text" ["id"] 1 (sp_id_text K)) (C_is_address : Cal P w K mg base "is_address" ["text"] 3 sp_is_address) (C_is_board : Cal P w K mg base "is_board" ["text"] 2 sp_is_board) (C_is_name : Cal P w K mg base "is_name" ["text"] 2 sp_is_name) (C_split_address : Cal P w K mg base "split_address" ["address"] 1 (sp_split_address K)) : FnOk P w K mg base CX0 6 f fd ["script"] (sp_law K) := by
  obtain ⟨f__law_bent, fd__law_bent, G__law_bent, g__law_bent, k__law_bent, b__law_bent⟩ := C__law_bent
  obtain ⟨f__law_draw, fd__law_draw, G__law_draw, g__law_draw, k__law_draw, b__law_draw⟩ := C__law_draw
  obtain ⟨f__law_ident, fd__law_ident, G__law_ident, g__law_ident, k__law_ident, b__law_ident⟩ := C__law_ident
  obtain ⟨f__law_is_address, fd__law_is_address, G__law_is_address, g__law_is_address, k__law_is_address, b__law_is_address⟩ := C__law_is_address
  obtain ⟨f__law_is_board, fd__law_is_board, G__law_is_board, g__law_is_board, k__law_is_board, b__law_is_board⟩ := C__law_is_board
  obtain ⟨f__law_is_name, fd__law_is_name, G__law_is_name, g__law_is_name, k__law_is_name, b__law_is_name⟩ := C__law_is_name
  obtain ⟨f__law_names, fd__law_names, G__law_names, g__law_names, k__law_names, b__law_names⟩ := C__law_names
  obtain ⟨f__law_same, fd__law_same, G__law_same, g__law_same, k__law_same, b__law_same⟩ := C__law_same
  obtain ⟨f__law_source, fd__law_source, G__law_source, g__law_source, k__law_source, b__law_source⟩ := C__law_source
  obtain ⟨f__law_strings, fd__law_strings, G__law_strings, g__law_strings, k__law_strings, b__law_strings⟩ := C__law_strings
  obtain ⟨f_id_of, fd_id_of, G_id_of, g_id_of, k_id_of, b_id_of⟩ := C_id_of
  obtain ⟨f_id_text, fd_id_text, G_id_text, g_id_text, k_id_text, b_id_text⟩ := C_id_text
  obtain ⟨f_is_address, fd_is_address, G_is_address, g_is_address, k_is_address, b_is_address⟩ := C_is_address
  obtain ⟨f_is_board, fd_is_board, G_is_board, g_is_board, k_is_board, b_is_board⟩ := C_is_board
  obtain ⟨f_is_name, fd_is_name, G_is_name, g_is_name, k_is_name, b_is_name⟩ := C_is_name
  obtain ⟨f_split_address, fd_split_address, G_split_address, g_split_address, k_split_address, b_split_address⟩ := C_split_address
  refine F.ok sc_law (fun vs H Q E h => ?_) (fun cdv A outer s₀ H vs Q E hr h => ?_)
  · obtain ⟨a, ns, rfl, _⟩ := h; rfl
  · obtain ⟨a, ns, rfl, hA, hlen, q⟩ := h
    refine ⟨_, (pss_cons (ps_set (i := 1) sc_law.nd rfl (Or.inl rfl) (pe_call G__law_source (hr.mono (by decide)) (by rfl) g__law_source k__law_source b__law_source .nil pass0 (pa_cons (pv 0) pa_nil)))
      (pss_cons (ps_for PassesOwn.never rfl (pi_list (pe_call G__law_strings (hr.mono (by decide)) (by rfl) g__law_strings k__law_strings b__law_strings .nil pass0 (pa_cons (pv 1) pa_nil))) (pg_name (i := 2) sc_law.nd rfl (Or.inl rfl))
      (pss_cons (ps_if (pt_not (pt_val (pe_call G__law_same (hr.mono (by decide)) (by rfl) g__law_same k__law_same b__law_same .nil pass0 (pa_cons (pe_call G_is_name (hr.mono (by decide)) (by rfl) g_is_name k_is_name b_is_name .nil pass0 (pa_cons (pv 2) pa_nil)) (pa_cons (pe_call G__law_is_name (hr.mono (by decide)) (by rfl) g__law_is_name k__law_is_name b__law_is_name .nil pass0 (pa_cons (pv 2) pa_nil)) pa_nil)))))
        (pss_one (ps_ret pe_bl))
        pss_nil)
        (pss_cons (ps_if (pt_not (pt_val (pe_call G__law_same (hr.mono (by decide)) (by rfl) g__law_same k__law_same b__law_same .nil pass0 (pa_cons (pe_call G_is_address (hr.mono (by decide)) (by rfl) g_is_address k_is_address b_is_address .nil pass0 (pa_cons (pv 2) pa_nil)) (pa_cons (pe_call G__law_is_address (hr.mono (by decide)) (by rfl) g__law_is_address k__law_is_address b__law_is_address .nil pass0 (pa_cons (pv 2) pa_nil)) pa_nil)))))
        (pss_one (ps_ret pe_bl))
        pss_nil)
        (pss_cons (ps_if (pt_not (pt_val (pe_call G__law_same (hr.mono (by decide)) (by rfl) g__law_same k__law_same b__law_same .nil pass0 (pa_cons (pe_call G_is_board (hr.mono (by decide)) (by rfl) g_is_board k_is_board b_is_board .nil pass0 (pa_cons (pv 2) pa_nil)) (pa_cons (pe_call G__law_is_board (hr.mono (by decide)) (by rfl) g__law_is_board k__law_is_board b__law_is_board .nil pass0 (pa_cons (pv 2) pa_nil)) pa_nil)))))
        (pss_one (ps_ret pe_bl))
        pss_nil)
        (pss_cons (ps_if (pt_not (pt_val (pe_call G__law_same (hr.mono (by decide)) (by rfl) g__law_same k__law_same b__law_same .nil pass0 (pa_cons (pe_call G_id_of (hr.mono (by decide)) (by rfl) g_id_of k_id_of b_id_of .nil pass0 (pa_cons (pv 2) pa_nil)) (pa_cons (pe_call G__law_ident (hr.mono (by decide)) (by rfl) g__law_ident k__law_ident b__law_ident .nil pass0 (pa_cons (pv 2) pa_nil)) pa_nil)))))
        (pss_one (ps_ret pe_bl))
        pss_nil)
        (pss_one (ps_if (pt_val (pe_call G__law_is_address (hr.mono (by decide)) (by rfl) g__law_is_address k__law_is_address b__law_is_address .nil pass0 (pa_cons (pv 2) pa_nil)))
        (pss_cons (ps_set (i := 3) sc_law.nd rfl (Or.inl rfl) (pe_split (pv 2) pe_str))
          (pss_one (ps_if (pt_not (pt_val (pe_call G__law_same (hr.mono (by decide)) (by rfl) g__law_same k__law_same b__law_same .nil pass0 (pa_cons (pe_call G_split_address (hr.mono (by decide)) (by rfl) g_split_address k_split_address b_split_address .nil pass0 (pa_cons (pv 2) pa_nil)) (pa_cons (pe_tup (pa_cons (pe_ix ix_list (pv 3) pe_int (fun _ _ => rfl)) (pa_cons (pe_ix ix_list (pv 3) pe_int (fun _ _ => rfl)) pa_nil))) pa_nil)))))
          (pss_one (ps_ret pe_bl))
          pss_nil)))
        pss_nil)))))))
      (pss_cons (ps_for PassesOwn.never rfl (pi_list (pe_call G__law_names (hr.mono (by decide)) (by rfl) g__law_names k__law_names b__law_names .nil pass0 (pa_cons (pv 1) (pa_cons pe_int pa_nil)))) (pg_name (i := 4) sc_law.nd rfl (Or.inl rfl))
      (pss_cons (ps_set (i := 5) sc_law.nd rfl (Or.inl rfl) (pe_op op_add pe_int (pe_op op_fdiv (pe_call G__law_draw (hr.mono (by decide)) (by rfl) g__law_draw k__law_draw b__law_draw .nil pass0 (pa_cons (pv 1) (pa_cons pe_int pa_nil))) (pe_ix ix_list (pe_lst (pa_cons pe_int (pa_cons pe_int (pa_cons pe_int (pa_cons pe_int pa_nil))))) (pe_call G__law_draw (hr.mono (by decide)) (by rfl) g__law_draw k__law_draw b__law_draw .nil pass0 (pa_cons (pv 1) (pa_cons pe_int pa_nil))) (fun _ _ => rfl)))))
        (pss_cons (ps_set (i := 2) sc_law.nd rfl (Or.inl rfl) (pe_op op_add_str (pe_op op_add_str (pe_callTy call_str_int (by rfl) T.n_str (by decide +kernel) (pa_cons (pv 5) pa_nil)) pe_str) (pv 4)))
        (pss_cons (ps_if (PW.pt (pw_or (pt_not (pt_val (pe_call G__law_same (hr.mono (by decide)) (by rfl) g__law_same k__law_same b__law_same .nil pass0 (pa_cons (pe_call G_id_text (hr.mono (by decide)) (by rfl) g_id_text k_id_text b_id_text .nil pass0 (pa_cons (pe_tup (pa_cons (pv 4) (pa_cons (pv 5) pa_nil))) pa_nil)) (pa_cons (pv 2) pa_nil))))) (pw_or1 (pt_not (pt_val (pe_call G__law_same (hr.mono (by decide)) (by rfl) g__law_same k__law_same b__law_same .nil pass0 (pa_cons (pe_call G_id_of (hr.mono (by decide)) (by rfl) g_id_of k_id_of b_id_of .nil pass0 (pa_cons (pv 2) pa_nil)) (pa_cons (pe_tup (pa_cons (pv 4) (pa_cons (pv 5) pa_nil))) pa_nil))))))))
        (pss_one (ps_ret pe_bl))
        pss_nil)
        (pss_one (ps_for PassesOwn.never rfl (pi_range1 (by rfl) T.n_range (pa_cons pe_int pa_nil)) (pg_name (i := 6) sc_law.nd rfl (Or.inl rfl))
        (pss_cons (ps_set (i := 2) sc_law.nd rfl (Or.inl rfl) (pe_call G__law_bent (hr.mono (by decide)) (by rfl) g__law_bent k__law_bent b__law_bent .nil pass0 (pa_cons (pv 1) (pa_cons (pv 2) pa_nil))))
          (pss_one (ps_if (pt_not (pt_val (pe_call G__law_same (hr.mono (by decide)) (by rfl) g__law_same k__law_same b__law_same .nil pass0 (pa_cons (pe_call G_id_of (hr.mono (by decide)) (by rfl) g_id_of k_id_of b_id_of .nil pass0 (pa_cons (pv 2) pa_nil)) (pa_cons (pe_call G__law_ident (hr.mono (by decide)) (by rfl) g__law_ident k__law_ident b__law_ident .nil pass0 (pa_cons (pv 2) pa_nil)) pa_nil)))))
          (pss_one (ps_ret pe_bl))
          pss_nil)))))))))
      (pss_one (ps_ret pe_bl))))), ?_⟩
    have small : ∀ n : Nat, n ≤ 30000 → n ≤ sizeLine := fun n h => Nat.le_trans h (by decide)
    have lS : ∀ y : Str, y.length = (tl y).length := tl_len
    refine ⟨_, rfl, a, ns, rfl, hA, hlen, fun s b H1 hs x1 S1 => ?_⟩
    refine ⟨_, rfl, s, b, 20000, rfl, S1.mono (by decide), fun u us H2 hu hU ul uA x2 S2 => ?_⟩
    refine ⟨u, rfl, ⟨_, SqL.of hU⟩, ?_⟩
    refine for_list (K := K) (a := u) (xs := us.map V.str) (fun i σ H' => (∃ v2 v3 v4 v5 v6 : Option V, σ = [some (.ref a), some (.ref s), v2, v3, v4, v5, v6]) ∧ Same H2 H') ⟨⟨_, _, _, _, _, rfl⟩, Same.refl _⟩ (fun i σ H' _ h => SqL.of (h.2 _ _ hU)) ?_ ?_
    · rintro i x σ H' hi ⟨⟨v2, v3, v4, v5, v6, rfl⟩, mS⟩
      rw [List.getElem?_map] at hi
      obtain ⟨x, hx, rfl⟩ := Option.map_eq_some_iff.mp hi
      have xl : (tl x).length ≤ 2000 := Nat.le_trans (uA x (List.mem_of_getElem? hx)) (by decide)
      refine ⟨_, rfl, x, rfl, xl, fun G1 m1 => ⟨_, rfl, x, rfl, xl, fun G2 m2 => ⟨.bl (nameB (tl x)), _, _, rfl, by unfold DV; rfl, by unfold DV; rfl, True.intro, _, rfl, iteF ?_⟩⟩⟩
      refine ⟨_, rfl, x, rfl, xl, fun G3 m3 => ⟨_, rfl, x, rfl, xl, fun G4 m4 => ⟨.bl (addrB (tl x)), _, _, rfl, by unfold DV; rfl, by unfold DV; rfl, True.intro, _, rfl, iteF ?_⟩⟩⟩
      refine ⟨_, rfl, x, rfl, xl, fun G5 m5 => ⟨_, rfl, x, rfl, xl, fun G6 m6 => ⟨.bl (boardB (tl x)), _, _, rfl, by unfold DV; rfl, by unfold DV; rfl, True.intro, _, rfl, iteF ?_⟩⟩⟩
      refine ⟨_, rfl, x, rfl, xl, fun v G7 m7 d7 => ⟨_, rfl, x, rfl, xl, fun v' G8 m8 d8 => ⟨identD (tl x), _, _, rfl, d7.same m8, d8, identDL _, _, rfl, iteF ?_⟩⟩⟩
      have m18 := mS.trans (m1.trans (m2.trans (m3.trans (m4.trans (m5.trans (m6.trans (m7.trans m8)))))))
      refine ⟨_, rfl, x, rfl, xl, fun G9 m9 => ⟨_, rfl, ite2 (fun k => ?_) (fun _ => ⟨⟨_, _, _, _, _, rfl⟩, m18.trans m9⟩)⟩⟩
      refine ⟨_, rfl, ⟨_, rfl⟩, x, Str.ofString "@", rfl, rfl, rfl, small _ (by rw [lS]; omega), fun B hB => ?_⟩
      rw [split_at]
      have k' : addrB (tl x) = true := k
      rcases at_two (tl x) with ⟨p, r, hp, hs2⟩ | ⟨hl, hn⟩
      · rw [hs2]
        have hB1 : (upd G9 B (HO.lst [V.str (S p), V.str (S r)])) B = some (.lst [V.str (S p), V.str (S r)]) := upd_same
        refine ⟨_, rfl, x, p, r, rfl, xl, hp, fun v G10 m10 d10 => ?_⟩
        have hB2 := m10 _ _ hB1
        refine ⟨_, rfl, B, _, _, .str (S p), rfl, rfl, SqL.of hB2, atI_nat (j := 0) rfl, _, rfl, B, _, _, .str (S r), rfl, rfl, SqL.of hB2, atI_nat (j := 1) rfl, by show 2 ≤ sizeLine; decide, fun t ht => ?_⟩
        refine ⟨.tup [.str (S p), .str (S r)], _, _, rfl, d10.same (same_new ht), ⟨t, _, rfl, SqT.of upd_same, _, _, rfl, by unfold DV; rfl, _, _, rfl, by unfold DV; rfl, rfl⟩, ⟨by show 2 ≤ _; decide, fun d hd => ?_⟩, _, rfl, iteF ⟨⟨_, _, _, _, _, rfl⟩, m18.trans (m9.trans ((same_new hB).trans (m10.trans (same_new ht))))⟩⟩
        simp only [List.mem_cons, List.not_mem_nil, or_false] at hd
        rcases hd with e | e <;> subst e <;> exact True.intro
      · rw [addr_false hn] at k'; cases k'
    · rintro σ H' ⟨⟨v2, v3, v4, v5, v6, rfl⟩, mS⟩
      have S3 := S2.ext mS
      refine ⟨_, rfl, s, b, 2, 10000, rfl, by decide, S3.mono (by decide), fun n nn H3 hn hN nl nA x3 S4 => ?_⟩
      have nS : n ≠ s := S3.ne hn
      refine ⟨n, rfl, ⟨_, SqL.of hN⟩, ?_⟩
      refine for_list (K := K) (a := n) (xs := nn.map V.str) (fun i σ H' => (∃ v2 v3 v4 v5 v6 : Option V, σ = [some (.ref a), some (.ref s), v2, v3, v4, v5, v6]) ∧ H' n = some (.lst (nn.map V.str)) ∧ Src H' s b (10000 - 2000 * i)) ⟨⟨_, _, _, _, _, rfl⟩, hN, S4⟩ (fun i σ H' _ h => SqL.of h.2.1) ?_ ?_
      · rintro i x σ H' hi ⟨⟨v2, v3, v4, v5, v6, rfl⟩, hN', S5⟩
        have ib := (List.getElem?_eq_some_iff.mp hi).1
        rw [List.length_map, nl] at ib
        rw [List.getElem?_map] at hi
        obtain ⟨x, hx, rfl⟩ := Option.map_eq_some_iff.mp hi
        obtain ⟨xN, x8⟩ := nA x (List.mem_of_getElem? hx)
        refine ⟨_, rfl, s, b, _, 9900 - 2000 * i, rfl, by decide, by decide, S5.mono (by omega), fun v H4 v0 v1 x4 S6 => ?_⟩
        refine ⟨by show 4 ≤ sizeLine; decide, fun J hJ => ?_⟩
        refine ⟨_, rfl, s, b, _, 9899 - 2000 * i, rfl, by decide, by decide, (S6.new hJ).mono (by omega), fun w H5 w0 w1 x5 S7 => ?_⟩
        have hJ2 := x5 _ _ (S6.ne hJ) upd_same
        obtain ⟨dv, hj, dp, dl⟩ : ∃ dv : Int, [V.int 1, V.int 10, V.int 1000, V.int 100000][w.toNat]? = some (V.int dv) ∧ 0 < dv ∧ dv < 1073741824 := by
          rcases (by omega : w.toNat = 0 ∨ w.toNat = 1 ∨ w.toNat = 2 ∨ w.toNat = 3) with e | e | e | e <;> rw [e] <;> exact ⟨_, rfl, by decide, by decide⟩
        refine ⟨J, _, w, .int dv, rfl, rfl, SqL.of hJ2, atI_pos w0 hj, _, _, rfl, rfl, ⟨dp, dl⟩, _, _, rfl, rfl, ?_⟩
        have q0 : 0 ≤ v / dv := Int.ediv_nonneg v0 (by omega)
        have q1 : v / dv ≤ v := Int.ediv_le_self _ v0
        obtain ⟨m, em⟩ : ∃ m : Nat, 1 + v / dv = (m : Int) := ⟨(1 + v / dv).toNat, by omega⟩
        have m1 : 1 ≤ m := by omega
        have m2 : m ≤ 999999 := by omega
        dsimp only
        rw [em]
        have t1 : tl (Str.ofString (toString (m : Int))) = TL.numL m := TL.tl_num m
        have t2 := TL.numL_len (n := m) (k := 6) (by decide) (by omega)
        have t3 : (tl (Str.ofString (toString (m : Int)) ++ Str.ofString "@")).length = (TL.numL m).length + 1 := by rw [tl_app, List.length_append, t1]; rfl
        refine ⟨_, rfl, (m : Int), rfl, ?_, _, _, rfl, rfl, small _ (by rw [lS, lS, t1]; show _ + 1 ≤ _; omega), _, rfl, _, _, rfl, rfl, small _ (by rw [lS, lS, t3]; omega), ?_⟩
        · show m.log2 < 1920
          by_cases h0 : m = 0
          · subst h0; decide
          · exact Nat.lt_of_lt_of_le ((Nat.log2_lt h0).mpr (show m < 2 ^ 20 by have : (2 : Nat) ^ 20 = 1048576 := by decide
                                                                               omega)) (by decide)
        have eT : tl (Str.ofString (toString (m : Int)) ++ Str.ofString "@" ++ x) = TL.numL m ++ 64 :: tl x := by
          rw [tl_app, tl_app, t1, List.append_assoc]; rfl
        generalize Str.ofString (toString (m : Int)) ++ Str.ofString "@" ++ x = T at eT ⊢
        have lT : (tl T).length ≤ 20 := by rw [eT, List.length_append, List.length_cons]; omega
        have nS7 : H5 n = some (.lst (nn.map V.str)) := (x4.trans ((Ext.new hJ).trans x5)) _ _ nS hN'
        refine ⟨_, rfl, _, rfl, by show 2 ≤ sizeLine; decide, fun t ht => ⟨t, x, m, rfl, SqT.of upd_same, Nat.le_trans x8 (by decide), m2, fun y hy => ?_⟩⟩
        have ey : y = T := tl_ext (by rw [hy, eT])
        subst ey
        refine ⟨_, rfl, .str y, _, _, rfl, by unfold DV; rfl, by unfold DV; rfl, True.intro, _, rfl, iteF ?_⟩
        refine ⟨_, rfl, y, rfl, by omega, fun v' G m' d' => ⟨_, rfl, _, rfl, by show 2 ≤ sizeLine; decide, fun t2 h2 => ⟨identD (tl y), v', _, rfl, d'.same (same_new h2), ?_, identDL _, _, rfl, iteF ?_⟩⟩⟩
        · rw [eT, ident_text m1 m2 xN x8]
          exact ⟨t2, _, rfl, SqT.of upd_same, _, _, rfl, by unfold DV; rfl, _, _, rfl, by unfold DV; rfl, rfl⟩
        have mm := (same_new (o := HO.tup [V.str x, .int (m : Int)]) ht).trans (m'.trans (same_new (o := HO.tup [V.str x, .int (m : Int)]) h2))
        refine ⟨_, rfl, by decide, by decide, ?_⟩
        refine for_range (lo := 0) (n := (3 : Int).toNat) (fun j σ H' => (∃ (y : Str) (v3 v5 v6 : Option V), σ = [some (.ref a), some (.ref s), some (.str y), v3, some (.str x), v5, v6] ∧ (tl y).length ≤ 20 + 10 * j) ∧ H' n = some (.lst (nn.map V.str)) ∧ Src H' s b (8500 - 2000 * i - 100 * j)) ⟨⟨_, _, _, _, rfl, by omega⟩, mm _ _ nS7, (S7.ext mm).mono (by omega)⟩ ?_ ?_
        · rintro j σ H6 hj ⟨⟨y, v3, v5, v6, rfl, yl⟩, hN6, S8⟩
          have j3 : j < 3 := hj
          refine ⟨_, rfl, _, rfl, s, b, y, 8500 - 2000 * i - 100 * j - 20, rfl, by omega, S8.mono (by omega), fun y' G1 yl' x6 S9 => ?_⟩
          refine ⟨_, rfl, y', rfl, by omega, fun v1 G2 m3 d3 => ⟨_, rfl, y', rfl, by omega, fun v2 G3 m4 d4 => ⟨identD (tl y'), _, _, rfl, d3.same m4, d4, identDL _, _, rfl, iteF ?_⟩⟩⟩
          exact ⟨⟨y', _, _, _, rfl, by omega⟩, (m3.trans m4) _ _ (x6 _ _ nS hN6), (S9.ext (m3.trans m4)).mono (by omega)⟩
        · rintro σ H6 ⟨⟨y, v3, v5, v6, rfl, yl⟩, hN6, S8⟩
          have e3 : (3 : Int).toNat = 3 := rfl
          rw [e3] at S8
          exact ⟨⟨_, _, _, _, _, rfl⟩, hN6, S8.mono (by omega)⟩
      · rintro σ H' _
        exact q _
end

end Z
namespace Z
open PySem L2 SX
theorem all_mk {l : PySem.W.OpenLaw} {w : World} {K : PySem.W.Frag} {h : Heap} {mg : Str → Option Value} {fa : Addr} (X : K.In h) (G : h.Ns mainGlobals mg) (hfa : mg "law" = some (.ref fa))
    {f0 : Addr} {od0 an0 : Option Addr} {sl0 : Array (Option Value)} {oc0 kV0 dc0 pm0 cd0 ct0 : Value}
    {f1 : Addr} {od1 an1 : Option Addr} {sl1 : Array (Option Value)} {oc1 kV1 dc1 pm1 cd1 ct1 : Value}
    {f2 : Addr} {od2 an2 : Option Addr} {sl2 : Array (Option Value)} {oc2 kV2 dc2 pm2 cd2 ct2 : Value}
    {f3 : Addr} {od3 an3 : Option Addr} {sl3 : Array (Option Value)} {oc3 kV3 dc3 pm3 cd3 ct3 : Value}
    {f4 : Addr} {od4 an4 : Option Addr} {sl4 : Array (Option Value)} {oc4 kV4 dc4 pm4 cd4 ct4 : Value}
    {f5 : Addr} {od5 an5 : Option Addr} {sl5 : Array (Option Value)} {oc5 kV5 dc5 pm5 cd5 ct5 : Value}
    {f6 : Addr} {od6 an6 : Option Addr} {sl6 : Array (Option Value)} {oc6 kV6 dc6 pm6 cd6 ct6 : Value}
    {f7 : Addr} {od7 an7 : Option Addr} {sl7 : Array (Option Value)} {oc7 kV7 dc7 pm7 cd7 ct7 : Value}
    {f8 : Addr} {od8 an8 : Option Addr} {sl8 : Array (Option Value)} {oc8 kV8 dc8 pm8 cd8 ct8 : Value}
    {f9 : Addr} {od9 an9 : Option Addr} {sl9 : Array (Option Value)} {oc9 kV9 dc9 pm9 cd9 ct9 : Value}
    {f10 : Addr} {od10 an10 : Option Addr} {sl10 : Array (Option Value)} {oc10 kV10 dc10 pm10 cd10 ct10 : Value}
    {f11 : Addr} {od11 an11 : Option Addr} {sl11 : Array (Option Value)} {oc11 kV11 dc11 pm11 cd11 ct11 : Value}
    {f12 : Addr} {od12 an12 : Option Addr} {sl12 : Array (Option Value)} {oc12 kV12 dc12 pm12 cd12 ct12 : Value}
    {f13 : Addr} {od13 an13 : Option Addr} {sl13 : Array (Option Value)} {oc13 kV13 dc13 pm13 cd13 ct13 : Value}
    {f14 : Addr} {od14 an14 : Option Addr} {sl14 : Array (Option Value)} {oc14 kV14 dc14 pm14 cd14 ct14 : Value}
    {f15 : Addr} {od15 an15 : Option Addr} {sl15 : Array (Option Value)} {oc15 kV15 dc15 pm15 cd15 ct15 : Value}
    {f16 : Addr} {od16 an16 : Option Addr} {sl16 : Array (Option Value)} {oc16 kV16 dc16 pm16 cd16 ct16 : Value}
    {f17 : Addr} {od17 an17 : Option Addr} {sl17 : Array (Option Value)} {oc17 kV17 dc17 pm17 cd17 ct17 : Value}
    {f18 : Addr} {od18 an18 : Option Addr} {sl18 : Array (Option Value)} {oc18 kV18 dc18 pm18 cd18 ct18 : Value}
    {f19 : Addr} {od19 an19 : Option Addr} {sl19 : Array (Option Value)} {oc19 kV19 dc19 pm19 cd19 ct19 : Value}
    {f20 : Addr} {od20 an20 : Option Addr} {sl20 : Array (Option Value)} {oc20 kV20 dc20 pm20 cd20 ct20 : Value}
    {f21 : Addr} {od21 an21 : Option Addr} {sl21 : Array (Option Value)} {oc21 kV21 dc21 pm21 cd21 ct21 : Value}
    {f22 : Addr} {od22 an22 : Option Addr} {sl22 : Array (Option Value)} {oc22 kV22 dc22 pm22 cd22 ct22 : Value}
    {f23 : Addr} {od23 an23 : Option Addr} {sl23 : Array (Option Value)} {oc23 kV23 dc23 pm23 cd23 ct23 : Value}
    {f24 : Addr} {od24 an24 : Option Addr} {sl24 : Array (Option Value)} {oc24 kV24 dc24 pm24 cd24 ct24 : Value}
    (a0 : PySem.W.nsIn K mainGlobals "number_of" = some (some (.ref f0))) (l0 : K.lookup f0 = some ⟨oc0, od0, .func (PySem.W.fnOf "number_of" "number_of" (defArgs s_number_of) (defBody s_number_of) (defScope s_number_of) .none kV0 dc0 pm0 an0 cd0 ct0), sl0⟩) (c0 : PySem.W.codeIn K cd0 "number_of" = true) (k0 : PySem.W.keepIn K (.ref f0) = true)
    (a1 : PySem.W.nsIn K mainGlobals "is_word" = some (some (.ref f1))) (l1 : K.lookup f1 = some ⟨oc1, od1, .func (PySem.W.fnOf "is_word" "is_word" (defArgs s_is_word) (defBody s_is_word) (defScope s_is_word) .none kV1 dc1 pm1 an1 cd1 ct1), sl1⟩) (c1 : PySem.W.codeIn K cd1 "is_word" = true) (k1 : PySem.W.keepIn K (.ref f1) = true)
    (a2 : PySem.W.nsIn K mainGlobals "is_name" = some (some (.ref f2))) (l2 : K.lookup f2 = some ⟨oc2, od2, .func (PySem.W.fnOf "is_name" "is_name" (defArgs s_is_name) (defBody s_is_name) (defScope s_is_name) .none kV2 dc2 pm2 an2 cd2 ct2), sl2⟩) (c2 : PySem.W.codeIn K cd2 "is_name" = true) (k2 : PySem.W.keepIn K (.ref f2) = true)
    (a3 : PySem.W.nsIn K mainGlobals "is_address" = some (some (.ref f3))) (l3 : K.lookup f3 = some ⟨oc3, od3, .func (PySem.W.fnOf "is_address" "is_address" (defArgs s_is_address) (defBody s_is_address) (defScope s_is_address) .none kV3 dc3 pm3 an3 cd3 ct3), sl3⟩) (c3 : PySem.W.codeIn K cd3 "is_address" = true) (k3 : PySem.W.keepIn K (.ref f3) = true)
    (a4 : PySem.W.nsIn K mainGlobals "is_board" = some (some (.ref f4))) (l4 : K.lookup f4 = some ⟨oc4, od4, .func (PySem.W.fnOf "is_board" "is_board" (defArgs s_is_board) (defBody s_is_board) (defScope s_is_board) .none kV4 dc4 pm4 an4 cd4 ct4), sl4⟩) (c4 : PySem.W.codeIn K cd4 "is_board" = true) (k4 : PySem.W.keepIn K (.ref f4) = true)
    (a5 : PySem.W.nsIn K mainGlobals "is_id" = some (some (.ref f5))) (l5 : K.lookup f5 = some ⟨oc5, od5, .func (PySem.W.fnOf "is_id" "is_id" (defArgs s_is_id) (defBody s_is_id) (defScope s_is_id) .none kV5 dc5 pm5 an5 cd5 ct5), sl5⟩) (c5 : PySem.W.codeIn K cd5 "is_id" = true) (k5 : PySem.W.keepIn K (.ref f5) = true)
    (a6 : PySem.W.nsIn K mainGlobals "id_text" = some (some (.ref f6))) (l6 : K.lookup f6 = some ⟨oc6, od6, .func (PySem.W.fnOf "id_text" "id_text" (defArgs s_id_text) (defBody s_id_text) (defScope s_id_text) .none kV6 dc6 pm6 an6 cd6 ct6), sl6⟩) (c6 : PySem.W.codeIn K cd6 "id_text" = true) (k6 : PySem.W.keepIn K (.ref f6) = true)
    (a7 : PySem.W.nsIn K mainGlobals "id_of" = some (some (.ref f7))) (l7 : K.lookup f7 = some ⟨oc7, od7, .func (PySem.W.fnOf "id_of" "id_of" (defArgs s_id_of) (defBody s_id_of) (defScope s_id_of) .none kV7 dc7 pm7 an7 cd7 ct7), sl7⟩) (c7 : PySem.W.codeIn K cd7 "id_of" = true) (k7 : PySem.W.keepIn K (.ref f7) = true)
    (a8 : PySem.W.nsIn K mainGlobals "split_address" = some (some (.ref f8))) (l8 : K.lookup f8 = some ⟨oc8, od8, .func (PySem.W.fnOf "split_address" "split_address" (defArgs s_split_address) (defBody s_split_address) (defScope s_split_address) .none kV8 dc8 pm8 an8 cd8 ct8), sl8⟩) (c8 : PySem.W.codeIn K cd8 "split_address" = true) (k8 : PySem.W.keepIn K (.ref f8) = true)
    (a9 : PySem.W.nsIn K mainGlobals "_law_mix" = some (some (.ref f9))) (l9 : K.lookup f9 = some ⟨oc9, od9, .func (PySem.W.fnOf "_law_mix" "_law_mix" (defArgs s__law_mix) (defBody s__law_mix) (defScope s__law_mix) .none kV9 dc9 pm9 an9 cd9 ct9), sl9⟩) (c9 : PySem.W.codeIn K cd9 "_law_mix" = true) (k9 : PySem.W.keepIn K (.ref f9) = true)
    (a10 : PySem.W.nsIn K mainGlobals "_law_source" = some (some (.ref f10))) (l10 : K.lookup f10 = some ⟨oc10, od10, .func (PySem.W.fnOf "_law_source" "_law_source" (defArgs s__law_source) (defBody s__law_source) (defScope s__law_source) .none kV10 dc10 pm10 an10 cd10 ct10), sl10⟩) (c10 : PySem.W.codeIn K cd10 "_law_source" = true) (k10 : PySem.W.keepIn K (.ref f10) = true)
    (a11 : PySem.W.nsIn K mainGlobals "_law_draw" = some (some (.ref f11))) (l11 : K.lookup f11 = some ⟨oc11, od11, .func (PySem.W.fnOf "_law_draw" "_law_draw" (defArgs s__law_draw) (defBody s__law_draw) (defScope s__law_draw) .none kV11 dc11 pm11 an11 cd11 ct11), sl11⟩) (c11 : PySem.W.codeIn K cd11 "_law_draw" = true) (k11 : PySem.W.keepIn K (.ref f11) = true)
    (a12 : PySem.W.nsIn K mainGlobals "_law_once_in" = some (some (.ref f12))) (l12 : K.lookup f12 = some ⟨oc12, od12, .func (PySem.W.fnOf "_law_once_in" "_law_once_in" (defArgs s__law_once_in) (defBody s__law_once_in) (defScope s__law_once_in) .none kV12 dc12 pm12 an12 cd12 ct12), sl12⟩) (c12 : PySem.W.codeIn K cd12 "_law_once_in" = true) (k12 : PySem.W.keepIn K (.ref f12) = true)
    (a13 : PySem.W.nsIn K mainGlobals "_law_new_name" = some (some (.ref f13))) (l13 : K.lookup f13 = some ⟨oc13, od13, .func (PySem.W.fnOf "_law_new_name" "_law_new_name" (defArgs s__law_new_name) (defBody s__law_new_name) (defScope s__law_new_name) .none kV13 dc13 pm13 an13 cd13 ct13), sl13⟩) (c13 : PySem.W.codeIn K cd13 "_law_new_name" = true) (k13 : PySem.W.keepIn K (.ref f13) = true)
    (a14 : PySem.W.nsIn K mainGlobals "_law_names" = some (some (.ref f14))) (l14 : K.lookup f14 = some ⟨oc14, od14, .func (PySem.W.fnOf "_law_names" "_law_names" (defArgs s__law_names) (defBody s__law_names) (defScope s__law_names) .none kV14 dc14 pm14 an14 cd14 ct14), sl14⟩) (c14 : PySem.W.codeIn K cd14 "_law_names" = true) (k14 : PySem.W.keepIn K (.ref f14) = true)
    (a15 : PySem.W.nsIn K mainGlobals "_law_is_int" = some (some (.ref f15))) (l15 : K.lookup f15 = some ⟨oc15, od15, .func (PySem.W.fnOf "_law_is_int" "_law_is_int" (defArgs s__law_is_int) (defBody s__law_is_int) (defScope s__law_is_int) .none kV15 dc15 pm15 an15 cd15 ct15), sl15⟩) (c15 : PySem.W.codeIn K cd15 "_law_is_int" = true) (k15 : PySem.W.keepIn K (.ref f15) = true)
    (a16 : PySem.W.nsIn K mainGlobals "_law_same" = some (some (.ref f16))) (l16 : K.lookup f16 = some ⟨oc16, od16, .func (PySem.W.fnOf "_law_same" "_law_same" (defArgs s__law_same) (defBody s__law_same) (defScope s__law_same) .none kV16 dc16 pm16 an16 cd16 ct16), sl16⟩) (c16 : PySem.W.codeIn K cd16 "_law_same" = true) (k16 : PySem.W.keepIn K (.ref f16) = true)
    (a17 : PySem.W.nsIn K mainGlobals "_law_plain" = some (some (.ref f17))) (l17 : K.lookup f17 = some ⟨oc17, od17, .func (PySem.W.fnOf "_law_plain" "_law_plain" (defArgs s__law_plain) (defBody s__law_plain) (defScope s__law_plain) .none kV17 dc17 pm17 an17 cd17 ct17), sl17⟩) (c17 : PySem.W.codeIn K cd17 "_law_plain" = true) (k17 : PySem.W.keepIn K (.ref f17) = true)
    (a18 : PySem.W.nsIn K mainGlobals "_law_is_name" = some (some (.ref f18))) (l18 : K.lookup f18 = some ⟨oc18, od18, .func (PySem.W.fnOf "_law_is_name" "_law_is_name" (defArgs s__law_is_name) (defBody s__law_is_name) (defScope s__law_is_name) .none kV18 dc18 pm18 an18 cd18 ct18), sl18⟩) (c18 : PySem.W.codeIn K cd18 "_law_is_name" = true) (k18 : PySem.W.keepIn K (.ref f18) = true)
    (a19 : PySem.W.nsIn K mainGlobals "_law_is_address" = some (some (.ref f19))) (l19 : K.lookup f19 = some ⟨oc19, od19, .func (PySem.W.fnOf "_law_is_address" "_law_is_address" (defArgs s__law_is_address) (defBody s__law_is_address) (defScope s__law_is_address) .none kV19 dc19 pm19 an19 cd19 ct19), sl19⟩) (c19 : PySem.W.codeIn K cd19 "_law_is_address" = true) (k19 : PySem.W.keepIn K (.ref f19) = true)
    (a20 : PySem.W.nsIn K mainGlobals "_law_is_board" = some (some (.ref f20))) (l20 : K.lookup f20 = some ⟨oc20, od20, .func (PySem.W.fnOf "_law_is_board" "_law_is_board" (defArgs s__law_is_board) (defBody s__law_is_board) (defScope s__law_is_board) .none kV20 dc20 pm20 an20 cd20 ct20), sl20⟩) (c20 : PySem.W.codeIn K cd20 "_law_is_board" = true) (k20 : PySem.W.keepIn K (.ref f20) = true)
    (a21 : PySem.W.nsIn K mainGlobals "_law_ident" = some (some (.ref f21))) (l21 : K.lookup f21 = some ⟨oc21, od21, .func (PySem.W.fnOf "_law_ident" "_law_ident" (defArgs s__law_ident) (defBody s__law_ident) (defScope s__law_ident) .none kV21 dc21 pm21 an21 cd21 ct21), sl21⟩) (c21 : PySem.W.codeIn K cd21 "_law_ident" = true) (k21 : PySem.W.keepIn K (.ref f21) = true)
    (a22 : PySem.W.nsIn K mainGlobals "_law_bent" = some (some (.ref f22))) (l22 : K.lookup f22 = some ⟨oc22, od22, .func (PySem.W.fnOf "_law_bent" "_law_bent" (defArgs s__law_bent) (defBody s__law_bent) (defScope s__law_bent) .none kV22 dc22 pm22 an22 cd22 ct22), sl22⟩) (c22 : PySem.W.codeIn K cd22 "_law_bent" = true) (k22 : PySem.W.keepIn K (.ref f22) = true)
    (a23 : PySem.W.nsIn K mainGlobals "_law_strings" = some (some (.ref f23))) (l23 : K.lookup f23 = some ⟨oc23, od23, .func (PySem.W.fnOf "_law_strings" "_law_strings" (defArgs s__law_strings) (defBody s__law_strings) (defScope s__law_strings) .none kV23 dc23 pm23 an23 cd23 ct23), sl23⟩) (c23 : PySem.W.codeIn K cd23 "_law_strings" = true) (k23 : PySem.W.keepIn K (.ref f23) = true)
    (a24 : PySem.W.nsIn K mainGlobals "law" = some (some (.ref f24))) (l24 : K.lookup f24 = some ⟨oc24, od24, .func (PySem.W.fnOf "law" "law" (defArgs s_law) (defBody s_law) (defScope s_law) .none kV24 dc24 pm24 an24 cd24 ct24), sl24⟩) (c24 : PySem.W.codeIn K cd24 "law" = true) (k24 : PySem.W.keepIn K (.ref f24) = true)
    (z_abs : PySem.W.nsIn K mainGlobals "abs" = some none)
    (z_all : PySem.W.nsIn K mainGlobals "all" = some none)
    (z_bool : PySem.W.nsIn K mainGlobals "bool" = some none)
    (z_int : PySem.W.nsIn K mainGlobals "int" = some none)
    (z_isinstance : PySem.W.nsIn K mainGlobals "isinstance" = some none)
    (z_len : PySem.W.nsIn K mainGlobals "len" = some none)
    (z_list : PySem.W.nsIn K mainGlobals "list" = some none)
    (z_range : PySem.W.nsIn K mainGlobals "range" = some none)
    (z_str : PySem.W.nsIn K mainGlobals "str" = some none)
    (z_tuple : PySem.W.nsIn K mainGlobals "tuple" = some none)
    {t_LETTERS : Tok} (v_LETTERS : PySem.W.nsIn K mainGlobals "LETTERS" = some (some (.str ("abcdefghijklmnopqrstuvwxyz") t_LETTERS)))
    {t_DIGITS : Tok} (v_DIGITS : PySem.W.nsIn K mainGlobals "DIGITS" = some (some (.str ("0123456789") t_DIGITS)))
    {t_LONGEST_NAME : Tok} (v_LONGEST_NAME : PySem.W.nsIn K mainGlobals "LONGEST_NAME" = some (some (.int 8 t_LONGEST_NAME)))
    {t_LONGEST_BOARD : Tok} (v_LONGEST_BOARD : PySem.W.nsIn K mainGlobals "LONGEST_BOARD" = some (some (.int 600 t_LONGEST_BOARD)))
    {t_LAST_NUMBER : Tok} (v_LAST_NUMBER : PySem.W.nsIn K mainGlobals "LAST_NUMBER" = some (some (.int 999999 t_LAST_NUMBER))) :
    ∃ fd : FuncData, (∀ (s : Shared) (v : Value), BindsTo s fd ⟨[v], []⟩ [("script", v)]) ∧ ∀ base : Heap, K.In base → base.Ns mainGlobals mg → FnOk l.prog w K mg base CX0 6 fa fd ["script"] (sp_law K) := by
  have e := hfa.symm.trans (PySem.W.mg_of X G a24)
  cases e
  have T : Tx mg := ⟨PySem.W.mg_none_of X G z_abs, PySem.W.mg_none_of X G z_all, PySem.W.mg_none_of X G z_bool, PySem.W.mg_none_of X G z_int, PySem.W.mg_none_of X G z_isinstance, PySem.W.mg_none_of X G z_len, PySem.W.mg_none_of X G z_list, PySem.W.mg_none_of X G z_range, PySem.W.mg_none_of X G z_str, PySem.W.mg_none_of X G z_tuple, ⟨_, PySem.W.mg_of X G v_LETTERS⟩, ⟨_, PySem.W.mg_of X G v_DIGITS⟩, ⟨_, PySem.W.mg_of X G v_LONGEST_NAME⟩, ⟨_, PySem.W.mg_of X G v_LONGEST_BOARD⟩, ⟨_, PySem.W.mg_of X G v_LAST_NUMBER⟩⟩
  refine ⟨PySem.W.fnOf "law" "law" (defArgs s_law) (defBody s_law) (defScope s_law) .none kV24 dc24 pm24 an24 cd24 ct24, fun s v => .of_eq rfl, fun base _ _ => ?_⟩
  have D_number_of : Df K mg "number_of" s_number_of ["text", "longest"] := ⟨f0, _, fun_mk (st := s_number_of) l0 c0 k0, PySem.W.mg_of X G a0, (fun_mk (st := s_number_of) l0 c0 k0).binds (ps := ["text", "longest"]) fun _ _ _ _ _ _ us hl => match us, hl with | [_, _], _ => rfl⟩
  have D_is_word : Df K mg "is_word" s_is_word ["text"] := ⟨f1, _, fun_mk (st := s_is_word) l1 c1 k1, PySem.W.mg_of X G a1, (fun_mk (st := s_is_word) l1 c1 k1).binds (ps := ["text"]) fun _ _ _ _ _ _ us hl => match us, hl with | [_], _ => rfl⟩
  have D_is_name : Df K mg "is_name" s_is_name ["text"] := ⟨f2, _, fun_mk (st := s_is_name) l2 c2 k2, PySem.W.mg_of X G a2, (fun_mk (st := s_is_name) l2 c2 k2).binds (ps := ["text"]) fun _ _ _ _ _ _ us hl => match us, hl with | [_], _ => rfl⟩
  have D_is_address : Df K mg "is_address" s_is_address ["text"] := ⟨f3, _, fun_mk (st := s_is_address) l3 c3 k3, PySem.W.mg_of X G a3, (fun_mk (st := s_is_address) l3 c3 k3).binds (ps := ["text"]) fun _ _ _ _ _ _ us hl => match us, hl with | [_], _ => rfl⟩
  have D_is_board : Df K mg "is_board" s_is_board ["text"] := ⟨f4, _, fun_mk (st := s_is_board) l4 c4 k4, PySem.W.mg_of X G a4, (fun_mk (st := s_is_board) l4 c4 k4).binds (ps := ["text"]) fun _ _ _ _ _ _ us hl => match us, hl with | [_], _ => rfl⟩
  have D_is_id : Df K mg "is_id" s_is_id ["id"] := ⟨f5, _, fun_mk (st := s_is_id) l5 c5 k5, PySem.W.mg_of X G a5, (fun_mk (st := s_is_id) l5 c5 k5).binds (ps := ["id"]) fun _ _ _ _ _ _ us hl => match us, hl with | [_], _ => rfl⟩
  have D_id_text : Df K mg "id_text" s_id_text ["id"] := ⟨f6, _, fun_mk (st := s_id_text) l6 c6 k6, PySem.W.mg_of X G a6, (fun_mk (st := s_id_text) l6 c6 k6).binds (ps := ["id"]) fun _ _ _ _ _ _ us hl => match us, hl with | [_], _ => rfl⟩
  have D_id_of : Df K mg "id_of" s_id_of ["text"] := ⟨f7, _, fun_mk (st := s_id_of) l7 c7 k7, PySem.W.mg_of X G a7, (fun_mk (st := s_id_of) l7 c7 k7).binds (ps := ["text"]) fun _ _ _ _ _ _ us hl => match us, hl with | [_], _ => rfl⟩
  have D_split_address : Df K mg "split_address" s_split_address ["address"] := ⟨f8, _, fun_mk (st := s_split_address) l8 c8 k8, PySem.W.mg_of X G a8, (fun_mk (st := s_split_address) l8 c8 k8).binds (ps := ["address"]) fun _ _ _ _ _ _ us hl => match us, hl with | [_], _ => rfl⟩
  have D__law_mix : Df K mg "_law_mix" s__law_mix ["seed", "turn"] := ⟨f9, _, fun_mk (st := s__law_mix) l9 c9 k9, PySem.W.mg_of X G a9, (fun_mk (st := s__law_mix) l9 c9 k9).binds (ps := ["seed", "turn"]) fun _ _ _ _ _ _ us hl => match us, hl with | [_, _], _ => rfl⟩
  have D__law_source : Df K mg "_law_source" s__law_source ["script"] := ⟨f10, _, fun_mk (st := s__law_source) l10 c10 k10, PySem.W.mg_of X G a10, (fun_mk (st := s__law_source) l10 c10 k10).binds (ps := ["script"]) fun _ _ _ _ _ _ us hl => match us, hl with | [_], _ => rfl⟩
  have D__law_draw : Df K mg "_law_draw" s__law_draw ["source", "many"] := ⟨f11, _, fun_mk (st := s__law_draw) l11 c11 k11, PySem.W.mg_of X G a11, (fun_mk (st := s__law_draw) l11 c11 k11).binds (ps := ["source", "many"]) fun _ _ _ _ _ _ us hl => match us, hl with | [_, _], _ => rfl⟩
  have D__law_once_in : Df K mg "_law_once_in" s__law_once_in ["source", "many"] := ⟨f12, _, fun_mk (st := s__law_once_in) l12 c12 k12, PySem.W.mg_of X G a12, (fun_mk (st := s__law_once_in) l12 c12 k12).binds (ps := ["source", "many"]) fun _ _ _ _ _ _ us hl => match us, hl with | [_, _], _ => rfl⟩
  have D__law_new_name : Df K mg "_law_new_name" s__law_new_name ["source", "used"] := ⟨f13, _, fun_mk (st := s__law_new_name) l13 c13 k13, PySem.W.mg_of X G a13, (fun_mk (st := s__law_new_name) l13 c13 k13).binds (ps := ["source", "used"]) fun _ _ _ _ _ _ us hl => match us, hl with | [_, _], _ => rfl⟩
  have D__law_names : Df K mg "_law_names" s__law_names ["source", "many"] := ⟨f14, _, fun_mk (st := s__law_names) l14 c14 k14, PySem.W.mg_of X G a14, (fun_mk (st := s__law_names) l14 c14 k14).binds (ps := ["source", "many"]) fun _ _ _ _ _ _ us hl => match us, hl with | [_, _], _ => rfl⟩
  have D__law_is_int : Df K mg "_law_is_int" s__law_is_int ["value"] := ⟨f15, _, fun_mk (st := s__law_is_int) l15 c15 k15, PySem.W.mg_of X G a15, (fun_mk (st := s__law_is_int) l15 c15 k15).binds (ps := ["value"]) fun _ _ _ _ _ _ us hl => match us, hl with | [_], _ => rfl⟩
  have D__law_same : Df K mg "_law_same" s__law_same ["actual", "due"] := ⟨f16, _, fun_mk (st := s__law_same) l16 c16 k16, PySem.W.mg_of X G a16, (fun_mk (st := s__law_same) l16 c16 k16).binds (ps := ["actual", "due"]) fun _ _ _ _ _ _ us hl => match us, hl with | [_, _], _ => rfl⟩
  have D__law_plain : Df K mg "_law_plain" s__law_plain ["text"] := ⟨f17, _, fun_mk (st := s__law_plain) l17 c17 k17, PySem.W.mg_of X G a17, (fun_mk (st := s__law_plain) l17 c17 k17).binds (ps := ["text"]) fun _ _ _ _ _ _ us hl => match us, hl with | [_], _ => rfl⟩
  have D__law_is_name : Df K mg "_law_is_name" s__law_is_name ["text"] := ⟨f18, _, fun_mk (st := s__law_is_name) l18 c18 k18, PySem.W.mg_of X G a18, (fun_mk (st := s__law_is_name) l18 c18 k18).binds (ps := ["text"]) fun _ _ _ _ _ _ us hl => match us, hl with | [_], _ => rfl⟩
  have D__law_is_address : Df K mg "_law_is_address" s__law_is_address ["text"] := ⟨f19, _, fun_mk (st := s__law_is_address) l19 c19 k19, PySem.W.mg_of X G a19, (fun_mk (st := s__law_is_address) l19 c19 k19).binds (ps := ["text"]) fun _ _ _ _ _ _ us hl => match us, hl with | [_], _ => rfl⟩
  have D__law_is_board : Df K mg "_law_is_board" s__law_is_board ["text"] := ⟨f20, _, fun_mk (st := s__law_is_board) l20 c20 k20, PySem.W.mg_of X G a20, (fun_mk (st := s__law_is_board) l20 c20 k20).binds (ps := ["text"]) fun _ _ _ _ _ _ us hl => match us, hl with | [_], _ => rfl⟩
  have D__law_ident : Df K mg "_law_ident" s__law_ident ["text"] := ⟨f21, _, fun_mk (st := s__law_ident) l21 c21 k21, PySem.W.mg_of X G a21, (fun_mk (st := s__law_ident) l21 c21 k21).binds (ps := ["text"]) fun _ _ _ _ _ _ us hl => match us, hl with | [_], _ => rfl⟩
  have D__law_bent : Df K mg "_law_bent" s__law_bent ["source", "text"] := ⟨f22, _, fun_mk (st := s__law_bent) l22 c22 k22, PySem.W.mg_of X G a22, (fun_mk (st := s__law_bent) l22 c22 k22).binds (ps := ["source", "text"]) fun _ _ _ _ _ _ us hl => match us, hl with | [_, _], _ => rfl⟩
  have D__law_strings : Df K mg "_law_strings" s__law_strings ["source"] := ⟨f23, _, fun_mk (st := s__law_strings) l23 c23 k23, PySem.W.mg_of X G a23, (fun_mk (st := s__law_strings) l23 c23 k23).binds (ps := ["source"]) fun _ _ _ _ _ _ us hl => match us, hl with | [_], _ => rfl⟩
  have C__law_mix := ok__law_mix (P := l.prog) (w := w) (base := base) D__law_mix T 
  have C__law_draw := ok__law_draw (P := l.prog) (w := w) (base := base) D__law_draw T C__law_mix
  have C__law_bent := ok__law_bent (P := l.prog) (w := w) (base := base) D__law_bent T C__law_draw
  have C__law_plain := ok__law_plain (P := l.prog) (w := w) (base := base) D__law_plain T 
  have C__law_is_name := ok__law_is_name (P := l.prog) (w := w) (base := base) D__law_is_name T C__law_plain
  have C__law_ident := ok__law_ident (P := l.prog) (w := w) (base := base) D__law_ident T C__law_is_name
  have C__law_is_address := ok__law_is_address (P := l.prog) (w := w) (base := base) D__law_is_address T C__law_is_name
  have C__law_is_board := ok__law_is_board (P := l.prog) (w := w) (base := base) D__law_is_board T C__law_plain
  have C__law_new_name := ok__law_new_name (P := l.prog) (w := w) (base := base) D__law_new_name T C__law_draw
  have C__law_names := ok__law_names (P := l.prog) (w := w) (base := base) D__law_names T C__law_new_name
  have C__law_is_int := ok__law_is_int (P := l.prog) (w := w) (base := base) D__law_is_int T 
  have C__law_same := ok__law_same (P := l.prog) (w := w) (base := base) D__law_same T C__law_is_int 2
  have C__law_source := ok__law_source (P := l.prog) (w := w) (base := base) D__law_source T C__law_mix
  have C__law_once_in := ok__law_once_in (P := l.prog) (w := w) (base := base) D__law_once_in T C__law_draw
  have C__law_strings := ok__law_strings (P := l.prog) (w := w) (base := base) D__law_strings T C__law_bent C__law_draw C__law_names C__law_once_in
  have C_is_word := ok_is_word (P := l.prog) (w := w) (base := base) D_is_word T 
  have C_is_name := ok_is_name (P := l.prog) (w := w) (base := base) D_is_name T C_is_word
  have C_is_id := ok_is_id (P := l.prog) (w := w) (base := base) D_is_id T C_is_name
  have C_number_of := ok_number_of (P := l.prog) (w := w) (base := base) D_number_of T 
  have C_id_of := ok_id_of (P := l.prog) (w := w) (base := base) D_id_of T C_is_id C_number_of
  have C_id_text := ok_id_text (P := l.prog) (w := w) (base := base) D_id_text T 
  have C_is_address := ok_is_address (P := l.prog) (w := w) (base := base) D_is_address T C_is_name
  have C_is_board := ok_is_board (P := l.prog) (w := w) (base := base) D_is_board T C_is_word
  have C_split_address := ok_split_address (P := l.prog) (w := w) (base := base) D_split_address T 
  exact ok_law (fun_mk (st := s_law) l24 c24 k24) T C__law_bent C__law_draw C__law_ident C__law_is_address C__law_is_board C__law_is_name C__law_names C__law_same C__law_source C__law_strings C_id_of C_id_text C_is_address C_is_board C_is_name C_split_address
theorem walk {l : PySem.W.OpenLaw} {q : Program} {loose : List Str} {XP : (Str → Option Value) → Heap → Prop} {YP : World → Heap → Prop} {d : DefRec} {K : Params → PySem.W.Frag} (hn : l.most = some 63) (hdf : d.params.defaults = [])
    (hY : ∀ (w : World) (h : Heap), YP w h → (K w.params).In h)
    (F : ∀ (w : World) (mg : Str → Option Value) (fa : Addr) (h : Heap), (K w.params).In h → h.Ns mainGlobals mg → mg d.name = some (.ref fa) →
      ∃ fd : FuncData, (∀ (s : Shared) (u : Value), BindsTo s fd ⟨[u], []⟩ [("script", u)]) ∧ ∀ base : Heap, (K w.params).In base → base.Ns mainGlobals mg → FnOk l.prog w (K w.params) mg base CX0 6 fa fd ["script"] (sp_law (K w.params))) :
    PySem.W.WalkO q loose XP YP l.row.toRowW d [] (fun f vs => PySem.call f vs) :=
  L2.walk_of (n := 63) (k := 6) (x := "script") (CX := fun _ => CX0) (sp := fun w => sp_law (K w.params)) hn (by decide) hdf ⟨rfl, by decide, by decide⟩ hY F (fun _ _ a ns hl _ hS => ⟨a, ns, rfl, hS, hl, fun _ => rfl⟩) fun _ _ _ _ _ z => z
end Z
open PySem PySem.W PyProof.Rows in
set_option maxRecDepth 100000 in
set_option maxHeartbeats 0 in
theorem PySem.Challenge.cw_criermoot_k01_names_holds : PySem.Challenge.rw_criermoot_k01_names.Holds := by
  w_on; o_law; k_head; (case hw => w_witness2)
  k_fill
  refine Z.walk (l := PySem.Challenge.rw_criermoot_k01_names) rfl rfl (fun w h Y => PySem.W.kIn_of Y) ?F
  case F =>
    intro w mg fa h KX G hmg
    refine' Z.all_mk KX G hmg ?a0 ?l0 ?c0 ?k0 ?a1 ?l1 ?c1 ?k1 ?a2 ?l2 ?c2 ?k2 ?a3 ?l3 ?c3 ?k3 ?a4 ?l4 ?c4 ?k4 ?a5 ?l5 ?c5 ?k5 ?a6 ?l6 ?c6 ?k6 ?a7 ?l7 ?c7 ?k7 ?a8 ?l8 ?c8 ?k8 ?a9 ?l9 ?c9 ?k9 ?a10 ?l10 ?c10 ?k10 ?a11 ?l11 ?c11 ?k11 ?a12 ?l12 ?c12 ?k12 ?a13 ?l13 ?c13 ?k13 ?a14 ?l14 ?c14 ?k14 ?a15 ?l15 ?c15 ?k15 ?a16 ?l16 ?c16 ?k16 ?a17 ?l17 ?c17 ?k17 ?a18 ?l18 ?c18 ?k18 ?a19 ?l19 ?c19 ?k19 ?a20 ?l20 ?c20 ?k20 ?a21 ?l21 ?c21 ?k21 ?a22 ?l22 ?c22 ?k22 ?a23 ?l23 ?c23 ?k23 ?a24 ?l24 ?c24 ?k24 ?z_abs ?z_all ?z_bool ?z_int ?z_isinstance ?z_len ?z_list ?z_range ?z_str ?z_tuple ?v_LETTERS ?v_DIGITS ?v_LONGEST_NAME ?v_LONGEST_BOARD ?v_LAST_NUMBER
    (case a0 => k_is)
    (case l0 => k_is)
    (case c0 => k_is)
    (case k0 => k_is)
    (case a1 => k_is)
    (case l1 => k_is)
    (case c1 => k_is)
    (case k1 => k_is)
    (case a2 => k_is)
    (case l2 => k_is)
    (case c2 => k_is)
    (case k2 => k_is)
    (case a3 => k_is)
    (case l3 => k_is)
    (case c3 => k_is)
    (case k3 => k_is)
    (case a4 => k_is)
    (case l4 => k_is)
    (case c4 => k_is)
    (case k4 => k_is)
    (case a5 => k_is)
    (case l5 => k_is)
    (case c5 => k_is)
    (case k5 => k_is)
    (case a6 => k_is)
    (case l6 => k_is)
    (case c6 => k_is)
    (case k6 => k_is)
    (case a7 => k_is)
    (case l7 => k_is)
    (case c7 => k_is)
    (case k7 => k_is)
    (case a8 => k_is)
    (case l8 => k_is)
    (case c8 => k_is)
    (case k8 => k_is)
    (case a9 => k_is)
    (case l9 => k_is)
    (case c9 => k_is)
    (case k9 => k_is)
    (case a10 => k_is)
    (case l10 => k_is)
    (case c10 => k_is)
    (case k10 => k_is)
    (case a11 => k_is)
    (case l11 => k_is)
    (case c11 => k_is)
    (case k11 => k_is)
    (case a12 => k_is)
    (case l12 => k_is)
    (case c12 => k_is)
    (case k12 => k_is)
    (case a13 => k_is)
    (case l13 => k_is)
    (case c13 => k_is)
    (case k13 => k_is)
    (case a14 => k_is)
    (case l14 => k_is)
    (case c14 => k_is)
    (case k14 => k_is)
    (case a15 => k_is)
    (case l15 => k_is)
    (case c15 => k_is)
    (case k15 => k_is)
    (case a16 => k_is)
    (case l16 => k_is)
    (case c16 => k_is)
    (case k16 => k_is)
    (case a17 => k_is)
    (case l17 => k_is)
    (case c17 => k_is)
    (case k17 => k_is)
    (case a18 => k_is)
    (case l18 => k_is)
    (case c18 => k_is)
    (case k18 => k_is)
    (case a19 => k_is)
    (case l19 => k_is)
    (case c19 => k_is)
    (case k19 => k_is)
    (case a20 => k_is)
    (case l20 => k_is)
    (case c20 => k_is)
    (case k20 => k_is)
    (case a21 => k_is)
    (case l21 => k_is)
    (case c21 => k_is)
    (case k21 => k_is)
    (case a22 => k_is)
    (case l22 => k_is)
    (case c22 => k_is)
    (case k22 => k_is)
    (case a23 => k_is)
    (case l23 => k_is)
    (case c23 => k_is)
    (case k23 => k_is)
    (case a24 => k_is)
    (case l24 => k_is)
    (case c24 => k_is)
    (case k24 => k_is)
    (case z_abs => k_is)
    (case z_all => k_is)
    (case z_bool => k_is)
    (case z_int => k_is)
    (case z_isinstance => k_is)
    (case z_len => k_is)
    (case z_list => k_is)
    (case z_range => k_is)
    (case z_str => k_is)
    (case z_tuple => k_is)
    (case v_LETTERS => k_is)
    (case v_DIGITS => k_is)
    (case v_LONGEST_NAME => k_is)
    (case v_LONGEST_BOARD => k_is)
    (case v_LAST_NUMBER => k_is)
