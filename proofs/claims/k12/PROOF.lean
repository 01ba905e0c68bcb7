import PyProof.Rows.All
import Wide.All
import OpenK.AllK
import Wide.FinOn
import HandS.Base
import HandS.Call
import HandS.List
import HandS.Comp
import HandS.Ends
import HandS.Dict
import HandS.Iter
import HandS.Text
import HandS.Words
import HandS.WordsList
import HandS.Conv
import HandS.Codes
import HandS.IsInst
import HandS.Replace
import HandS.StrMore
import HandS.TupAny
import HandS.WideBits
import HandS.ReplaceLit
import PySem.Challenge.RW_criermoot_k12_standings
set_option Elab.async false
set_option linter.all false
set_option maxRecDepth 100000
namespace Z
open PySem L2

/-! ### heaps -/
/-- all that was tracked is as it was, but for what stands at s -/
def Ext (s : Addr) (H H' : Hp) : Prop := ∀ b o, b ≠ s → H b = some o → H' b = some o
theorem Ext.refl (s : Addr) (H : Hp) : Ext s H H := fun _ _ _ h => h
theorem Ext.trans {s : Addr} {H H1 H2 : Hp} (a : Ext s H H1) (b : Ext s H1 H2) : Ext s H H2 := fun c o n h => b c o n (a c o n h)
theorem Ext.of {s : Addr} {H H' : Hp} (a : Same H H') : Ext s H H' := fun c o _ h => a c o h
theorem Ext.new {s p : Addr} {H : Hp} {o : HO} (n : H p = none) : Ext s H (upd H p o) := fun b u _ h => by
  rw [upd_ne (ne_of_none h n)]; exact h
theorem Ext.put {s : Addr} {H : Hp} {o : HO} : Ext s H (upd H s o) := fun b u n h => by
  rw [upd_ne n]; exact h
theorem same_new {p : Addr} {H : Hp} {o : HO} (n : H p = none) : Same H (upd H p o) := fun b u h => by
  rw [upd_ne (ne_of_none h n)]; exact h
theorem Ext.seqT {K : PySem.W.Frag} {s a : Addr} {H H' : Hp} {xs ys : List V} (x : Ext s H H') (hs : H s = some (.lst ys)) (h : SqT K H a xs) : SqT K H' a xs := by
  rcases h with (h | ⟨o, h⟩) | h
  · exact .inl (.inl (x _ _ (fun e => by rw [e, hs] at h; cases h) h))
  · exact .inl (.inr ⟨o, x _ _ (fun e => by rw [e, hs] at h; cases h) h⟩)
  · exact .inr h
theorem Ext.seqL {K : PySem.W.Frag} {s a : Addr} {H H' : Hp} {xs : List V} (x : Ext s H H') (n : a ≠ s) (h : SqL K H a xs) : SqL K H' a xs := by
  rcases h with (h | ⟨o, h⟩) | h
  · exact .inl (.inl (x _ _ n h))
  · exact .inl (.inr ⟨o, x _ _ n h⟩)
  · exact .inr h

theorem and_nn {x : Int} (hx : 0 ≤ x) (k : Nat) : 0 ≤ Builtin.bitAnd x (1 * 2 ^ k - 1) := by
  rw [Int.one_mul, Bits.bitAnd_mask k hx]
  exact Int.emod_nonneg _ (Int.ne_of_gt (Int.pow_pos (by decide)))
/-! ### the source of draws -/
def Src (H : Hp) (s a : Addr) (c : Nat) : Prop := ∃ (ns : List Int) (i b e t : Int),
  H s = some (.lst [.ref a, .int i, .int b, .int e, .int t]) ∧ H a = some (.lst (ns.map V.int)) ∧ a ≠ s ∧ ns.length ≤ 63 ∧ 0 ≤ i ∧ i ≤ 63 ∧ 0 ≤ b ∧ 0 ≤ e ∧ e < 2147483647 ∧ 0 ≤ t ∧ t + c < 4000000000000000000
theorem Src.lst {H : Hp} {s a : Addr} {c : Nat} (h : Src H s a c) : ∃ xs, H s = some (.lst xs) := by
  obtain ⟨_, _, _, _, _, h, _⟩ := h; exact ⟨_, h⟩
theorem Src.mono {H : Hp} {s a : Addr} {c d : Nat} (h : Src H s a c) (l : d ≤ c) : Src H s a d := by
  obtain ⟨ns, i, b, e, t, h1, h2, h3, h4, h5, h6, h7, h8, h9, h10, h11⟩ := h
  exact ⟨ns, i, b, e, t, h1, h2, h3, h4, h5, h6, h7, h8, h9, h10, by omega⟩
theorem Src.ext {H H' : Hp} {s a : Addr} {c : Nat} (h : Src H s a c) (x : Same H H') : Src H' s a c := by
  obtain ⟨ns, i, b, e, t, h1, h2, h3⟩ := h
  exact ⟨ns, i, b, e, t, x _ _ h1, x _ _ h2, h3⟩
theorem Src.new {H : Hp} {s a p : Addr} {o : HO} {c : Nat} (h : Src H s a c) (n : H p = none) : Src (upd H p o) s a c := h.ext (same_new n)
theorem Src.ne {H : Hp} {s a p : Addr} {c : Nat} (h : Src H s a c) (n : H p = none) : p ≠ s := by
  obtain ⟨xs, e⟩ := h.lst
  exact (ne_of_none e n).symm
theorem Src.nea {H : Hp} {s a p : Addr} {c : Nat} (h : Src H s a c) (n : H p = none) : p ≠ a := by
  obtain ⟨ns, i, b, e, t, h1, h2, h3⟩ := h
  exact (ne_of_none h2 n).symm
theorem Src.put {H : Hp} {s a p : Addr} {o : HO} {c : Nat} (h : Src H s a c) (n : p ≠ s) (m : p ≠ a) : Src (upd H p o) s a c := by
  obtain ⟨ns, i, b, e', t, h1, h2, h3⟩ := h
  exact ⟨ns, i, b, e', t, by rw [upd_ne n.symm]; exact h1, by rw [upd_ne m.symm]; exact h2, h3⟩

/-! ### defs and their callers -/
section
variable (P : Program) (w : World) (K : PySem.W.Frag) (mg : Str → Option Value) (base : Heap)
/-- a def as callers use it -/
def Cal (x : Str) (ps : List Str) (k : Nat) (sp : Sp) : Prop := ∃ (f : Addr) (fd : FuncData), FnOk P w K mg base CX0 k f fd ps sp ∧ mg x = some (.ref f) ∧ PySem.W.keepIn K (.ref f) = true ∧ Binds K fd ps []
/-- a def as the top has left it -/
def Df (x : Str) (st : Stmt) (ps : List Str) : Prop := ∃ (f : Addr) (fd : FuncData), Fun K x x st f fd ∧ mg x = some (.ref f) ∧ Binds K fd ps []
end
theorem Cal.mono {P : Program} {w : World} {K : PySem.W.Frag} {mg : Str → Option Value} {base : Heap} {x : Str} {ps : List Str} {j k : Nat} {sp : Sp} (C : Cal P w K mg base x ps j sp) (h : j ≤ k) : Cal P w K mg base x ps k sp := by
  obtain ⟨f, fd, G, g, kp, b⟩ := C
  exact ⟨f, fd, G.mono h, g, kp, b⟩

/-! ### the promises of the drawing defs -/
def sp__law_mix : Sp := fun vs H Q _ => ∃ (x y : Int), vs = [.int x, .int y] ∧ 0 ≤ x ∧ x < 9000000000000000000 ∧ 0 ≤ y ∧ y < 9000000000000000000 ∧ ∀ v : Int, 0 ≤ v → v < 2147483647 → Q (.int v) H
def sp__law_source (K : PySem.W.Frag) : Sp := fun vs H Q _ => ∃ (a : Addr) (ns : List Int), vs = [.ref a] ∧ SqL K H a (ns.map V.int) ∧ ns.length ≤ 63 ∧ ∀ (s b : Addr) (H' : Hp), H s = none → Same H H' → Src H' s b 3000000000000000000 → Q (.ref s) H'
def sp__law_draw : Sp := fun vs H Q _ => ∃ (s a : Addr) (m : Int) (c : Nat), vs = [.ref s, .int m] ∧ 0 < m ∧ m < 1073741824 ∧ Src H s a (c + 1) ∧ ∀ (v : Int) (H' : Hp), 0 ≤ v → v < m → Ext s H H' → Src H' s a c → Q (.int v) H'

/-! ### data -/
inductive D where
  | non | bl (b : Bool) | int (i : Int) | str (x : Str) | tup (xs : List D)
mutual
def DV (K : PySem.W.Frag) (H : Hp) : D → V → Prop
  | .non, v => v = .non
  | .bl b, v => v = .bl b
  | .int i, v => v = .int i
  | .str x, v => v = .str x
  | .tup ds, v => ∃ a vs, v = .ref a ∧ SqT K H a vs ∧ DVs K H ds vs
def DVs (K : PySem.W.Frag) (H : Hp) : List D → List V → Prop
  | [], vs => vs = []
  | d :: ds, vs => ∃ v r, vs = v :: r ∧ DV K H d v ∧ DVs K H ds r
end
mutual
theorem DV.ext {K : PySem.W.Frag} {H H' : Hp} (x : ∀ a xs, SqT K H a xs → SqT K H' a xs) : ∀ {d : D} {v : V}, DV K H d v → DV K H' d v
  | .non, _, h => by unfold DV at *; exact h
  | .bl _, _, h => by unfold DV at *; exact h
  | .int _, _, h => by unfold DV at *; exact h
  | .str _, _, h => by unfold DV at *; exact h
  | .tup ds, v, h => by
    unfold DV at *
    obtain ⟨a, vs, e, q, r⟩ := h
    exact ⟨a, vs, e, x _ _ q, DVs.ext x r⟩
theorem DVs.ext {K : PySem.W.Frag} {H H' : Hp} (x : ∀ a xs, SqT K H a xs → SqT K H' a xs) : ∀ {ds : List D} {vs : List V}, DVs K H ds vs → DVs K H' ds vs
  | [], _, h => by unfold DVs at *; exact h
  | d :: ds, vs, h => by
    unfold DVs at *
    obtain ⟨v, r, e, q, t⟩ := h
    exact ⟨v, r, e, DV.ext x q, DVs.ext x t⟩
end
theorem DVs.len {K : PySem.W.Frag} {H : Hp} : ∀ {ds : List D} {vs : List V}, DVs K H ds vs → vs.length = ds.length
  | [], _, h => by unfold DVs at h; subst h; rfl
  | d :: ds, vs, h => by
    unfold DVs at h
    obtain ⟨v, r, e, q, t⟩ := h
    rw [e, List.length_cons, List.length_cons, DVs.len t]
theorem DVs.get {K : PySem.W.Frag} {H : Hp} : ∀ {ds : List D} {vs : List V} {i : Nat} {d : D}, DVs K H ds vs → ds[i]? = some d → ∃ v, vs[i]? = some v ∧ DV K H d v
  | [], _, i, d, h, e => by simp at e
  | x :: ds, vs, i, d, h, e => by
    unfold DVs at h
    obtain ⟨v, r, e1, q, t⟩ := h
    subst e1
    cases i with
    | zero =>
      have : x = d := by simpa using e
      subst this
      exact ⟨v, rfl, q⟩
    | succ i => exact DVs.get (i := i) t (by simpa using e)
theorem DVs.strs {K : PySem.W.Frag} {H : Hp} : ∀ (xs : List Str), DVs K H (xs.map D.str) (xs.map V.str)
  | [] => by unfold DVs; rfl
  | x :: xs => by
    unfold DVs
    exact ⟨_, _, rfl, by unfold DV; rfl, DVs.strs xs⟩
theorem DVs.ints {K : PySem.W.Frag} {H : Hp} : ∀ (xs : List Int), DVs K H (xs.map D.int) (xs.map V.int)
  | [] => by unfold DVs; rfl
  | x :: xs => by
    unfold DVs
    exact ⟨_, _, rfl, by unfold DV; rfl, DVs.ints xs⟩
/-- tuples lie within fewer than n others -/
def DL : Nat → D → Prop
  | 0, _ => False
  | n + 1, .tup xs => xs.length ≤ 1000000 ∧ ∀ x ∈ xs, DL n x
  | _ + 1, _ => True
theorem TyX.ofT {K : PySem.W.Frag} {H : Hp} {a : Addr} {xs : List V} (h : SqT K H a xs) : TyX K H (.ref a) (.type "tuple") := by
  rcases h with (h | ⟨o, h⟩) | ⟨o, _, _, e, c, _⟩
  · exact .base (.tup h)
  · exact .fTuple h
  · exact .kTuple e c
def sp__law_is_int (K : PySem.W.Frag) : Sp := fun vs H Q _ => ∃ i : Int, vs = [.int i] ∧ Q (.bl true) H
/-- of two values with the same data it tells True -/
def sp__law_same (K : PySem.W.Frag) (n : Nat) : Sp := fun vs H Q _ => ∃ (d : D) (v u : V), vs = [v, u] ∧ DV K H d v ∧ DV K H d u ∧ DL n d ∧ Q (.bl true) H

/-! ### texts by their signs -/
open SX (S S_cat S_len S_inj)
theorem S_lst (l : List Nat) : (S l).cps.toList = l := rfl
theorem S_of (x : Str) : x = S x.cps.toList := (SX.S_tl x).symm
theorem S_app (a b : List Nat) : S a ++ S b = S (a ++ b) := S_cat a b
/-- a for over the signs of a text -/
theorem for_str {l : List Nat} {g : TG} {tb : TS} {D : Ends} {σ : St} {H : Hp} (Pv : Nat → St → Hp → Prop) (h0 : Pv 0 σ H)
    (hs : ∀ i c σ H, l[i]? = some c → Pv i σ H → g (.str (S [c])) σ H fun σ2 H2 => tb { D with nx := Pv (i + 1), ct := Pv (i + 1), bk := D.nx } σ2 H2) (hd : ∀ σ H, Pv l.length σ H → D.nx σ H) :
    ∃ W : Nat → Nat → St → Hp → Prop, (∃ m, W 0 m σ H) ∧ ∀ i m σ H, W i m σ H →
      ((Its (S l)).stop i H ∧ D.nx σ H) ∨ ((Its (S l)).go i H ∧ ∃ N : St → Hp → Prop, (∀ σ' H', N σ' H' → ∃ m', m' < m ∧ W (i + 1) m' σ' H') ∧ ∀ x H', (Its (S l)).yld i H x H' → g x σ H' fun σ2 H2 => tb { D with nx := N, ct := N, bk := D.nx } σ2 H2) := by
  refine ⟨fun i m σ H => m = l.length - i ∧ i ≤ l.length ∧ Pv i σ H, ⟨l.length, by simp, Nat.zero_le _, h0⟩, ?_⟩
  rintro i m σ H ⟨rfl, hi, p⟩
  by_cases hlt : i < l.length
  · refine .inr ⟨by show i < l.toArray.size; simpa using hlt, Pv (i + 1), fun σ' H' p' => ⟨l.length - (i + 1), by omega, rfl, hlt, p'⟩, fun x H' y => ?_⟩
    obtain ⟨e, c, hc, y⟩ := y
    subst e y
    exact hs i c σ _ (by simpa using hc) p
  · have e : i = l.length := by omega
    subst e
    exact .inl ⟨by show l.toArray.size ≤ l.length; simp, hd σ H p⟩
/-- a comprehension over the signs of a text -/
theorem lc_str {l : List Nat} {g : TG} {tt : TT} {te : TE} {vs : List Nat} {σ : St} {H1 : Hp} {D : Addr} {Qd : Hp → Prop} (Pv : Nat → Hp → Prop) (h0 : Pv 0 (upd H1 D (.lst [])))
    (hs : ∀ i c H, l[i]? = some c → Pv i H → g (.str (S [c])) (wipe σ vs) H fun σ2 H2 => wipe σ2 vs = wipe σ vs ∧ tt σ2 H2 fun b H3 =>
      if b = true then te σ2 H3 fun y H4 => ∃ acc, H4 D = some (.lst acc) ∧ acc.length < sizeLine ∧ Pv (i + 1) (upd H4 D (.lst (acc ++ [y]))) else Pv (i + 1) H3) (hd : ∀ H, Pv l.length H → Qd H) :
    ∃ W : Nat → Nat → Hp → Prop, (∃ m, W 0 m (upd H1 D (.lst []))) ∧ ∀ i m H, W i m H →
      ((Its (S l)).stop i H ∧ Qd H) ∨ ((Its (S l)).go i H ∧ ∃ Nx : Hp → Prop, (∀ H', Nx H' → ∃ m', m' < m ∧ W (i + 1) m' H') ∧ ∀ x H', (Its (S l)).yld i H x H' → g x (wipe σ vs) H' fun σ2 H2 => wipe σ2 vs = wipe σ vs ∧ tt σ2 H2 fun b H3 =>
        if b = true then te σ2 H3 fun y H4 => ∃ acc, H4 D = some (.lst acc) ∧ acc.length < sizeLine ∧ Nx (upd H4 D (.lst (acc ++ [y]))) else Nx H3) := by
  refine ⟨fun i m H => m = l.length - i ∧ i ≤ l.length ∧ Pv i H, ⟨l.length, by simp, Nat.zero_le _, h0⟩, ?_⟩
  rintro i m H ⟨rfl, hi, p⟩
  by_cases hlt : i < l.length
  · refine .inr ⟨by show i < l.toArray.size; simpa using hlt, Pv (i + 1), fun H' p' => ⟨l.length - (i + 1), by omega, rfl, hlt, p'⟩, fun x H' y => ?_⟩
    obtain ⟨e, c, hc, y⟩ := y
    subst e y
    exact hs i c _ (by simpa using hc) p
  · have e : i = l.length := by omega
    subst e
    exact .inl ⟨by show l.toArray.size ≤ l.length; simp, hd H p⟩
/-- signs of rows -/
def Asc (l : List Nat) : Prop := ∀ x ∈ l, 32 ≤ x ∧ x ≤ 126
theorem Asc.nil : Asc [] := fun _ h => nomatch h
theorem Asc.app {a b : List Nat} (x : Asc a) (y : Asc b) : Asc (a ++ b) := fun c h => (List.mem_append.mp h).elim (x c) (y c)
theorem Asc.by_ {l : List Nat} (h : l.all (fun x => decide (32 ≤ x) && decide (x ≤ 126)) = true) : Asc l := fun x m => by
  have := List.all_eq_true.mp h x m
  simp at this
  exact this
theorem Asc.all128 {l : List Nat} (h : Asc l) : l.all (· < 128) = true := List.all_eq_true.mpr fun x m => decide_eq_true (by have := h x m; omega)
theorem joinNil : ∀ ls : List (List Nat), TL.joinL [] ls = ls.flatten
  | [] => rfl
  | [x] => by simp [TL.joinL]
  | x :: y :: r => by
    have := joinNil (y :: r)
    simp only [TL.joinL] at *
    rw [List.flatten_cons, ← this]
    simp [TL.joinL]
theorem join_nil (ls : List (List Nat)) : Txt.join (S []) (ls.map S) = S ls.flatten := by
  rw [SX.join_S, joinNil]

/-! ### texts, further -/
abbrev tl (x : Str) : List Nat := x.cps.toList
theorem tl_S (l : List Nat) : tl (S l) = l := rfl
theorem S_tl (x : Str) : S (tl x) = x := rfl
theorem tl_app (x y : Str) : tl (x ++ y) = tl x ++ tl y := TL.tl_append x y
theorem tl_len (x : Str) : x.length = (tl x).length := by show x.cps.size = x.cps.toList.length; simp
theorem tl_ext {x y : Str} (h : tl x = tl y) : x = y := TL.ext_tl h
theorem at_str {x : Str} {i : Int} (h0 : 0 ≤ i) (h1 : i < (x.length : Int)) : ∃ c, x.cps[i.toNat]? = some c ∧ (tl x)[i.toNat]? = some c ∧ c ∈ tl x := by
  have h : i.toNat < (tl x).length := by rw [← tl_len]; omega
  refine ⟨(tl x)[i.toNat], ?_, List.getElem?_eq_getElem h, List.getElem_mem h⟩
  have := List.getElem?_eq_getElem h
  rw [← this]; simp [tl]
/-- small letters and digits -/
def Low (l : List Nat) : Prop := ∀ x ∈ l, (97 ≤ x ∧ x ≤ 122) ∨ (48 ≤ x ∧ x ≤ 57)
theorem Low.nil : Low [] := fun _ h => nomatch h
theorem Low.app {a b : List Nat} (x : Low a) (y : Low b) : Low (a ++ b) := fun c h => (List.mem_append.mp h).elim (x c) (y c)
theorem Low.asc {a : List Nat} (x : Low a) : Asc a := fun c h => by have := x c h; omega
theorem low_num (n : Nat) : Low (TL.numL n) := fun c h => .inr (by have := TL.numL_digits n c h; omega)
theorem num_len : ∀ n : Nat, (TL.numL n).length ≤ n + 1 := fun n => by
  induction n using Nat.strongRecOn with
  | ind n ih =>
    by_cases h : n < 10
    · rw [TL.numL_lt h]; simp
    · rw [TL.numL_step (by omega), List.length_append]
      have := ih (n / 10) (by omega)
      simp; omega
/-- a name: a letter, then letters and digits -/
def Nm (l : List Nat) : Prop := (∃ c r, l = c :: r ∧ 97 ≤ c ∧ c ≤ 122) ∧ Low l
theorem Nm.app {a b : List Nat} (x : Nm a) (y : Low b) : Nm (a ++ b) := by
  obtain ⟨⟨c, r, e, h⟩, l⟩ := x
  exact ⟨⟨c, r ++ b, by rw [e]; rfl, h⟩, l.app y⟩
theorem flat_strs (xs : List Str) : (xs.map V.str).all flatV = true := List.all_eq_true.mpr fun x h => by
  obtain ⟨y, _, rfl⟩ := List.mem_map.mp h; rfl
theorem inV_strs (x : Str) (xs : List Str) : inV (V.str x) (xs.map V.str) = decide (x ∈ xs) := by
  unfold inV
  induction xs with
  | nil => rfl
  | cons y ys ih =>
    rw [List.map_cons, List.any_cons, ih]
    by_cases e : x = y
    · subst e; simp [eqV]
    · have : ¬ y = x := fun h => e h.symm
      simp [eqV, e, this]
def sp__law_new_name (K : PySem.W.Frag) : Sp := fun vs H Q _ => ∃ (s a u : Addr) (us : List Str) (c : Nat), vs = [.ref s, .ref u] ∧ SqL K H u (us.map V.str) ∧ u ≠ s ∧ us.length ≤ 60 ∧ Src H s a (c + 8) ∧
  ∀ (x : Str) (H' : Hp), Nm (tl x) → (tl x).length ≤ 70 → Ext s H H' → Src H' s a c → Q (.str x) H'
def sp__law_names (K : PySem.W.Frag) : Sp := fun vs H Q _ => ∃ (s a : Addr) (m c : Nat), vs = [.ref s, .int m] ∧ m ≤ 60 ∧ Src H s a (c + 8 * m) ∧
  ∀ (u : Addr) (us : List Str) (H' : Hp), H u = none → H' u = some (.lst (us.map V.str)) → us.length = m → (∀ x ∈ us, Nm (tl x) ∧ (tl x).length ≤ 70) → Ext s H H' → Src H' s a c → Q (.ref u) H'
def sp__law_row : Sp := fun vs H Q _ => ∃ (s a : Addr) (m : Int) (c : Nat), vs = [.ref s, .int m] ∧ 0 ≤ m ∧ m ≤ 1000 ∧ Src H s a (c + m.toNat) ∧
  ∀ (x : Str) (H' : Hp), Asc (tl x) → (tl x).length = m.toNat → Ext s H H' → Src H' s a c → Q (.str x) H'

/-! ### rules that name the written part themselves (for the blocks of comprehensions) -/
section
variable {X : Cx} {K : PySem.W.Frag}
/-- len of a text -/
theorem call_lenS : CallR X (.builtin "len") (fun xs H Q => ∃ x : Str, xs = [.str x] ∧ x.length ≤ sizeLine ∧ Q (.int x.length) H) := by
  intro pins s σ H xs us Q I r h
  obtain ⟨x, e, hl, q⟩ := h
  exact call_len pins s σ H xs us Q I r ⟨.str x, x.length, e, ⟨hl, rfl⟩, q⟩
theorem call_lenQ (h : X.K = K) : CallR X (.builtin "len") (fun xs H Q => ∃ p ys, xs = [.ref p] ∧ (SqL K H p ys ∨ SqT K H p ys) ∧ Q (.int ys.length) H) := by
  subst h; exact call_len_seq
theorem ix_listQ (h : X.K = K) : IxR X (rIxL K) := by subst h; exact ix_list
theorem ix_tupQ (h : X.K = K) : IxR X (rIxT K) := by subst h; exact ix_tup
theorem in_seqQ (h : X.K = K) : OpR X (compareOp .In) (rIn K false) := by subst h; exact op_in_seq
theorem notIn_seqQ (h : X.K = K) : OpR X (compareOp .NotIn) (rIn K true) := by subst h; exact op_notIn_seq
theorem isiQ (h : X.K = K) : CallR X (.builtin "isinstance") (rIsi K) := by subst h; exact call_isi
end

/-- texts of one sign each -/
def Ones (p : Nat → Prop) (xs : List Str) : Prop := ∀ x ∈ xs, ∃ c, tl x = [c] ∧ p c
theorem Ones.tail {p : Nat → Prop} {x : Str} {xs : List Str} (h : Ones p (x :: xs)) : Ones p xs := fun y m => h y (List.mem_cons_of_mem _ m)
theorem ones_len {p : Nat → Prop} : ∀ {xs : List Str}, (∀ x ∈ xs, ∃ c, tl x = [c] ∧ p c) → (xs.map (·.length)).sum = xs.length
  | [], _ => rfl
  | x :: xs, h => by
    obtain ⟨c, e, _⟩ := h x List.mem_cons_self
    have : x.length = 1 := by rw [tl_len, e]; rfl
    rw [List.map_cons, List.sum_cons, ones_len (Ones.tail h), List.length_cons, this]
    omega
/-- their only signs -/
def heads (xs : List Str) : List Nat := xs.map fun x => (tl x).headD 0
theorem tl_join0 (xs : List Str) : tl (Txt.join (S []) xs) = (xs.map tl).flatten := by
  have e : xs = (xs.map tl).map S := by rw [List.map_map]; exact (List.map_id _).symm
  have h := join_nil (xs.map tl)
  rw [← e] at h
  show tl (Txt.join (S []) xs) = _
  rw [h]
theorem ones_join {p : Nat → Prop} {xs : List Str} (h : ∀ x ∈ xs, ∃ c, tl x = [c] ∧ p c) : tl (Txt.join (S []) xs) = heads xs := by
  rw [tl_join0]
  induction xs with
  | nil => rfl
  | cons x xs ih =>
    obtain ⟨c, e, _⟩ := h x List.mem_cons_self
    rw [List.map_cons, List.flatten_cons, ih (Ones.tail h), e]
    show c :: heads xs = (tl x).headD 0 :: heads xs
    rw [e]; rfl
theorem ones_all {p : Nat → Prop} {xs : List Str} (h : ∀ x ∈ xs, ∃ c, tl x = [c] ∧ p c) : ∀ c ∈ heads xs, p c := fun c m => by
  obtain ⟨x, hx, e⟩ := List.mem_map.mp m
  obtain ⟨d, e2, hd⟩ := h x hx
  rw [e2] at e
  have : d = c := e
  rw [← this]; exact hd
theorem str0 : Str.ofString "" = S [] := rfl
theorem ones_room {p : Nat → Prop} {xs : List Str} (h : ∀ x ∈ xs, ∃ c, tl x = [c] ∧ p c) : (xs.map (·.length)).sum + xs.length * (Str.ofString "").length = xs.length := by
  rw [ones_len h]; show xs.length + xs.length * 0 = xs.length; omega
theorem ones_joinE {p : Nat → Prop} {xs : List Str} (h : ∀ x ∈ xs, ∃ c, tl x = [c] ∧ p c) : tl (Txt.join (Str.ofString "") xs) = heads xs := ones_join h
theorem ones_asc {xs : List Str} (h : ∀ x ∈ xs, ∃ c, tl x = [c] ∧ 32 ≤ c ∧ c ≤ 126) : Asc (heads xs) := fun c m => ones_all (p := fun c => 32 ≤ c ∧ c ≤ 126) h c m
theorem heads_len (xs : List Str) : (heads xs).length = xs.length := List.length_map _

theorem alpha_mem {c : Nat} (h : c ∈ tl (Str.ofString "abcdefghijklmnopqrstuvwxyz")) : 97 ≤ c ∧ c ≤ 122 := by
  have : (tl (Str.ofString "abcdefghijklmnopqrstuvwxyz")).all (fun c => decide (97 ≤ c) && decide (c ≤ 122)) = true := by decide +kernel
  have := List.all_eq_true.mp this c h
  simp at this; exact this
theorem low_mem {c : Nat} (h : c ∈ tl (Str.ofString "abcdefghijklmnopqrstuvwxyz" ++ Str.ofString "0123456789")) : (97 ≤ c ∧ c ≤ 122) ∨ (48 ≤ c ∧ c ≤ 57) := by
  rw [tl_app] at h
  have : (tl (Str.ofString "abcdefghijklmnopqrstuvwxyz") ++ tl (Str.ofString "0123456789")).all (fun c => (decide (97 ≤ c) && decide (c ≤ 122)) || (decide (48 ≤ c) && decide (c ≤ 57))) = true := by decide +kernel
  have := List.all_eq_true.mp this c h
  simp at this; exact this

theorem log_small {i : Nat} (h : i ≤ 1000000) : (Int.natAbs (0 + (i : Int))).log2 < 1920 := by
  rw [Int.zero_add, Int.natAbs_natCast]
  by_cases e : i = 0
  · subst e; decide
  · rw [Nat.log2_lt e]
    exact Nat.lt_of_le_of_lt h (Nat.lt_of_lt_of_le (by decide : 1000000 < 2 ^ 20) (Nat.pow_le_pow_right (by decide) (by decide)))

theorem fold_take {α β : Type} {f : β → α → β} {a : β} {l : List α} {i : Nat} {c : α} (h : l[i]? = some c) : (l.take (i + 1)).foldl f a = f ((l.take i).foldl f a) c := by
  rw [List.take_add_one, h, List.foldl_append]
  rfl
theorem fold_all {α β : Type} {f : β → α → β} {a : β} {l : List α} : (l.take l.length).foldl f a = l.foldl f a := by rw [List.take_length]
theorem in_abc {c : Nat} : decide (c ∈ (Str.ofString "abcdefghijklmnopqrstuvwxyz").cps.toList) = (decide (97 ≤ c) && decide (c ≤ 122)) := by
  have e : (Str.ofString "abcdefghijklmnopqrstuvwxyz").cps.toList = List.range' 97 26 := by decide +kernel
  rw [e, Bool.eq_iff_iff, decide_eq_true_iff, List.mem_range'_1]
  simp only [Bool.and_eq_true, decide_eq_true_eq]
  omega
theorem in_ABC {c : Nat} : decide (c ∈ (Str.ofString "ABCDEFGHIJKLMNOPQRSTUVWXYZ").cps.toList) = (decide (65 ≤ c) && decide (c ≤ 90)) := by
  have e : (Str.ofString "ABCDEFGHIJKLMNOPQRSTUVWXYZ").cps.toList = List.range' 65 26 := by decide +kernel
  rw [e, Bool.eq_iff_iff, decide_eq_true_iff, List.mem_range'_1]
  simp only [Bool.and_eq_true, decide_eq_true_eq]
  omega
theorem in_012 {c : Nat} : decide (c ∈ (Str.ofString "0123456789").cps.toList) = (decide (48 ≤ c) && decide (c ≤ 57)) := by
  have e : (Str.ofString "0123456789").cps.toList = List.range' 48 10 := by decide +kernel
  rw [e, Bool.eq_iff_iff, decide_eq_true_iff, List.mem_range'_1]
  simp only [Bool.and_eq_true, decide_eq_true_eq]
  omega
theorem in_abc012 {c : Nat} : decide (c ∈ (Str.ofString "abcdefghijklmnopqrstuvwxyz0123456789").cps.toList) = ((decide (97 ≤ c) && decide (c ≤ 122)) || (decide (48 ≤ c) && decide (c ≤ 57))) := by
  have e : (Str.ofString "abcdefghijklmnopqrstuvwxyz0123456789").cps.toList = List.range' 97 26 ++ List.range' 48 10 := by decide +kernel
  rw [e, Bool.eq_iff_iff, decide_eq_true_iff, List.mem_append, List.mem_range'_1, List.mem_range'_1]
  simp only [Bool.and_eq_true, Bool.or_eq_true, decide_eq_true_eq]
  omega
/-- literal texts -/
theorem tl_mapS (ws : List Str) : (ws.map tl).map S = ws := by rw [List.map_map]; exact List.map_id _

theorem strs_at (zs : List Str) {v : Int} (h0 : 0 ≤ v) (h1 : v < (zs.length : Int)) : ∃ z, z ∈ zs ∧ atI (zs.map V.str) v = some (.str z) := by
  have h : v.toNat < zs.length := by omega
  exact ⟨zs[v.toNat], List.getElem_mem h, at_of (j := v.toNat) (by omega) (by rw [List.getElem?_map, List.getElem?_eq_getElem h]; rfl)⟩
theorem tl_upper {x : Str} (h : Asc (tl x)) : tl (Txt.upper x) = (tl x).map PyProof.Rows.up1 := congrArg tl (SX.upper_S (a := tl x) h.all128)
theorem asc_upper {x : Str} (h : Asc (tl x)) : Asc (tl (Txt.upper x)) := by
  rw [tl_upper h]
  intro c hc
  obtain ⟨d, hd, e⟩ := List.mem_map.mp hc
  have := h d hd
  unfold PyProof.Rows.up1 at e
  split at e <;> omega
theorem len_upper {x : Str} (h : Asc (tl x)) : (tl (Txt.upper x)).length = (tl x).length := by rw [tl_upper h, List.length_map]
theorem DL.strs {n : Nat} (xs : List Str) (h : xs.length ≤ 1000000) : DL (n + 2) (.tup (xs.map D.str)) := ⟨by rw [List.length_map]; exact h, fun d m => by obtain ⟨x, _, rfl⟩ := List.mem_map.mp m; exact True.intro⟩
theorem DV.strs {K : PySem.W.Frag} {H : Hp} {p : Addr} {xs : List Str} (h : H p = some (.tup (xs.map V.str))) : DV K H (.tup (xs.map D.str)) (.ref p) := by
  unfold DV
  exact ⟨p, _, rfl, SqT.of h, DVs.strs xs⟩
def sp_law (K : PySem.W.Frag) : Sp := fun vs H Q _ => ∃ (a : Addr) (ns : List Int), vs = [.ref a] ∧ SqL K H a (ns.map V.int) ∧ ns.length ≤ 63 ∧ ∀ H', Q (.bl true) H'
end Z
namespace Z
open PySem L2 SX
/-! ### cuts -/
theorem sIx_pos {n d : Nat} {i : Int} (h : 0 ≤ i) : HT.sIx n d (some i) = min i.toNat n := by
  obtain ⟨k, rfl⟩ := Int.eq_ofNat_of_zero_le h
  rw [HT.sIx_nat]; rfl
theorem cutS_to {z : Str} {i : Int} (h : 0 ≤ i) : tl (cutS z none (some i)) = (tl z).take i.toNat := by
  show ((tl z).drop 0).take (HT.sIx z.length z.length (some i) - 0) = _
  rw [sIx_pos h, List.drop_zero, Nat.sub_zero, tl_len]
  by_cases e : i.toNat ≤ (tl z).length
  · rw [Nat.min_eq_left e]
  · rw [Nat.min_eq_right (by omega), List.take_length, List.take_of_length_le (by omega)]
theorem cutS_from {z : Str} {i : Int} (h : 0 ≤ i) : tl (cutS z (some i) none) = (tl z).drop i.toNat := by
  show ((tl z).drop (HT.sIx z.length 0 (some i))).take (z.length - HT.sIx z.length 0 (some i)) = _
  rw [sIx_pos h, tl_len]
  by_cases e : i.toNat ≤ (tl z).length
  · rw [Nat.min_eq_left e, List.take_of_length_le (by rw [List.length_drop]; omega)]
  · rw [Nat.min_eq_right (by omega), List.drop_of_length_le (l := tl z) (i := i.toNat) (by omega), List.drop_of_length_le (Nat.le_refl _), List.take_nil]
theorem cutS_mid {z : Str} {i j : Int} (h : 0 ≤ i) (h2 : 0 ≤ j) : tl (cutS z (some i) (some j)) = ((tl z).drop i.toNat).take (j.toNat - i.toNat) := by
  show ((tl z).drop (HT.sIx z.length 0 (some i))).take (HT.sIx z.length z.length (some j) - HT.sIx z.length 0 (some i)) = _
  rw [sIx_pos h, sIx_pos h2, tl_len]
  by_cases e : i.toNat ≤ (tl z).length
  · rw [Nat.min_eq_left e]
    by_cases f : j.toNat ≤ (tl z).length
    · rw [Nat.min_eq_left f]
    · rw [Nat.min_eq_right (by omega), List.take_of_length_le (by rw [List.length_drop]; omega), List.take_of_length_le (by rw [List.length_drop]; omega)]
  · rw [Nat.min_eq_right (a := i.toNat) (by omega), List.drop_of_length_le (Nat.le_refl _), List.drop_of_length_le (l := tl z) (i := i.toNat) (by omega)]; simp
theorem cutV_to {xs : List V} {i : Int} (h : 0 ≤ i) : cutV xs none (some i) = xs.take i.toNat := by
  show ((xs.drop 0).take (HT.sIx xs.length xs.length (some i) - 0)) = _
  rw [sIx_pos h, List.drop_zero, Nat.sub_zero]
  by_cases e : i.toNat ≤ xs.length
  · rw [Nat.min_eq_left e]
  · rw [Nat.min_eq_right (by omega), List.take_length, List.take_of_length_le (by omega)]
theorem cutV_from {xs : List V} {i : Int} (h : 0 ≤ i) : cutV xs (some i) none = xs.drop i.toNat := by
  show ((xs.drop (HT.sIx xs.length 0 (some i))).take (xs.length - HT.sIx xs.length 0 (some i))) = _
  rw [sIx_pos h]
  by_cases e : i.toNat ≤ xs.length
  · rw [Nat.min_eq_left e, List.take_of_length_le (by rw [List.length_drop]; omega)]
  · rw [Nat.min_eq_right (by omega), List.drop_of_length_le (l := xs) (i := i.toNat) (by omega), List.drop_of_length_le (Nat.le_refl _), List.take_nil]
/-- the text k times -/
def rep (k : Nat) (l : List Nat) : List Nat := (List.replicate k l).flatten
theorem rep_fold (x : Array Nat) : ∀ (k : Nat) (a : Array Nat), ((List.replicate k x).foldl (· ++ ·) a).toList = a.toList ++ rep k x.toList
  | 0, a => by simp [rep]
  | k + 1, a => by
    rw [List.replicate_succ, List.foldl_cons, rep_fold x k]
    simp [rep, List.replicate_succ]
theorem rep_len (k : Nat) (l : List Nat) : (rep k l).length = k * l.length := by
  induction k with
  | zero => simp [rep]
  | succ k ih => unfold rep at *; rw [List.replicate_succ, List.flatten_cons, List.length_append, ih, Nat.succ_mul]; omega
theorem rep_mem {k : Nat} {l : List Nat} {c : Nat} (h : c ∈ rep k l) : c ∈ l := by
  obtain ⟨x, hx, hc⟩ := List.mem_flatten.mp h
  rw [(List.mem_replicate.mp hx).2] at hc; exact hc
section
variable {X : Cx}
/-- s * k -/
theorem op_mul_str : OpR X (binaryOp .Mult) (fun x y H Q => ∃ (z : Str) (k : Int), x = .str z ∧ y = .int k ∧ k ≤ 100000 ∧ (-100000 ≤ k) ∧ (tl z).length * k.toNat ≤ 10000000 ∧ ∀ r : Str, tl r = rep k.toNat (tl z) → Q (.str r) H) := by
  intro pins s σ H x y v u Q I rx ry h
  obtain ⟨z, k, rfl, rfl, h1, h0, hz, q⟩ := h
  obtain ⟨t, rfl⟩ := rx
  obtain ⟨t', rfl⟩ := ry
  have hz' : z.length * k.toNat ≤ 10000000 := by rw [tl_len]; exact hz
  have small := PyProof.Rows.short24 (n := z.length * k.toNat) (Nat.le_trans hz' (by decide))
  refine P.mul_str ?_ (fun a b => ?_) (fun _ _ => small) ?_
  · rw [decide_eq_false (by omega), decide_eq_false (by omega)]; rfl
  · have hk : 1 ≤ k := by omega
    have hm : (z.length : Int) * k ≤ 10000000 := by
      have : ((z.length * k.toNat : Nat) : Int) ≤ 10000000 := by omega
      rw [Int.natCast_mul, Int.toNat_of_nonneg (by omega)] at this; exact this
    have hle : (z.length : Int) ≤ (2 ^ 63 - 1) / k := by
      rw [Int.le_ediv_iff_mul_le (by omega)]
      exact Int.le_trans hm (by decide)
    omega
  · by_cases hk : k < 1
    · rw [if_pos hk]
      refine ⟨by decide, ?_⟩
      exact ⟨.str Str.empty, H, I.tok _, ⟨_, rfl⟩, q _ (by rw [show k.toNat = 0 by omega]; rfl)⟩
    · rw [if_neg hk]
      by_cases hb : (k == 1 || z.length == 0) = true
      · rw [if_pos hb]
        refine ⟨.str z, H, I, ⟨_, rfl⟩, q _ ?_⟩
        rw [Bool.or_eq_true] at hb
        rcases hb with e | e
        · have : k = 1 := by simpa using e
          subst this; simp [rep]
        · have e : z.length = 0 := by simpa using e
          rw [tl_len] at e
          have : tl z = [] := List.length_eq_zero_iff.mp e
          rw [this]
          exact (List.length_eq_zero_iff.mp (by rw [rep_len]; rfl)).symm
      · rw [if_neg hb]
        have hr : tl (⟨(List.replicate k.toNat z.cps).foldl (· ++ ·) #[]⟩ : Str) = rep k.toNat (tl z) := by
          show ((List.replicate k.toNat z.cps).foldl (· ++ ·) #[]).toList = _
          rw [rep_fold]; simp [tl]
        refine ⟨?_, ?_⟩
        · rw [tl_len, hr, rep_len, Nat.mul_comm]
          exact Nat.le_trans hz (by decide)
        · exact ⟨.str _, H, I.tok _, ⟨_, rfl⟩, q _ hr⟩
end
section
variable {X : Cx} {K : PySem.W.Frag}
/-- t + u, of tuples -/
theorem op_cat (hK : X.K = K) : OpR X (binaryOp .Add) (fun x y H Q => ∃ a b xs ys, x = .ref a ∧ y = .ref b ∧ SqT K H a xs ∧ SqT K H b ys ∧ xs.length + ys.length ≤ sizeLine ∧
    ∀ p H', Same H H' → SqT K H' p (xs ++ ys) → Q (.ref p) H') := by
  subst hK
  intro pins s σ H x y v u Q I rx ry h
  obtain ⟨a, b, xs, ys, e1, e2, ha, hb, hz, q⟩ := h
  refine op_catA pins s σ H x y v u Q I rx ry ⟨a, b, xs, ys, e1, e2, ha, hb, hz, fun e => ?_, fun _ e => ?_, fun _ _ p hp => q p _ (same_new hp) (SqT.of upd_same)⟩
  · subst e; exact q b H (Same.refl _) hb
  · subst e; exact q a H (Same.refl _) (by rw [List.append_nil]; exact ha)
/-- t[lo:hi] of a tuple -/
theorem sl_tupS (hK : X.K = K) : SlR X (fun x lo hi H Q => ∃ a xs, x = .ref a ∧ SqT K H a xs ∧ ∀ p H', Same H H' → SqT K H' p (cutV xs lo hi) → Q (.ref p) H') := by
  subst hK
  intro pins s σ H x v vl vu lo hi sl Q I rx hs pl pu h
  obtain ⟨a, xs, e, hx, q⟩ := h
  refine sl_tupA pins s σ H x v vl vu lo hi sl Q I rx hs pl pu ⟨a, xs, e, hx, fun hw => q a H (Same.refl _) ?_, fun _ p hp => q p _ (same_new hp) (SqT.of upd_same)⟩
  have : cutV xs lo hi = xs := by
    show (xs.drop (HT.sIx xs.length 0 lo)).take (HT.sIx xs.length xs.length hi - HT.sIx xs.length 0 lo) = xs
    rw [hw.1, hw.2, List.drop_zero, Nat.sub_zero, List.take_length]
  rw [this]; exact hx
end
theorem _root_.L2.Same.tup {K : PySem.W.Frag} {H H' : Hp} {a : Addr} {xs : List V} (e : Same H H') (h : SqT K H a xs) : SqT K H' a xs := by
  rcases h with (h | ⟨o, h⟩) | h
  · exact .inl (.inl (e _ _ h))
  · exact .inl (.inr ⟨o, e _ _ h⟩)
  · exact .inr h

/-- a comprehension over a range that makes texts by draws (at most d of them for each) -/
theorem lc_strs {j n d : Nat} {te : TE} {vs : List Nat} {σ : St} {H : Hp} {D s a : Addr} {c : Nat} {Qd : Hp → Prop} (p : Str → Prop) (hD : H D = none) (hS : Src H s a (c + n * d)) (hn : n ≤ 100000)
    (hw : ∀ i : Nat, wipe ((wipe σ vs).set j (some (.int (0 + (i : Int))))) vs = wipe σ vs)
    (hs : ∀ (i c' : Nat) (H1 : Hp) (R : VK), i < n → Ext s H H1 → Src H1 s a (c' + d) → (∀ (x : Str) (H2 : Hp), p x → Ext s H1 H2 → Src H2 s a c' → R (.str x) H2) → te ((wipe σ vs).set j (some (.int (0 + (i : Int))))) H1 R)
    (hd : ∀ (xs : List Str) (H' : Hp), H' D = some (.lst (xs.map V.str)) → xs.length = n → (∀ x ∈ xs, p x) → Ext s H H' → Src H' s a c → Qd H') :
    ∃ W : Nat → Nat → Hp → Prop, (∃ m, W 0 m (upd H D (.lst []))) ∧ ∀ i m H, W i m H →
      ((Itr 0 n).stop i H ∧ Qd H) ∨ ((Itr 0 n).go i H ∧ ∃ Nx : Hp → Prop, (∀ H', Nx H' → ∃ m', m' < m ∧ W (i + 1) m' H') ∧ ∀ x H', (Itr 0 n).yld i H x H' → gName j x (wipe σ vs) H' fun σ2 H2 => wipe σ2 vs = wipe σ vs ∧ tYes σ2 H2 fun b H3 =>
        if b = true then te σ2 H3 fun y H4 => ∃ acc, H4 D = some (.lst acc) ∧ acc.length < sizeLine ∧ Nx (upd H4 D (.lst (acc ++ [y]))) else Nx H3) := by
  have Ds : D ≠ s := hS.ne hD
  have Da : D ≠ a := hS.nea hD
  refine lc_range (lo := 0) (n := n) (fun i H' => ∃ xs : List Str, H' D = some (.lst (xs.map V.str)) ∧ xs.length = i ∧ (∀ x ∈ xs, p x) ∧ Ext s H H' ∧ Src H' s a (c + (n - i) * d)) ?_ ?_ ?_
  · exact ⟨[], upd_same, rfl, (fun _ h => by cases h), Ext.new hD, (hS.new hD).mono (by simp)⟩
  · rintro i H' hi ⟨xs, hx, hl, hA, hE, hS'⟩
    refine ⟨hw i, ?_⟩
    show te _ H' _
    have e : c + (n - i) * d = c + (n - (i + 1)) * d + d := by
      rw [show n - i = n - (i + 1) + 1 by omega, Nat.succ_mul]; omega
    refine hs i (c + (n - (i + 1)) * d) H' _ hi hE (by rw [← e]; exact hS') (fun x H2 hp hE2 hS2 => ?_)
    refine ⟨xs.map V.str, hE2 _ _ Ds hx, ?_, xs ++ [x], by rw [upd_same, List.map_append]; rfl, by rw [List.length_append]; simp [hl], fun y hy => ?_, ?_, hS2.put Ds Da⟩
    · rw [List.length_map]; exact Nat.lt_of_lt_of_le (show xs.length < 100000 by omega) (by decide)
    · rcases List.mem_append.mp hy with h | h
      · exact hA y h
      · rw [List.mem_singleton.mp h]; exact hp
    · intro b o hb hH
      rw [upd_ne (ne_of_none hH hD)]; exact hE2 _ _ hb (hE _ _ hb hH)
  · rintro H' ⟨xs, hx, hl, hA, hE, hS'⟩
    exact hd xs H' hx hl hA hE (hS'.mono (by omega))
theorem atI_pos {α : Type} {xs : List α} {v : Int} {x : α} (h0 : 0 ≤ v) (h : xs[v.toNat]? = some x) : atI xs v = some x := by
  have e : v = (v.toNat : Int) := by omega
  rw [e]; exact atI_nat h
/-- any item of a list of texts -/
def sp__law_pick (K : PySem.W.Frag) : Sp := fun vs H Q _ =>
  (∃ (s a r : Addr) (xs : List V) (c : Nat), vs = [.ref s, .ref r] ∧ SqL K H r xs ∧ r ≠ s ∧ xs ≠ [] ∧ xs.length ≤ 100000 ∧ Src H s a (c + 1) ∧ ∀ (v : V) (H' : Hp), v ∈ xs → Ext s H H' → Src H' s a c → Q v H') ∨
  (∃ (s a : Addr) (x : Str) (c : Nat), vs = [.ref s, .str x] ∧ tl x ≠ [] ∧ (tl x).length ≤ 100000 ∧ Src H s a (c + 1) ∧ ∀ (ch : Nat) (H' : Hp), ch ∈ tl x → Ext s H H' → Src H' s a c → Q (.str (S [ch])) H')
def sp__law_once_in : Sp := fun vs H Q _ => ∃ (s a : Addr) (m : Int) (c : Nat), vs = [.ref s, .int m] ∧ 0 < m ∧ m < 1073741824 ∧ Src H s a (c + 1) ∧ ∀ (b : Bool) (H' : Hp), Ext s H H' → Src H' s a c → Q (.bl b) H'
end Z
namespace Z
open PySem L2 SX
open PySem.Builtin.Str (occurrences lastOccurrence subAt)
theorem at_one {x : Str} {c hi k : Nat} (h : hi ≤ (tl x).length) : StrLaws.At x (S [c]) hi k ↔ k < hi ∧ (tl x)[k]? = some c := by
  have e := StrLaws.subAt_one x c k
  have l1 : (S [c]).length = 1 := rfl
  unfold StrLaws.At
  constructor
  · rintro ⟨h1, h2⟩
    rw [l1] at h1
    refine ⟨by omega, e.mp ⟨?_, h2⟩⟩
    show k + 1 ≤ x.length
    rw [tl_len]; omega
  · rintro ⟨h1, h2⟩
    have h3 := e.mpr h2
    exact ⟨by rw [l1]; omega, h3.2⟩
theorem find_from (x : Str) (c : Nat) {i : Int} (h : 0 ≤ i) :
    (Txt.find3 x (S [c]) i = -1 ∧ ∀ k : Nat, i ≤ (k : Int) → (tl x)[k]? ≠ some c) ∨ ∃ k : Nat, Txt.find3 x (S [c]) i = (k : Int) ∧ i ≤ (k : Int) ∧ (tl x)[k]? = some c ∧ ∀ j : Nat, i ≤ (j : Int) → j < k → (tl x)[j]? ≠ some c := by
  obtain ⟨n, rfl⟩ := Int.eq_ofNat_of_zero_le h
  have hf : fromIndex x.length (n : Int) = n := by
    unfold fromIndex
    rw [if_neg (by omega), Int.max_eq_right (by omega)]; rfl
  unfold Txt.find3
  rw [hf, StrLaws.occ_eq]
  have hx : x.length = (tl x).length := tl_len x
  rcases StrLaws.occ_first x (S [c]) x.length 1 (Nat.le_refl _) (List.range' n (x.length + 1 - n)) n (fun i hi => (List.mem_range'_1.mp hi).1) with ⟨h0, hn⟩ | ⟨pre, a, post, e, h0, ha, hn⟩
  · refine .inl ⟨by rw [h0], fun k hk hc => ?_⟩
    have hlt := (List.getElem?_eq_some_iff.mp hc).1
    exact hn k (List.mem_range'_1.mpr ⟨by omega, by omega⟩) ((at_one (by omega)).mpr ⟨by omega, hc⟩)
  · have h1 := (at_one (by omega)).mp ha
    have hm : a ∈ List.range' n (x.length + 1 - n) := by rw [e]; simp
    refine .inr ⟨a, ?_, by have := (List.mem_range'_1.mp hm).1; omega, h1.2, fun j hj hl hc => ?_⟩
    · cases hq : (forIn (List.range' n (x.length + 1 - n)) ((#[] : Array Nat), n) (StrLaws.occBody x (S [c]) x.length 1)).run.fst.toList with
      | nil =>
        have : (forIn (List.range' n (x.length + 1 - n)) ((#[] : Array Nat), n) (StrLaws.occBody x (S [c]) x.length 1)).run.fst = #[] := Array.toList_eq_nil_iff.mp hq
        rw [this] at h0; simp at h0
      | cons b r =>
        have hb : (forIn (List.range' n (x.length + 1 - n)) ((#[] : Array Nat), n) (StrLaws.occBody x (S [c]) x.length 1)).run.fst[0]? = some b := by
          rw [← Array.getElem?_toList, hq]; rfl
        rw [hb] at h0
        cases h0; rfl
    · have hjm : j ∈ pre := by
        have hlt := (List.getElem?_eq_some_iff.mp hc).1
        have hjr : j ∈ List.range' n (x.length + 1 - n) := List.mem_range'_1.mpr ⟨by omega, by omega⟩
        have hp : (pre ++ a :: post).Pairwise (· < ·) := by rw [← e]; exact List.pairwise_lt_range'
        rw [e] at hjr
        rcases List.mem_append.mp hjr with q | q
        · exact q
        · rcases List.mem_cons.mp q with q | q
          · omega
          · have := (List.pairwise_cons.mp (List.pairwise_append.mp hp).2.1).1 j q
            omega
      exact hn j hjm ((at_one (by omega)).mpr ⟨by have := (List.getElem?_eq_some_iff.mp hc).1; omega, hc⟩)
theorem rfind_in (x : Str) (c : Nat) {i m : Int} (h : 0 ≤ i) (hm : 0 ≤ m) :
    (Txt.rfindIn x (S [c]) i m = -1 ∧ ∀ k : Nat, i ≤ (k : Int) → (k : Int) < m → (tl x)[k]? ≠ some c) ∨ ∃ k : Nat, Txt.rfindIn x (S [c]) i m = (k : Int) ∧ i ≤ (k : Int) ∧ (k : Int) < m ∧ (tl x)[k]? = some c ∧ ∀ j : Nat, k < j → (j : Int) < m → (tl x)[j]? ≠ some c := by
  obtain ⟨n, rfl⟩ := Int.eq_ofNat_of_zero_le h
  obtain ⟨e, rfl⟩ := Int.eq_ofNat_of_zero_le hm
  have hf : fromIndex x.length (n : Int) = n := by
    unfold fromIndex
    rw [if_neg (by omega), Int.max_eq_right (by omega)]; rfl
  have ht : toIndexW x.length (e : Int) = min e x.length := by
    unfold toIndexW
    rw [if_neg (by omega), Int.max_eq_right (by omega)]; rfl
  have hx : x.length = (tl x).length := tl_len x
  unfold Txt.rfindIn
  rw [hf, ht, StrLaws.last_eq]
  have key := StrLaws.last_run x (S [c]) (min e x.length) (List.range' n (min e x.length + 1 - n)) [] none (fun _ h => nomatch h) (fun _ h => nomatch h) List.pairwise_lt_range'
  rw [List.nil_append] at key
  cases hq : (forIn (List.range' n (min e x.length + 1 - n)) none (StrLaws.lastBody x (S [c]) (min e x.length))).run with
  | none =>
    rw [hq] at key
    refine .inl ⟨rfl, fun k hk hk2 hc => ?_⟩
    have hlt := (List.getElem?_eq_some_iff.mp hc).1
    exact key k (List.mem_range'_1.mpr ⟨by omega, by omega⟩) ((at_one (by omega)).mpr ⟨by omega, hc⟩)
  | some a =>
    rw [hq] at key
    obtain ⟨ha, hl⟩ := key
    have h1 := (at_one (by omega)).mp ha
    have hr : n ≤ a := by
      -- the last place is one of those that were looked at
      have : ∀ (l : List Nat) (st : Option Nat) (b : Nat), (forIn l st (StrLaws.lastBody x (S [c]) (min e x.length))).run = some b → st = some b ∨ b ∈ l := by
        intro l
        induction l with
        | nil => intro st b hb; exact .inl hb
        | cons d l ih =>
          intro st b hb
          rw [List.forIn_cons] at hb
          unfold StrLaws.lastBody at hb
          split at hb
          · rcases ih _ _ hb with q | q
            · exact .inr (by cases q; exact List.mem_cons_self)
            · exact .inr (List.mem_cons_of_mem _ q)
          · rcases ih _ _ hb with q | q
            · exact .inl q
            · exact .inr (List.mem_cons_of_mem _ q)
      rcases this _ _ _ hq with q | q
      · cases q
      · exact (List.mem_range'_1.mp q).1
    refine .inr ⟨a, rfl, by omega, by omega, h1.2, fun j hj hj2 hc => ?_⟩
    have hlt := (List.getElem?_eq_some_iff.mp hc).1
    exact hl j (List.mem_range'_1.mpr ⟨by omega, by omega⟩) hj ((at_one (by omega)).mpr ⟨by omega, hc⟩)

theorem tl_inj : ∀ {a b : List Str}, a.map tl = b.map tl → a = b
  | [], [], _ => rfl
  | [], _ :: _, h => by cases h
  | _ :: _, [], h => by cases h
  | x :: a, y :: b, h => by
    rw [List.map_cons, List.map_cons] at h
    obtain ⟨h1, h2⟩ := List.cons.inj h
    rw [tl_ext h1, tl_inj h2]
theorem DV.strsT {K : PySem.W.Frag} {H : Hp} {p : Addr} {xs : List Str} (h : SqT K H p (xs.map V.str)) : DV K H (.tup (xs.map D.str)) (.ref p) := by
  unfold DV
  exact ⟨p, _, rfl, h, DVs.strs xs⟩
end Z
namespace Z
open PySem PySem.Spec PyProof.Rows L2 SX
/-! ### name = text[..]; text = text.replace(name, ''): the token of the name is known -/
theorem nsSet_det {M : Model} {Γ : PySem.Ctx} {E : Value → Pos → Shared → Prop} {p : Pos} {s : Shared} {a : Addr} {m : Str → Option Value} (hn : s.heap.Ns a m) (name : Str) (v : Value) :
    ∃ h', h'.Ns a (fun x => if x = name then some v else m x) ∧ ∀ Q, Sem.wp M Γ (nsSet a name v) Q E p s ↔ Q () p { s with heap := h', toks := s.toks + 1 } := by
  have key : ∃ h', ∀ Q, Sem.wp M Γ (nsSet a name v) Q E p s ↔ Q () p { s with heap := h', toks := s.toks + 1 } := by
    obtain ⟨o, es, ep, ho, hd, hk, hm⟩ := hn
    have hany : es.any (·.refKey) = false := by
      rw [Array.any_eq_false']
      intro e he
      obtain ⟨n, t, h⟩ := hk e he
      simp [DictEntry.refKey, h]
    apply Exists.intro
    intro Q
    simp only [nsSet, strHash, Sem.wp_bind', Sem.wp_cmd_ask, Sem.wp_pure', Sem.wp_cmd_mkText]
    rw [Sem.wp_loadPart_of M Γ E p { s with toks := s.toks + 1 } (o := o) _ ho]
    simp only [hd, aRefKeyMayBeTheName_eq, aRefKeyMayBeTheNameByArray, hany, Bool.and_false, Bool.false_eq_true, if_false, Sem.wp_cmd_updatePart]
    exact ⟨fun h => h.2, fun h => ⟨by rw [ho]; rfl, h⟩⟩
  obtain ⟨h', hq⟩ := key
  refine ⟨h', ?_, hq⟩
  have := (hq _).mp (Sem.wp_nsSet M Γ E p s hn name v (fun _ _ s' => ∃ h2 : Heap, h2.Ns a (fun x => if x = name then some v else m x) ∧ s' = { s with heap := h2, toks := s.toks + 1 }) (fun h2 a1 _ => ⟨h2, a1, rfl⟩))
  obtain ⟨h2, a1, e⟩ := this
  have e2 : h' = h2 := congrArg Shared.heap e
  rw [e2]; exact a1
theorem store_det {M : Model} {A : Around} {E : Value → Shared → Prop} {s : Shared} {env : Env} {name : Str} {m : Str → Option Value} {v : Value} {Q : Unit → Shared → Prop} (hl : env.kindOf name = some .local) (hn : s.heap.Ns env.locals m)
    (hp : (env.scope.kind == .class || (env.scope.kind == .module && env.locals != env.globals)) = false) (h : wpAny M A (storeName env name v) Q E s) :
    wpAny M A (storeName env name v) (fun u s' => Q u s' ∧ s'.heap.Ns env.locals (fun x => if x = name then some v else m x) ∧ s'.toks = s.toks + 1) E s := by
  rw [storeName_local hl hp] at h ⊢
  intro Γ p hΓ
  obtain ⟨h', a1, hq⟩ := nsSet_det (M := M) (Γ := Γ) (E := fun e _ s' => E e s') (p := p) hn name v
  have h1 := (hq _).mp (h Γ p hΓ)
  exact (hq _).mpr ⟨h1, a1, rfl⟩
section
variable {X : Cx}
def tRepS (l o : Nat) (tb : TE) (u : TS) : TS := fun D σ H => ∃ z : Str, σ[l]? = some (some (.str z)) ∧ tb σ H fun y H1 => ∃ (i : Int) (c : Nat), y = .int i ∧ 0 ≤ i ∧ i < 2 ^ 63 ∧ i < z.length ∧ z.cps[i.toNat]? = some c ∧ z.length ≤ 1000000 ∧
  u D ((σ.set o (some (.str ⟨#[c]⟩))).set l (some (.str (Txt.replace z ⟨#[c]⟩ (Str.ofString ""))))) H1
theorem psst_rep {l o j : Nat} {nl no : Str} {eb : Expr} {rest : List Stmt} {tb : TE} {u : TS} {p1 p2 p3 p4 p5 p6 p7 p8 c1 ap pos : Pos} (hN : X.N.Nodup) (hl : X.N[l]? = some nl) (ho : X.N[o]? = some no) (hlo : o ≠ l)
    (kl : X.env.scope.names.lookup nl = some .local) (ko : X.env.scope.names.lookup no = some .local) (hb : PE X eb tb) (hs : PlainIxT eb) (h2 : PSsT X rest u)
    (hs1 : swapsWith (.Subscript (.Name nl p2) eb p3) (some (.Name no p1)) p4.line X.env = pure false := by rfl)
    (hs2 : swapsWith (.Call (.Attribute (.Name nl p6) "replace" ap) [.Name no p7, .Constant (.str (Str.ofString "")) j c1] [] pos) (some (.Name nl p5)) p8.line X.env = pure false := by rfl)
    (hst : starEach [.Name no p7, .Constant (.str (Str.ofString "")) j c1] X.env = [(false, eval (.Name no p7) X.env), (false, eval (.Constant (.str (Str.ofString "")) j c1) X.env)] := by rfl)
    (hbase : attributeBase (.Name nl p6) "replace" X.env (eval (.Name nl p6) X.env) = eval (.Name nl p6) X.env := by rfl) (hline : (ap.endLine == pos.line) = true := by rfl)
    (hd : (nl == ("__debug__" : Str)) = false := by decide) (hc : (nl == ("__classdict__" : Str)) = false := by decide) (hd' : (no == ("__debug__" : Str)) = false := by decide) :
    PSsT X (.Assign [.Name no p1] (.Subscript (.Name nl p2) eb p3) p4 :: .Assign [.Name nl p5] (.Call (.Attribute (.Name nl p6) "replace" ap) [.Name no p7, .Constant (.str (Str.ofString "")) j c1] [] pos) p8 :: rest) (tRepS l o tb u) := by
  intro pins s σ H D h0 I h
  obtain ⟨z, hz, h⟩ := h
  refine wpAny_execs_cons (wpAny_Assign_Name (Subscript_ (raw_name hl (.inl kl) I hz (fun uz rz => ?_) hd hc)) hs1)
  obtain ⟨tz, rfl⟩ := rz
  refine wpAny_mono (PySem.wpAny_toks (hb.run pins s σ H _ I h)) (fun ub s2 q => ?_) (fun _ _ x => x.2)
  obtain ⟨hk, y, H1, I2, ry, i, c, rfl, i0, i63, il, hcc, hzl, q⟩ := q
  obtain ⟨ti, rfl⟩ := ry
  have e := PySem.StrLaws.seqIndex_nonneg i0 il
  have n0 : s2.toks ≠ 0 := by omega
  refine tail_any (typeIs_str s2 z tz) slot_str_getitem.lookup (getItem_str (c := c) (by
    have e1 : decide (i < -(2 ^ 63 : Int)) = false := decide_eq_false (by omega)
    have e2 : decide (i ≥ 2 ^ 63) = false := decide_eq_false (by omega)
    rw [e1, e2] <;> rfl) (by rw [e]; exact hcc) ?_) (hs _ _)
  have I2' := I2.tok (s2.toks + 1)
  obtain ⟨m, hn, _⟩ := id I2'.loc
  have hp : (X.env.scope.kind == .class || (X.env.scope.kind == .module && X.env.locals != X.env.globals)) = false := by rw [I2.ok.kind]; rfl
  have st := store_ok (M := model X.prog X.w) (A := X.A) (E := X.xe) (v := V.str ⟨#[c]⟩) (u := Value.str ⟨#[c]⟩ s2.toks) (Q := fun _ s' => Inv X pins (σ.set o (some (V.str ⟨#[c]⟩))) H1 s') I2' hN ho (.inl ko) ⟨_, rfl⟩ (fun s' I' => I') (.inr ko)
  refine wpAny_mono (store_det ko hn hp st) (fun _ s3 q3 => ?_) (fun _ _ x => x)
  obtain ⟨I3, hn3, ht3⟩ := q3
  have ht3' : s3.toks = s2.toks + 1 + 1 := ht3
  have hz3 : (σ.set o (some (V.str ⟨#[c]⟩)))[l]? = some (some (.str z)) := by rw [List.getElem?_set_ne hlo]; exact hz
  have B : wpAny (model X.prog X.w) X.A (exec (.Assign [.Name nl p5] (.Call (.Attribute (.Name nl p6) "replace" ap) [.Name no p7, .Constant (.str (Str.ofString "")) j c1] [] pos) p8) X.env) (fun f s4 => f = .next ∧ Inv X pins ((σ.set o (some (V.str ⟨#[c]⟩))).set l (some (.str (Txt.replace z ⟨#[c]⟩ (Str.ofString ""))))) H1 s4) X.xe s3 := by
    refine wpAny_Assign_Name (PySem.Call_method2 hbase hst hline (raw_name hl (.inl kl) I3 hz3 (fun uz2 rz2 => ?_) hd hc)) hs2
    obtain ⟨tz2, rfl⟩ := rz2
    refine ⟨"str", _, PySem.F.plainAttrs_str, PySem.F.slot_str_replace, PySem.F.type_str_replace, typeIs_str _ _ _, (fun _ e => nomatch e), Calls.callWith_builtin rfl (Calls.evalArgs_plain (Calls.spliced_cons ?_))⟩
    refine wpAny_Name (wpAny_loadName_local I3.ok.kind ko hn3 (if_pos rfl) ?_) hd'
    refine Calls.spliced_cons (Calls.Constant_str (Calls.spliced_nil ?_))
    have n1 : s3.toks ≠ 0 := by omega
    have n2 : s2.toks ≠ s3.toks := by omega
    refine PySem.SC.replace (u := s2.toks) (v := s3.toks) n0 n1 n2 ?_ ?_ fun t' k => ?_
    · rfl
    · show z.length + (z.length + 1) * 0 ≤ _; omega
    exact store_ok (v := V.str (Txt.replace z ⟨#[c]⟩ (Str.ofString ""))) (u := Value.str (Txt.replace z ⟨#[c]⟩ (Str.ofString "")) t') (I3.tok k) hN hl (.inl kl) ⟨_, rfl⟩ (fun s' I' => ⟨rfl, I'⟩) (.inr kl)
  refine wpAny_execs_cons (wpAny_mono (PySem.wpAny_toks B) (fun f s4 q4 => ?_) (fun _ _ x => x.2))
  obtain ⟨hk4, rfl, I4⟩ := q4
  exact h2 pins s4 _ H1 D (by omega) I4 q
end
end Z
namespace Z
open PySem L2 SX
def top (i : Nat) : Stmt := PySem.Challenge.pw_criermoot_k12_standings.main.body.getD i (.Pass ⟨0, 0, 0, 0⟩)
abbrev s_add_place : Stmt := top 1
abbrev N_add_place : List Str := ["glob", "places", "place"]
theorem sc_add_place : FnScope ["glob", "places", "place"] ["glob", "places", "place"] (defScope s_add_place) := ⟨rfl, rfl, rfl, by decide +kernel, rfl, by decide +kernel, by decide +kernel⟩
abbrev s_follows : Stmt := top 2
abbrev N_follows : List Str := ["glob", "standing", "character", "places", "place"]
theorem sc_follows : FnScope ["glob", "standing", "character", "places", "place"] ["glob", "standing", "character"] (defScope s_follows) := ⟨rfl, rfl, rfl, by decide +kernel, rfl, by decide +kernel, by decide +kernel⟩
abbrev s_standing : Stmt := top 3
abbrev N_standing : List Str := ["glob", "beginning", "places", "found", "character"]
theorem sc_standing : FnScope ["glob", "beginning", "places", "found", "character"] ["glob", "beginning"] (defScope s_standing) := ⟨rfl, rfl, rfl, by decide +kernel, rfl, by decide +kernel, by decide +kernel⟩
abbrev s_fits : Stmt := top 4
abbrev N_fits : List Str := ["glob", "board"]
theorem sc_fits : FnScope ["glob", "board"] ["glob", "board"] (defScope s_fits) := ⟨rfl, rfl, rfl, by decide +kernel, rfl, by decide +kernel, by decide +kernel⟩
abbrev s__law_mix : Stmt := top 6
abbrev N__law_mix : List Str := ["seed", "turn", "number"]
theorem sc__law_mix : FnScope ["seed", "turn", "number"] ["seed", "turn"] (defScope s__law_mix) := ⟨rfl, rfl, rfl, by decide +kernel, rfl, by decide +kernel, by decide +kernel⟩
abbrev s__law_source : Stmt := top 7
abbrev N__law_source : List Str := ["script", "seed", "k"]
theorem sc__law_source : FnScope ["script", "seed", "k"] ["script"] (defScope s__law_source) := ⟨rfl, rfl, rfl, by decide +kernel, rfl, by decide +kernel, by decide +kernel⟩
abbrev s__law_draw : Stmt := top 8
abbrev N__law_draw : List Str := ["source", "many", "cell", "value"]
theorem sc__law_draw : FnScope ["source", "many", "cell", "value"] ["source", "many"] (defScope s__law_draw) := ⟨rfl, rfl, rfl, by decide +kernel, rfl, by decide +kernel, by decide +kernel⟩
abbrev s__law_pick : Stmt := top 9
abbrev N__law_pick : List Str := ["source", "row"]
theorem sc__law_pick : FnScope ["source", "row"] ["source", "row"] (defScope s__law_pick) := ⟨rfl, rfl, rfl, by decide +kernel, rfl, by decide +kernel, by decide +kernel⟩
abbrev s__law_once_in : Stmt := top 10
abbrev N__law_once_in : List Str := ["source", "many"]
theorem sc__law_once_in : FnScope ["source", "many"] ["source", "many"] (defScope s__law_once_in) := ⟨rfl, rfl, rfl, by decide +kernel, rfl, by decide +kernel, by decide +kernel⟩
abbrev s__law_is_int : Stmt := top 11
abbrev N__law_is_int : List Str := ["value"]
theorem sc__law_is_int : FnScope ["value"] ["value"] (defScope s__law_is_int) := ⟨rfl, rfl, rfl, by decide +kernel, rfl, by decide +kernel, by decide +kernel⟩
abbrev s__law_same : Stmt := top 12
abbrev N__law_same : List Str := ["actual", "due", "k"]
theorem sc__law_same : FnScope ["actual", "due", "k"] ["actual", "due"] (defScope s__law_same) := ⟨rfl, rfl, rfl, by decide +kernel, rfl, by decide +kernel, by decide +kernel⟩
abbrev s__law_signs : Stmt := top 13
abbrev N__law_signs : List Str := ["source", "letters", "one", "two"]
theorem sc__law_signs : FnScope ["source", "letters", "one", "two"] ["source"] (defScope s__law_signs) := ⟨rfl, rfl, rfl, by decide +kernel, rfl, by decide +kernel, by decide +kernel⟩
abbrev s__law_free_glob : Stmt := top 14
abbrev N__law_free_glob : List Str := ["source", "signs", "most", "menu", "k"]
theorem sc__law_free_glob : FnScope ["source", "signs", "most", "menu", "k"] ["source", "signs", "most"] (defScope s__law_free_glob) := ⟨rfl, rfl, rfl, by decide +kernel, rfl, by decide +kernel, by decide +kernel⟩
abbrev s__law_put : Stmt := top 15
abbrev N__law_put : List Str := ["text", "sign"]
theorem sc__law_put : FnScope ["text", "sign"] ["text", "sign"] (defScope s__law_put) := ⟨rfl, rfl, rfl, by decide +kernel, rfl, by decide +kernel, by decide +kernel⟩
abbrev s__law_beginning : Stmt := top 16
abbrev N__law_beginning : List Str := ["source", "glob", "signs", "menu", "part", "text", "sign", "k"]
theorem sc__law_beginning : FnScope ["source", "glob", "signs", "menu", "part", "text", "sign", "k"] ["source", "glob", "signs"] (defScope s__law_beginning) := ⟨rfl, rfl, rfl, by decide +kernel, rfl, by decide +kernel, by decide +kernel⟩
abbrev s__law_table : Stmt := top 17
abbrev N__law_table : List Str := ["glob", "beginning", "rows", "j", "row", "i"]
theorem sc__law_table : FnScope ["glob", "beginning", "rows", "j", "row", "i"] ["glob", "beginning"] (defScope s__law_table) := ⟨rfl, rfl, rfl, by decide +kernel, rfl, by decide +kernel, by decide +kernel⟩
abbrev s__law_all_right : Stmt := top 18
abbrev N__law_all_right : List Str := ["glob", "beginning", "due", "j", "part"]
theorem sc__law_all_right : FnScope ["glob", "beginning", "due", "j", "part"] ["glob", "beginning", "due"] (defScope s__law_all_right) := ⟨rfl, rfl, rfl, by decide +kernel, rfl, by decide +kernel, by decide +kernel⟩
abbrev s_law : Stmt := top 19
abbrev N_law : List Str := ["script", "source", "signs", "large", "glob", "beginning", "many", "other", "second", "due", "k"]
theorem sc_law : FnScope ["script", "source", "signs", "large", "glob", "beginning", "many", "other", "second", "due", "k"] ["script"] (defScope s_law) := ⟨rfl, rfl, rfl, by decide +kernel, rfl, by decide +kernel, by decide +kernel⟩
structure Tx (mg : Str → Option Value) : Prop where
  n_abs : mg "abs" = none
  n_bool : mg "bool" = none
  n_int : mg "int" = none
  n_isinstance : mg "isinstance" = none
  n_len : mg "len" = none
  n_list : mg "list" = none
  n_range : mg "range" = none
  n_str : mg "str" = none
  n_tuple : mg "tuple" = none
end Z
namespace Z
open PySem L2 SX
/-! ### where a beginning stands in a glob -/
abbrev nts (l : List Nat) : List V := l.map fun k : Nat => V.int (k : Int)
def st0 (g : List Nat) : Nat → Prop
  | 0 => True
  | i + 1 => g[i]? = some 42 ∧ st0 g i
def nxt (g : List Nat) (M : Nat → Prop) (c : Nat) : Nat → Prop
  | 0 => False
  | i + 1 => (g[i]? = some 42 ∧ (nxt g M c i ∨ M (i + 1))) ∨ (g[i]? ≠ some 42 ∧ M i ∧ (g[i]? = some 63 ∨ g[i]? = some c))
def stand (g b : List Nat) : Nat → Prop := b.foldl (fun M c => nxt g M c) (st0 g)
/-- closed along stars -/
def closed (g : List Nat) (M : Nat → Prop) : Prop := ∀ y, M y → g[y]? = some 42 → M (y + 1)
def within (g : List Nat) (M : Nat → Prop) : Prop := ∀ y, M y → y ≤ g.length
theorem st0_closed (g : List Nat) : closed g (st0 g) := fun _ h e => ⟨e, h⟩
theorem st0_within (g : List Nat) : within g (st0 g) := fun y h => by
  cases y with
  | zero => omega
  | succ i => have := (List.getElem?_eq_some_iff.mp h.1).1; omega
theorem nxt_closed (g : List Nat) (M : Nat → Prop) (c : Nat) : closed g (nxt g M c) := fun _ h e => .inl ⟨e, .inl h⟩
theorem nxt_within (g : List Nat) (M : Nat → Prop) (c : Nat) : within g (nxt g M c) := fun y h => by
  cases y with
  | zero => omega
  | succ i =>
    rcases h with ⟨h, _⟩ | ⟨_, _, h | h⟩ <;> (have := (List.getElem?_eq_some_iff.mp h).1; omega)
theorem stand_nil (g : List Nat) : stand g [] = st0 g := rfl
theorem stand_snoc (g b : List Nat) (c : Nat) : stand g (b ++ [c]) = nxt g (stand g b) c := by unfold stand; rw [List.foldl_append]; rfl
theorem stand_ok (g b : List Nat) : closed g (stand g b) ∧ within g (stand g b) := by
  unfold stand
  rw [← List.reverse_reverse b, List.foldl_reverse]
  cases b.reverse with
  | nil => exact ⟨st0_closed g, st0_within g⟩
  | cons c r => exact ⟨nxt_closed g _ c, nxt_within g _ c⟩
/-- the places, ascending -/
def Asd (ps : List Nat) (M : Nat → Prop) : Prop := ps.Pairwise (· < ·) ∧ ∀ y, y ∈ ps ↔ M y
theorem asd_one : ∀ {a b : List Nat}, a.Pairwise (· < ·) → b.Pairwise (· < ·) → (∀ y, y ∈ a ↔ y ∈ b) → a = b
  | [], [], _, _, _ => rfl
  | [], y :: b, _, _, h => by have := (h y).mpr (by simp); cases this
  | x :: a, [], _, _, h => by have := (h x).mp (by simp); cases this
  | x :: a, y :: b, pa, pb, h => by
    have ha := List.pairwise_cons.mp pa
    have hb := List.pairwise_cons.mp pb
    have e : x = y := by
      have h1 := (h x).mp (by simp)
      have h2 := (h y).mpr (by simp)
      rcases List.mem_cons.mp h1 with e | e
      · exact e
      · rcases List.mem_cons.mp h2 with f | f
        · exact f.symm
        · have := hb.1 x e; have := ha.1 y f; omega
    subst e
    rw [asd_one ha.2 hb.2 fun z => ?_]
    constructor
    · intro hz
      rcases List.mem_cons.mp ((h z).mp (List.mem_cons_of_mem _ hz)) with e | e
      · subst e; have := ha.1 z hz; omega
      · exact e
    · intro hz
      rcases List.mem_cons.mp ((h z).mpr (List.mem_cons_of_mem _ hz)) with e | e
      · subst e; have := hb.1 z hz; omega
      · exact e
theorem Asd.one {a b : List Nat} {M : Nat → Prop} (x : Asd a M) (y : Asd b M) : a = b := asd_one x.1 y.1 fun z => (x.2 z).trans (y.2 z).symm
theorem Asd.congr {a : List Nat} {M N : Nat → Prop} (x : Asd a M) (h : ∀ y, M y ↔ N y) : Asd a N := ⟨x.1, fun y => (x.2 y).trans (h y)⟩
theorem Asd.len {a : List Nat} {M : Nat → Prop} {g : List Nat} (x : Asd a M) (w : within g M) : a.length ≤ g.length + 1 := by
  have : ∀ (n : Nat) (l : List Nat), l.Pairwise (· < ·) → (∀ y ∈ l, y < n) → l.length ≤ n := by
    intro n
    induction n with
    | zero => intro l _ h; cases l with
      | nil => simp
      | cons y r => have := h y (by simp); omega
    | succ n ih =>
      intro l p h
      rcases List.eq_nil_or_concat l with e | ⟨r, z, e⟩
      · subst e; simp
      · subst e
        rw [List.concat_eq_append] at p h ⊢
        have h2 := ih r (List.pairwise_append.mp p).1 (fun y hy => by
          have := (List.pairwise_append.mp p).2.2 y hy z (by simp)
          have := h z (by simp)
          omega)
        rw [List.length_append]; simp; exact h2
  exact this (g.length + 1) a x.1 fun y hy => by have := w y ((x.2 y).mp hy); omega
/-- a row of stars behind x -/
def isRun (g : List Nat) (x k : Nat) : Prop := (∀ j, j < k → g[x + j]? = some 42) ∧ g[x + k]? ≠ some 42
/-- places that are built up: L so far, m the greatest one that was put in, A what was put in -/
structure Up (g L : List Nat) (m : Nat) (A : Nat → Prop) : Prop where
  asc : L.Pairwise (· < ·)
  cl : ∀ y ∈ L, g[y]? = some 42 → y + 1 ∈ L
  gap : ∀ y z, m ≤ y → y ≤ z → z ∈ L → y ∈ L
  has : ∀ y, A y → y ∈ L
  only : ∀ (N : Nat → Prop), closed g N → (∀ y, A y → N y) → ∀ y ∈ L, N y
theorem Up.nil (g : List Nat) : Up g [] 0 (fun _ => False) := ⟨.nil, (fun _ h => by cases h), (fun _ _ _ _ h => by cases h), (fun _ h => h.elim), (fun _ _ _ _ h => by cases h)⟩
theorem Up.stay {g L : List Nat} {m x z : Nat} {A : Nat → Prop} (u : Up g L m A) (hm : m ≤ x) (hz : z ∈ L) (hx : x ≤ z) : Up g L x (fun y => A y ∨ y = x) :=
  ⟨u.asc, u.cl, fun y z a b c => u.gap y z (by omega) b c, fun y h => h.elim (u.has y) fun e => by subst e; exact u.gap _ _ hm hx hz, fun N c h => u.only N c fun y a => h y (.inl a)⟩
theorem run_mem {x k y : Nat} : y ∈ List.range' x (k + 1) ↔ x ≤ y ∧ y ≤ x + k := by rw [List.mem_range'_1]; omega
theorem Up.more {g L : List Nat} {m x k : Nat} {A : Nat → Prop} (u : Up g L m A) (hl : ∀ y ∈ L, y < x) (hr : isRun g x k) : Up g (L ++ List.range' x (k + 1)) x (fun y => A y ∨ y = x) := by
  refine ⟨?_, ?_, ?_, ?_, ?_⟩
  · exact List.pairwise_append.mpr ⟨u.asc, List.pairwise_lt_range', fun a ha b hb => by have := hl a ha; have := (run_mem.mp hb).1; omega⟩
  · intro y hy e
    rcases List.mem_append.mp hy with h | h
    · exact List.mem_append_left _ (u.cl y h e)
    · refine List.mem_append_right _ (run_mem.mpr ?_)
      have := run_mem.mp h
      by_cases q : y = x + k
      · subst q; exact absurd e hr.2
      · omega
  · intro y z hy hyz hz
    rcases List.mem_append.mp hz with h | h
    · have := hl z h; omega
    · have := run_mem.mp h
      exact List.mem_append_right _ (run_mem.mpr ⟨by omega, by omega⟩)
  · intro y h
    rcases h with h | e
    · exact List.mem_append_left _ (u.has y h)
    · subst e; exact List.mem_append_right _ (run_mem.mpr ⟨Nat.le_refl _, by omega⟩)
  · intro N c h y hy
    rcases List.mem_append.mp hy with q | q
    · exact u.only N c (fun z a => h z (.inl a)) y q
    · obtain ⟨q1, q2⟩ := run_mem.mp q
      have : ∀ j, j ≤ k → N (x + j) := by
        intro j
        induction j with
        | zero => intro _; exact h x (.inr rfl)
        | succ j ih => intro hj; exact c _ (ih (by omega)) (hr.1 j (by omega))
      have := this (y - x) (by omega)
      rwa [show x + (y - x) = y by omega] at this
theorem Up.congr {g L : List Nat} {m : Nat} {A B : Nat → Prop} (u : Up g L m A) (h : ∀ y, A y ↔ B y) : Up g L m B :=
  ⟨u.asc, u.cl, u.gap, fun y b => u.has y ((h y).mpr b), fun N c q => u.only N c fun y a => q y ((h y).mp a)⟩
/-- what is put in by the places of M that are taken -/
def puts (g : List Nat) (c : Nat) (T : Nat → Prop) (y : Nat) : Prop := (T y ∧ ∃ i, y = i + 1 ∧ g[i]? = some 42) ∨ ∃ i, y = i + 1 ∧ T i ∧ (g[i]? = some 63 ∨ g[i]? = some c)
theorem puts_next {g : List Nat} {M : Nat → Prop} {c : Nat} (hc : c ≠ 42) (cl : closed g M) {L : List Nat} {m : Nat} (u : Up g L m (puts g c M)) : Asd L (nxt g M c) := by
  refine ⟨u.asc, fun y => ⟨fun hy => u.only _ (nxt_closed g M c) (fun y p => ?_) y hy, ?_⟩⟩
  · rcases p with ⟨t, i, rfl, e⟩ | ⟨i, rfl, t, e⟩
    · exact .inl ⟨e, .inr t⟩
    · refine .inr ⟨fun q => ?_, t, e⟩
      rcases e with e | e <;> rw [e] at q
      · cases q
      · exact hc (Option.some.inj q)
  · intro h
    induction y with
    | zero => exact h.elim
    | succ i ih =>
      rcases h with ⟨e, h | h⟩ | ⟨_, t, e⟩
      · exact u.cl i (ih h) e
      · exact u.has _ (.inl ⟨h, i, rfl, e⟩)
      · exact u.has _ (.inr ⟨i, rfl, t, e⟩)
theorem start_asd {g L : List Nat} {m : Nat} (u : Up g L m (fun y => y = 0)) : Asd L (st0 g) := by
  refine ⟨u.asc, fun y => ⟨fun hy => u.only _ (st0_closed g) (fun y e => by subst e; exact True.intro) y hy, ?_⟩⟩
  intro h
  induction y with
  | zero => exact u.has 0 rfl
  | succ i ih => exact u.cl i (ih h.2) h.1
/-! ### promises -/
def sp_add_place : Sp := fun vs H Q _ => ∃ (g : Str) (p : Addr) (x : Nat) (L : List Nat) (m : Nat) (A : Nat → Prop), vs = [.str g, .ref p, .int (x : Int)] ∧ H p = some (.lst (nts L)) ∧ Up (tl g) L m A ∧ m ≤ x ∧ x ≤ (tl g).length ∧ (∀ y ∈ L, y ≤ (tl g).length) ∧ (tl g).length ≤ 10000 ∧
  ∀ (L' : List Nat) (H' : Hp), H' p = some (.lst (nts L')) → (∀ b, b ≠ p → H' b = H b) → Up (tl g) L' x (fun y => A y ∨ y = x) → (∀ y ∈ L', y ≤ (tl g).length) → Q .non H'
def sp_follows (K : PySem.W.Frag) : Sp := fun vs H Q _ => ∃ (g : Str) (a : Addr) (c : Nat) (ps : List Nat) (M : Nat → Prop), vs = [.str g, .ref a, .str (S [c])] ∧ SqT K H a (nts ps) ∧ Asd ps M ∧ closed (tl g) M ∧ within (tl g) M ∧ c ≠ 42 ∧ (tl g).length ≤ 10000 ∧
  ∀ (q : Addr) (qs : List Nat) (H' : Hp), Same H H' → H' q = some (.tup (nts qs)) → Asd qs (nxt (tl g) M c) → Q (.ref q) H'
def sp_standing (K : PySem.W.Frag) : Sp := fun vs H Q _ => ∃ (g b : Str), vs = [.str g, .str b] ∧ (∀ c ∈ tl b, c ≠ 42) ∧ (tl g).length ≤ 10000 ∧
  ∀ (q : Addr) (qs : List Nat) (H' : Hp), Same H H' → H' q = some (.tup (nts qs)) → Asd qs (stand (tl g) (tl b)) → Q (.ref q) H'
open Classical in
def sp_fits (K : PySem.W.Frag) : Sp := fun vs H Q _ => ∃ (g b : Str), vs = [.str g, .str b] ∧ (∀ c ∈ tl b, c ≠ 42) ∧ (tl g).length ≤ 10000 ∧
  ∀ (H' : Hp), Same H H' → Q (.bl (decide (stand (tl g) (tl b) (tl g).length))) H'
theorem inV_nts (n : Nat) (l : List Nat) : inV (V.int (n : Int)) (nts l) = decide (n ∈ l) := by
  unfold inV nts
  induction l with
  | nil => rfl
  | cons y ys ih =>
    rw [List.map_cons, List.any_cons, ih]
    by_cases e : n = y
    · subst e; simp [eqV]
    · have : ¬ (y : Int) = (n : Int) := fun h => e (by omega)
      simp [eqV, e, this]
theorem flat_nts (xs : List Nat) : (nts xs).all flatV = true := List.all_eq_true.mpr fun x h => by
  obtain ⟨y, _, rfl⟩ := List.mem_map.mp h; rfl
theorem DVs.nats {K : PySem.W.Frag} {H : Hp} (xs : List Nat) : DVs K H (xs.map fun k : Nat => D.int (k : Int)) (nts xs) := by
  have := DVs.ints (K := K) (H := H) (xs.map fun k : Nat => (k : Int))
  rwa [List.map_map, List.map_map] at this
theorem DV.nats {K : PySem.W.Frag} {H : Hp} {p : Addr} {xs : List Nat} (h : SqT K H p (nts xs)) : DV K H (.tup (xs.map fun k : Nat => D.int (k : Int))) (.ref p) := by
  unfold DV
  exact ⟨p, _, rfl, h, DVs.nats xs⟩
theorem DL.nats {n : Nat} (xs : List Nat) (h : xs.length ≤ 1000000) : DL (n + 2) (.tup (xs.map fun k : Nat => D.int (k : Int))) := ⟨by rw [List.length_map]; exact h, fun d m => by obtain ⟨x, _, rfl⟩ := List.mem_map.mp m; exact True.intro⟩
end Z
namespace Z
open PySem L2 SX
abbrev sgs (cs : List Nat) : List V := cs.map fun c => V.str (S [c])
def No42 (l : List Nat) : Prop := ∀ c ∈ l, c ≠ 42
def TabAt (K : PySem.W.Frag) (H : Hp) (R : Addr) (g b : List Nat) : Prop := ∃ ts : List Addr, SqL K H R (ts.map V.ref) ∧ ts.length = b.length + 1 ∧ ∀ (j : Nat) (t : Addr), ts[j]? = some t → ∃ qs, SqT K H t (nts qs) ∧ Asd qs (stand g (b.take j))
def sp__law_signs : Sp := fun vs H Q _ => ∃ (s a : Addr) (c : Nat), vs = [.ref s] ∧ Src H s a (c + 10) ∧
  ∀ (u : Addr) (cs : List Nat) (H' : Hp), H u = none → H' u = some (.lst (sgs cs)) → cs.length = 4 → No42 cs → Ext s H H' → Src H' s a c → Q (.ref u) H'
def sp__law_free_glob (K : PySem.W.Frag) : Sp := fun vs H Q _ => ∃ (s a u : Addr) (cs : List Nat) (m : Int) (c : Nat), vs = [.ref s, .ref u, .int m] ∧ SqL K H u (sgs cs) ∧ u ≠ s ∧ cs.length = 4 ∧ 0 < m ∧ m ≤ 60 ∧ Src H s a (c + 100) ∧
  ∀ (g : Str) (H' : Hp), (tl g).length ≤ 60 → Ext s H H' → Src H' s a c → Q (.str g) H'
def sp__law_put : Sp := fun vs H Q _ => ∃ (t : Str) (c : Nat), vs = [.str t, .str (S [c])] ∧ c ≠ 42 ∧ No42 (tl t) ∧ (tl t).length ≤ 9000 ∧ ∀ (y : Str) (H' : Hp), Same H H' → No42 (tl y) → (tl y).length ≤ (tl t).length + 1 → Q (.str y) H'
def sp__law_beginning (K : PySem.W.Frag) : Sp := fun vs H Q _ => ∃ (s a u : Addr) (g : Str) (cs : List Nat) (c : Nat), vs = [.ref s, .str g, .ref u] ∧ (tl g).length ≤ 60 ∧ H u = some (.lst (sgs cs)) ∧ u ≠ s ∧ cs.length = 4 ∧ No42 cs ∧ Src H s a (c + 1000) ∧
  ∀ (y : Str) (H' : Hp), No42 (tl y) → (tl y).length ≤ 200 → Ext s H H' → Src H' s a c → Q (.str y) H'
def sp__law_table (K : PySem.W.Frag) : Sp := fun vs H Q _ => ∃ (g b : Str), vs = [.str g, .str b] ∧ (tl g).length ≤ 60 ∧ (tl b).length ≤ 1000 ∧ ∀ (R : Addr) (H' : Hp), Same H H' → TabAt K H' R (tl g) (tl b) → Q (.ref R) H'
def sp__law_all_right (K : PySem.W.Frag) : Sp := fun vs H Q _ => ∃ (g b : Str) (R : Addr), vs = [.str g, .str b, .ref R] ∧ (tl g).length ≤ 60 ∧ (tl b).length ≤ 1000 ∧ No42 (tl b) ∧ TabAt K H R (tl g) (tl b) ∧ ∀ (H' : Hp), Same H H' → Q (.bl true) H'
theorem call_tupQ {X : Cx} {K : PySem.W.Frag} (h : X.K = K) : CallR X (.type "tuple") (fun xs H Q => ∃ p ys, xs = [.ref p] ∧ ((SqL K H p ys ∧ ∀ l, H l = none → Q (.ref l) (upd H l (.tup ys))) ∨ (SqT K H p ys ∧ Q (.ref p) H))) := by subst h; exact call_tuple_of
theorem ext_free {H H1 : Hp} {s a u : Addr} {c : Nat} (x : Ext s H H1) (S : Src H1 s a c) (h : H1 u = none) : H u = none := by
  cases e : H u with
  | none => rfl
  | some o =>
    by_cases q : u = s
    · subst q
      obtain ⟨xs, e2⟩ := S.lst
      rw [h] at e2; cases e2
    · have := x _ _ q e
      rw [h] at this; cases this
theorem joinL_mem {s : List Nat} : ∀ {ls : List (List Nat)} {c : Nat}, c ∈ TL.joinL s ls → c ∈ s ∨ ∃ l ∈ ls, c ∈ l
  | [], c, h => by cases h
  | [x], c, h => .inr ⟨x, by simp, h⟩
  | x :: y :: r, c, h => by
    have h' : c ∈ x ++ (s ++ TL.joinL s (y :: r)) := h
    rcases List.mem_append.mp h' with q | q
    · exact .inr ⟨x, by simp, q⟩
    · rcases List.mem_append.mp q with q | q
      · exact .inl q
      · rcases joinL_mem q with q | ⟨l, m, q⟩
        · exact .inl q
        · exact .inr ⟨l, List.mem_cons_of_mem _ m, q⟩
theorem joinL_len {s : List Nat} {n : Nat} : ∀ {ls : List (List Nat)}, (∀ l ∈ ls, l.length ≤ n) → (TL.joinL s ls).length ≤ ls.length * (n + s.length)
  | [], _ => by simp [TL.joinL]
  | [x], h => by have := h x (by simp); show x.length ≤ 1 * (n + s.length); omega
  | x :: y :: r, h => by
    have ih := joinL_len (s := s) (ls := y :: r) (fun l m => h l (List.mem_cons_of_mem _ m))
    have := h x (by simp)
    show (x ++ (s ++ TL.joinL s (y :: r))).length ≤ ((y :: r).length + 1) * (n + s.length)
    rw [List.length_append, List.length_append, Nat.succ_mul]
    omega
theorem tl_joinS (s : Str) (xs : List Str) : tl (Txt.join s xs) = TL.joinL (tl s) (xs.map tl) := by
  have h := join_S (tl s) (xs.map tl)
  rw [tl_mapS] at h
  exact congrArg tl h
theorem sum_len {n : Nat} : ∀ {xs : List Str}, (∀ x ∈ xs, (tl x).length ≤ n) → (xs.map (·.length)).sum ≤ xs.length * n
  | [], _ => by simp
  | x :: xs, h => by
    have := h x (by simp)
    have ih := sum_len (n := n) (xs := xs) (fun y m => h y (List.mem_cons_of_mem _ m))
    rw [List.map_cons, List.sum_cons, List.length_cons, Nat.succ_mul, tl_len]; omega
theorem strike_len (c : Nat) : ∀ {l : List Nat}, l.Nodup → l.length ≤ (l.filter (· != c)).length + 1
  | [], _ => by simp
  | x :: r, h => by
    have hh := List.nodup_cons.mp h
    by_cases e : x = c
    · subst e
      have : r.filter (· != x) = r := List.filter_eq_self.mpr fun y hy => by
        have : y ≠ x := fun e => hh.1 (e ▸ hy)
        simp [this]
      rw [List.filter_cons_of_neg (by simp), this, List.length_cons]; exact Nat.le_refl _
    · rw [List.filter_cons_of_pos (by simp [e]), List.length_cons, List.length_cons]
      have := strike_len c hh.2
      omega
theorem tl_strike (z : Str) (c : Nat) : tl (Txt.replace z ⟨#[c]⟩ (Str.ofString "")) = (tl z).filter (· != c) := PyProof.Rows.replace_strikes z c
theorem cut_le (x : Str) (i j : Option Int) : (tl (cutS x i j)).length ≤ (tl x).length := by
  show ((List.drop _ (tl x)).take _).length ≤ _
  rw [List.length_take, List.length_drop]; omega
theorem cut_mem (x : Str) (i j : Option Int) : ∀ c ∈ tl (cutS x i j), c ∈ tl x := fun c h => by
  have h' : c ∈ (List.drop _ (tl x)).take _ := h
  exact List.mem_of_mem_drop (List.mem_of_mem_take h')
theorem No42.app {a b : List Nat} (x : No42 a) (y : No42 b) : No42 (a ++ b) := fun c h => (List.mem_append.mp h).elim (x c) (y c)
noncomputable def dB (M : Nat → Prop) (y : Nat) : Bool := @decide (M y) (Classical.propDecidable _)
theorem dB_iff {M : Nat → Prop} {y : Nat} : dB M y = true ↔ M y := ⟨fun h => @of_decide_eq_true _ (Classical.propDecidable _) h, fun h => @decide_eq_true _ (Classical.propDecidable _) h⟩
theorem dB_eq {M : Nat → Prop} {y : Nat} {b : Bool} (h : M y ↔ b = true) : dB M y = b := by
  rw [Bool.eq_iff_iff, dB_iff]; exact h
theorem take_pred {b : List Nat} {j : Nat} (h0 : 0 < j) (h : j ≤ b.length) : ∃ c, b[j - 1]? = some c ∧ b.take j = b.take (j - 1) ++ [c] := by
  obtain ⟨i, rfl⟩ : ∃ i, j = i + 1 := ⟨j - 1, by omega⟩
  have hi : i < b.length := by omega
  refine ⟨b[i], List.getElem?_eq_getElem hi, ?_⟩
  show b.take (i + 1) = b.take i ++ [b[i]]
  rw [List.take_add_one, List.getElem?_eq_getElem hi]; rfl
theorem tab_zero {g b : List Nat} {j : Nat} (h : j ≤ b.length) : stand g (b.take j) 0 ↔ j = 0 := by
  by_cases e : j = 0
  · subst e; rw [List.take_zero]; exact ⟨fun _ => rfl, fun _ => True.intro⟩
  · obtain ⟨c, _, e2⟩ := take_pred (by omega) h
    rw [e2, stand_snoc]
    exact ⟨fun h => h.elim, fun h => absurd h e⟩
theorem tab_star {g b : List Nat} {i j : Nat} (h : j ≤ b.length) (hg : g[i]? = some 42) : stand g (b.take j) (i + 1) ↔ stand g (b.take j) i ∨ (0 < j ∧ stand g (b.take (j - 1)) (i + 1)) := by
  by_cases e : j = 0
  · subst e
    rw [List.take_zero, stand_nil]
    exact ⟨fun h => .inl h.2, fun h => h.elim (fun k => ⟨hg, k⟩) fun k => absurd k.1 (by decide)⟩
  · obtain ⟨c, _, e2⟩ := take_pred (by omega) h
    rw [e2, stand_snoc]
    constructor
    · rintro (⟨_, k | k⟩ | ⟨k, _⟩)
      · exact .inl k
      · exact .inr ⟨by omega, k⟩
      · exact absurd hg k
    · rintro (k | ⟨_, k⟩)
      · exact .inl ⟨hg, .inl k⟩
      · exact .inl ⟨hg, .inr k⟩
theorem tab_else {g b : List Nat} {i j d : Nat} (h : j ≤ b.length) (hg : g[i]? = some d) (hd : d ≠ 42) : stand g (b.take j) (i + 1) ↔ 0 < j ∧ stand g (b.take (j - 1)) i ∧ (d = 63 ∨ b[j - 1]? = some d) := by
  have n42 : g[i]? ≠ some 42 := fun e => hd (by rw [hg] at e; exact Option.some.inj e)
  by_cases e : j = 0
  · subst e
    rw [List.take_zero, stand_nil]
    exact ⟨fun h => absurd h.1 n42, fun h => absurd h.1 (by decide)⟩
  · obtain ⟨c, hc, e2⟩ := take_pred (by omega) h
    rw [e2, stand_snoc, hc]
    constructor
    · rintro (⟨k, _⟩ | ⟨_, k, l⟩)
      · exact absurd k n42
      · refine ⟨by omega, k, ?_⟩
        rw [hg] at l
        rcases l with l | l
        · exact .inl (Option.some.inj l)
        · exact .inr l.symm
    · rintro ⟨_, k, l⟩
      refine .inr ⟨n42, k, ?_⟩
      rw [hg]
      rcases l with l | l
      · exact .inl (by rw [l])
      · exact .inr l.symm
def RowsOk (H : Hp) (g b : List Nat) (rs : List Addr) : Prop := ∀ (k : Nat) (t : Addr), rs[k]? = some t → ∃ bs : List Bool, H t = some (.lst (bs.map V.bl)) ∧ bs.length = g.length + 1 ∧ ∀ y, y ≤ g.length → bs[y]? = some (dB (stand g (b.take k)) y)
theorem RowsOk.put {H : Hp} {g b : List Nat} {rs : List Addr} {W : Addr} {o : HO} (h : RowsOk H g b rs) (n : W ∉ rs) : RowsOk (upd H W o) g b rs := fun k t ht => by
  obtain ⟨bs, q, r⟩ := h k t ht
  refine ⟨bs, ?_, r⟩
  have tW : t ≠ W := fun e => n (by rw [← e]; exact List.mem_of_getElem? ht)
  rw [upd_ne tW]; exact q
theorem RowsOk.same {H H' : Hp} {g b : List Nat} {rs : List Addr} (h : RowsOk H g b rs) (m : Same H H') : RowsOk H' g b rs := fun k t ht => by
  obtain ⟨bs, q, r⟩ := h k t ht
  exact ⟨bs, m _ _ q, r⟩
/-- a row that grows -/
def TIn (H : Hp) (g b : List Nat) (R : Addr) (rs : List Addr) (W : Addr) (j i : Nat) (H' : Hp) : Prop := (∃ bs : List Bool, H' W = some (.lst (bs.map V.bl)) ∧ bs.length = i + 1 ∧ ∀ y, y ≤ i → bs[y]? = some (dB (stand g (b.take j)) y)) ∧ H' R = some (.lst (rs.map V.ref)) ∧ RowsOk H' g b rs ∧ Same H H'
theorem TIn.step {H : Hp} {g b : List Nat} {R : Addr} {rs : List Addr} {W : Addr} {j i : Nat} {H' : Hp} {bs : List Bool} {v : Bool} (hb : H' W = some (.lst (bs.map V.bl))) (hl : bs.length = i + 1) (hy : ∀ y, y ≤ i → bs[y]? = some (dB (stand g (b.take j)) y))
    (hR : H' R = some (.lst (rs.map V.ref))) (hr : RowsOk H' g b rs) (m : Same H H') (n : W ∉ rs) (RW : R ≠ W) (hW : H W = none) (hv : dB (stand g (b.take j)) (i + 1) = v) : TIn H g b R rs W j (i + 1) (upd H' W (.lst (bs.map V.bl ++ [V.bl v]))) := by
  refine ⟨⟨bs ++ [v], by rw [upd_same, List.map_append]; rfl, by rw [List.length_append, hl]; rfl, fun y h => ?_⟩, by rw [upd_ne RW]; exact hR, hr.put n, fun u o h => by rw [upd_ne (ne_of_none h hW)]; exact m _ _ h⟩
  by_cases e : y = i + 1
  · subst e
    rw [List.getElem?_append_right (by omega), hl, Nat.sub_self, hv]; rfl
  · rw [List.getElem?_append_left (by omega)]; exact hy y (by omega)
theorem asd_range {M : Nat → Prop} {g : List Nat} (w : within g M) : Asd ((List.range (g.length + 1)).filter (dB M)) M := by
  refine ⟨List.pairwise_lt_range.filter _, fun y => ?_⟩
  rw [List.mem_filter, List.mem_range, dB_iff]
  exact ⟨fun h => h.2, fun h => ⟨by have := w y h; omega, h⟩⟩
theorem rows_self {H : Hp} {g b : List Nat} {rs : List Addr} {R : Addr} (h : RowsOk H g b rs) (hR : H R = some (.lst (rs.map V.ref))) : R ∉ rs := fun m => by
  obtain ⟨k, hk⟩ := List.getElem?_of_mem m
  obtain ⟨bs, q, l, _⟩ := h k R hk
  rw [hR] at q
  injection q with q
  injection q with q
  cases bs with
  | nil => cases l
  | cons x bs =>
    cases rs with
    | nil => cases q
    | cons t rs =>
      injection q with q _
      cases q
theorem filt_succ (p : Nat → Bool) (k : Nat) : (List.range (k + 1)).filter p = if p k = true then (List.range k).filter p ++ [k] else (List.range k).filter p := by
  rw [List.range_succ, List.filter_append]
  by_cases h : p k = true
  · rw [if_pos h, List.filter_cons_of_pos h]; rfl
  · rw [if_neg h, List.filter_cons_of_neg h, List.filter_nil, List.append_nil]
theorem TabAt.same {K : PySem.W.Frag} {H H' : Hp} {R : Addr} {g b : List Nat} (h : TabAt K H R g b) (m : Same H H') : TabAt K H' R g b := by
  obtain ⟨ts, h1, h2, h3⟩ := h
  refine ⟨ts, m.seq h1, h2, fun j t ht => ?_⟩
  obtain ⟨qs, q1, q2⟩ := h3 j t ht
  exact ⟨qs, m.tup q1, q2⟩
theorem rep_no {c k : Nat} (h : c ≠ 42) : No42 (rep k [c]) := fun d hd => by
  unfold rep at hd
  obtain ⟨l, hl, hm⟩ := List.mem_flatten.mp hd
  rw [(List.mem_replicate.mp hl).2] at hm
  rw [List.mem_singleton.mp hm]; exact h
end Z
namespace Z
open PySem L2
section
variable {P : Program} {w : World} {K : PySem.W.Frag} {mg : Str → Option Value} {base : Heap}
theorem ok__law_mix (D : Df K mg "_law_mix" s__law_mix ["seed", "turn"]) (T : Tx mg) : Cal P w K mg base "_law_mix" ["seed", "turn"] 1 sp__law_mix := by
  obtain ⟨f, fd, F, gf, bf⟩ := D
  refine ⟨f, fd, F.ok sc__law_mix (fun vs H Q E h => ?_) (fun cdv A outer s H vs Q E hr h => ?_), gf, F.kp, bf⟩
  · obtain ⟨x, y, rfl, _⟩ := h; rfl
  · obtain ⟨x, y, rfl, x0, x1, y0, y1, q⟩ := h
    refine ⟨_, (pss_cons (ps_set (i := 2) sc__law_mix.nd rfl (Or.inl rfl) (pe_op op_mod (pe_callTy call_int1 (by rfl) T.n_int (by decide +kernel) (pa_cons (pe_op op_add (pe_op op_add (pe_op op_mul (pv 0) pe_int) (pe_op op_mul (pv 1) pe_int)) pe_int) pa_nil)) pe_int))
      (pss_cons (ps_set (i := 2) sc__law_mix.nd rfl (Or.inl rfl) (pe_op op_mod (pe_callTy call_int1 (by rfl) T.n_int (by decide +kernel) (pa_cons (pe_op op_add (pe_op op_add (pe_op op_mul (pv 2) (pv 2)) (pe_op op_mul (pv 1) pe_int)) pe_int) pa_nil)) pe_int))
      (pss_cons (ps_set (i := 2) sc__law_mix.nd rfl (Or.inl rfl) (pe_op op_mod (pe_callTy call_int1 (by rfl) T.n_int (by decide +kernel) (pa_cons (pe_op op_add (pe_op op_add (pe_op op_mul (pv 2) pe_int) (pe_op op_mul (pe_op op_mul (pv 1) (pv 1)) pe_int)) pe_int) pa_nil)) pe_int))
      (pss_one (ps_ret (pv 2)))))), ?_⟩

    refine ⟨_, rfl, _, _, rfl, rfl, .inr (by decide), _, rfl, _, _, rfl, rfl, .inr (by decide), _, _, rfl, rfl, _, _, rfl, rfl, .inl ⟨_, rfl, _, _, rfl, rfl, (by show (0 : Int) < _; decide), ?_⟩⟩
    refine ⟨_, rfl, _, rfl, _, _, rfl, rfl, .inl ⟨by omega, by omega⟩, _, rfl, _, _, rfl, rfl, .inr (by decide), _, _, rfl, rfl, _, _, rfl, rfl, .inl ⟨_, rfl, _, _, rfl, rfl, (by show (0 : Int) < _; decide), ?_⟩⟩
    refine ⟨_, rfl, _, _, rfl, rfl, .inr (by decide), _, rfl, _, rfl, _, _, rfl, rfl, .inl ⟨by omega, by omega⟩, _, _, rfl, rfl, .inr (by decide), _, _, rfl, rfl, _, _, rfl, rfl, .inl ⟨_, rfl, _, _, rfl, rfl, (by show (0 : Int) < _; decide), ?_⟩⟩
    exact ⟨_, rfl, q _ (Int.emod_nonneg _ (by decide)) (by omega)⟩
end
end Z
namespace Z
open PySem L2
section
variable {P : Program} {w : World} {K : PySem.W.Frag} {mg : Str → Option Value} {base : Heap}
theorem ok__law_source (D : Df K mg "_law_source" s__law_source ["script"]) (T : Tx mg) (C__law_mix : Cal P w K mg base "_law_mix" ["seed", "turn"] 1 sp__law_mix) : Cal P w K mg base "_law_source" ["script"] 2 (sp__law_source K) := by
  obtain ⟨f__law_mix, fd__law_mix, G__law_mix, g__law_mix, k__law_mix, b__law_mix⟩ := C__law_mix
  obtain ⟨f, fd, F, gf, bf⟩ := D
  refine ⟨f, fd, F.ok sc__law_source (fun vs H Q E h => ?_) (fun cdv A outer s H vs Q E hr h => ?_), gf, F.kp, bf⟩
  · obtain ⟨a, ns, rfl, _⟩ := h; rfl
  · obtain ⟨a, ns, rfl, hS, hlen, q⟩ := h
    refine ⟨_, (pss_cons (ps_set (i := 1) sc__law_source.nd rfl (Or.inl rfl) pe_int)
      (pss_cons (ps_for PassesOwn.never rfl (pi_range1 (by rfl) T.n_range (pa_cons (pe_callB call_len_seq (by rfl) T.n_len PySem.boot_len (pa_cons (pv 0) pa_nil)) pa_nil)) (pg_name (i := 2) sc__law_source.nd rfl (Or.inl rfl))
      (pss_one (ps_set (i := 1) sc__law_source.nd rfl (Or.inl rfl) (pe_call G__law_mix (hr.mono (by decide)) (by rfl) g__law_mix k__law_mix b__law_mix .nil pass0 (pa_cons (pe_op op_add (pv 1) (pe_op op_mod (pe_callTy call_int1 (by rfl) T.n_int (by decide +kernel) (pa_cons (pe_ix ix_list (pv 0) (pv 2) (fun _ _ => rfl)) pa_nil)) pe_int)) (pa_cons (pv 2) pa_nil))))))
      (pss_one (ps_ret (pe_lst (pa_cons (pe_callTy call_list_of (by rfl) T.n_list (by decide +kernel) (pa_cons (pv 0) pa_nil)) (pa_cons pe_int (pa_cons pe_int (pa_cons (pv 1) (pa_cons pe_int pa_nil)))))))))), ?_⟩
    refine ⟨_, rfl, a, _, rfl, .inl hS, _, rfl, by rw [List.length_map]; omega, by rw [List.length_map]; omega, ?_⟩
    refine for_range (lo := 0) (n := (((ns.map V.int).length : Int)).toNat) (fun i σ H' => ∃ (e : Int) (v : Option V), σ = [some (.ref a), some (.int e), v] ∧ H' = H ∧ 0 ≤ e ∧ e < 2147483647) ⟨17, none, rfl, rfl, by decide, by decide⟩ ?_ ?_
    · rintro i σ H' hi ⟨e, v, rfl, rfl, e0, e1⟩
      rw [List.length_map] at hi
      have hi' : i < ns.length := by omega
      refine ⟨_, rfl, _, rfl, _, rfl, a, _, _, .int ns[i], rfl, rfl, hS, ?_, .inl ⟨_, rfl, _, _, rfl, rfl, (by show (0 : Int) < _; decide), _, _, rfl, rfl, _, rfl, ?_⟩⟩
      · rw [Int.zero_add]
        exact atI_nat (by rw [List.getElem?_map, List.getElem?_eq_getElem hi']; rfl)
      · refine ⟨_, _, rfl, ?_, ?_, ?_, ?_, fun v v0 v1 => ?_⟩
        · have := Int.emod_nonneg ns[i] (by decide : (2147483647 : Int) ≠ 0); omega
        · have := Int.emod_lt_of_pos ns[i] (by decide : (0 : Int) < 2147483647); omega
        · omega
        · omega
        · exact ⟨v, _, rfl, rfl, v0, v1⟩
    · rintro σ H' ⟨e, v, rfl, rfl, e0, e1⟩
      refine ⟨_, rfl, a, _, rfl, .inl hS, fun l hl => ?_⟩
      refine ⟨_, rfl, by show 5 ≤ sizeLine; decide, fun s hs => ?_⟩
      have hsl : s ≠ l := fun z => by rw [z, upd_same] at hs; cases hs
      have hs0 : H' s = none := by rw [upd_ne hsl] at hs; exact hs
      refine q s l _ hs0 ((same_new hl).trans (same_new hs)) ⟨ns, 0, 0, e, 0, upd_same, by rw [upd_ne hsl.symm, upd_same], hsl.symm, hlen, by decide, by decide, by decide, e0, e1, by decide, by decide⟩
end
end Z
namespace Z
open PySem L2
section
variable {P : Program} {w : World} {K : PySem.W.Frag} {mg : Str → Option Value} {base : Heap}
theorem ok__law_draw (D : Df K mg "_law_draw" s__law_draw ["source", "many"]) (T : Tx mg) (C__law_mix : Cal P w K mg base "_law_mix" ["seed", "turn"] 1 sp__law_mix) : Cal P w K mg base "_law_draw" ["source", "many"] 2 sp__law_draw := by
  obtain ⟨f__law_mix, fd__law_mix, G__law_mix, g__law_mix, k__law_mix, b__law_mix⟩ := C__law_mix
  obtain ⟨f, fd, F, gf, bf⟩ := D
  refine ⟨f, fd, F.ok sc__law_draw (fun vs H Q E h => ?_) (fun cdv A outer s H vs Q E hr h => ?_), gf, F.kp, bf⟩
  · obtain ⟨s, a, m, c, rfl, _⟩ := h; rfl
  · obtain ⟨s, a, m, c, rfl, m0, m1, hS, q⟩ := h
    refine ⟨_, (C8.pss_cut (ps_if (PW.pt (pw_and (pt_cmpR op_eq (pe_ix ix_list (pv 0) pe_int (fun _ _ => rfl)) pe_int (nomark _)) (pw_and (pt_cmpR op_lt (pe_ix ix_list (pv 0) pe_int (fun _ _ => rfl)) (pe_callB call_len_seq (by rfl) T.n_len PySem.boot_len (pa_cons (pe_ix ix_list (pv 0) pe_int (fun _ _ => rfl)) pa_nil)) (nomark _)) (pw_and1 (pt_cmpR op_eq (pe_op op_mod (pe_callTy call_int1 (by rfl) T.n_int (by decide +kernel) (pa_cons (pe_ix ix_list (pv 0) pe_int (fun _ _ => rfl)) pa_nil)) pe_int) pe_int (nomark _))))))
      (pss_cons (ps_set (i := 2) sc__law_draw.nd rfl (Or.inl rfl) (pe_ix ix_list (pe_ix ix_list (pv 0) pe_int (fun _ _ => rfl)) (pe_ix ix_list (pv 0) pe_int (fun _ _ => rfl)) (fun _ _ => rfl)))
        (pss_cons (ps_asg (pe_op op_add (pe_ix ix_list (pv 0) pe_int (fun _ _ => rfl)) pe_int) (pg_sub (pv 0) pe_int set_list))
        (pss_one (ps_if (pt_cmpR op_ge (pe_callB call_abs (by rfl) T.n_abs (by decide +kernel) (pa_cons (pv 2) pa_nil)) (pe_op op_pow pe_int pe_int) (nomark _))
        (pss_one (ps_asg (pe_op op_and (pe_callB call_abs (by rfl) T.n_abs (by decide +kernel) (pa_cons (pv 2) pa_nil)) (pe_op op_sub (pe_op op_shl pe_int pe_int) pe_int)) (pg_sub (pv 0) pe_int set_list)))
        (pss_one (ps_asg (pe_call G__law_mix (hr.mono (by decide)) (by rfl) g__law_mix k__law_mix b__law_mix .nil pass0 (pa_cons (pe_op op_add (pe_ix ix_list (pv 0) pe_int (fun _ _ => rfl)) (pe_op op_mod (pe_callTy call_int1 (by rfl) T.n_int (by decide +kernel) (pa_cons (pv 2) pa_nil)) pe_int)) (pa_cons (pe_ix ix_list (pv 0) pe_int (fun _ _ => rfl)) pa_nil))) (pg_sub (pv 0) pe_int set_list)))))))
      pss_nil)
      (pss_cons (ps_if (pt_cmpR op_gt (pe_ix ix_list (pv 0) pe_int (fun _ _ => rfl)) pe_int (nomark _))
      (pss_cons (ps_set (i := 3) sc__law_draw.nd rfl (Or.inl rfl) (pe_op op_mod (pe_callTy call_int1 (by rfl) T.n_int (by decide +kernel) (pa_cons (pe_ix ix_list (pv 0) pe_int (fun _ _ => rfl)) pa_nil)) (pv 1)))
        (pss_cons (ps_asg (pe_op op_fdivN (pe_callTy call_int1 (by rfl) T.n_int (by decide +kernel) (pa_cons (pe_ix ix_list (pv 0) pe_int (fun _ _ => rfl)) pa_nil)) (pv 1)) (pg_sub (pv 0) pe_int set_list))
        (pss_one (ps_ret (pv 3)))))
      pss_nil)
      (pss_cons (ps_asg (pe_op op_add (pe_ix ix_list (pv 0) pe_int (fun _ _ => rfl)) pe_int) (pg_sub (pv 0) pe_int set_list))
      (pss_one (ps_ret (pe_op op_mod (pe_callTy call_int1 (by rfl) T.n_int (by decide +kernel) (pa_cons (pe_op op_fdiv (pe_call G__law_mix (hr.mono (by decide)) (by rfl) g__law_mix k__law_mix b__law_mix .nil pass0 (pa_cons (pe_ix ix_list (pv 0) pe_int (fun _ _ => rfl)) (pa_cons (pe_ix ix_list (pv 0) pe_int (fun _ _ => rfl)) pa_nil))) pe_int) pa_nil)) (pv 1))))))), ?_⟩
    refine ⟨fun σ' H' => (∃ v2 v3, σ' = [some (.ref s), some (.int m), v2, v3]) ∧ Src H' s a (c + 1) ∧ Ext s H H', ?_, ?_⟩
    · obtain ⟨ns, i, b, e, t, h1, h2, as, h4, h5, h6, h7, h8, h9, h10, h11⟩ := id hS
      have hL : SqL K H s [.ref a, .int i, .int b, .int e, .int t] := SqL.of h1
      refine ⟨_, rfl, _, _, _, _, rfl, rfl, hL, rfl, rfl, _, rfl, ite2 (fun c1 => ?_) (fun c1 => iteF ⟨⟨_, _, rfl⟩, hS, Ext.refl _ _⟩)⟩
      refine ⟨_, rfl, _, _, _, _, rfl, rfl, hL, rfl, _, rfl, _, _, _, _, rfl, rfl, hL, rfl, a, _, rfl, .inl (SqL.of h2), _, _, rfl, rfl, _, rfl, ite2 (fun c2 => ?_) (fun c2 => iteF ⟨⟨_, _, rfl⟩, hS, Ext.refl _ _⟩)⟩
      refine ⟨_, rfl, _, _, _, _, rfl, rfl, hL, rfl, .inl ⟨_, rfl, _, _, rfl, rfl, (by show (0 : Int) < 6; decide), rfl, _, rfl, ite2 (fun c3 => ?_) (fun c3 => ⟨⟨_, _, rfl⟩, hS, Ext.refl _ _⟩)⟩⟩
      have hi : i < ns.length := by
        have := of_decide_eq_true c2
        rw [List.length_map] at this
        exact this
      have hi' : i.toNat < ns.length := by omega
      -- cell = source[0][source[1]]
      refine ⟨_, rfl, _, _, _, _, rfl, rfl, hL, rfl, _, rfl, _, _, _, _, rfl, rfl, hL, rfl, a, _, _, .int ns[i.toNat], rfl, rfl, SqL.of h2, at_of (j := i.toNat) (by omega) (by rw [List.getElem?_map, List.getElem?_eq_getElem hi']; rfl), ?_⟩
      -- source[1] = source[1] + 1
      refine ⟨_, rfl, _, _, _, _, rfl, rfl, hL, rfl, _, _, rfl, rfl, _, rfl, _, _, _, 1, rfl, rfl, h1, rfl, ?_⟩
      refine ⟨_, rfl, _, rfl, _, _, rfl, rfl, ⟨by decide, by decide, by decide⟩, _, _, rfl, rfl, _, rfl, ite2 (fun c4 => ?_) (fun c4 => ?_)⟩
      · refine ⟨_, rfl, _, rfl, _, _, rfl, rfl, ⟨by decide, by decide, by decide⟩, _, _, rfl, rfl, _, _, rfl, rfl, _, rfl, _, _, _, 2, rfl, rfl, upd_same, rfl, ?_⟩
        refine ⟨⟨_, _, rfl⟩, ?_, ?_⟩
        · refine ⟨ns, i + 1, _, e, t, upd_same, by rw [upd_ne as, upd_ne as]; exact h2, as, h4, by omega, by omega, ?_, h8, h9, h10, h11⟩
          exact and_nn (by split <;> omega) _
        · exact Ext.put.trans Ext.put
      · refine ⟨_, rfl, _, _, _, _, rfl, rfl, SqL.of upd_same, rfl, _, rfl, .inl ⟨_, rfl, _, _, rfl, rfl, (by show (0 : Int) < 2147483647; decide), _, _, rfl, rfl, _, rfl, _, _, _, _, rfl, rfl, SqL.of upd_same, rfl, _, _, rfl, ?_, ?_, ?_, ?_, fun v v0 v1 => ?_⟩⟩
        · have := Int.emod_nonneg ns[i.toNat] (by decide : (2147483647 : Int) ≠ 0); omega
        · have := Int.emod_lt_of_pos ns[i.toNat] (by decide : (0 : Int) < 2147483647); omega
        · omega
        · omega
        · refine ⟨_, rfl, _, _, _, 3, rfl, rfl, upd_same, rfl, ⟨_, _, rfl⟩, ?_, Ext.put.trans Ext.put⟩
          exact ⟨ns, i + 1, b, v, t, upd_same, by rw [upd_ne as, upd_ne as]; exact h2, as, h4, by omega, by omega, h7, v0, v1, h10, h11⟩
    · rintro σ' H' ⟨⟨v2, v3, rfl⟩, hS', hx⟩
      obtain ⟨ns, i, b, e, t, h1, h2, as, h4, h5, h6, h7, h8, h9, h10, h11⟩ := id hS'
      have hL : SqL K H' s [.ref a, .int i, .int b, .int e, .int t] := SqL.of h1
      refine ⟨_, rfl, _, _, _, _, rfl, rfl, hL, rfl, _, _, rfl, rfl, _, rfl, ite2 (fun c1 => ?_) (fun c1 => ?_)⟩
      · refine ⟨_, rfl, _, _, _, _, rfl, rfl, hL, rfl, .inl ⟨_, rfl, _, rfl, _, _, rfl, rfl, m0, ?_⟩⟩
        refine ⟨_, rfl, _, _, _, _, rfl, rfl, hL, rfl, .inl ⟨_, rfl, _, rfl, _, _, rfl, rfl, ⟨by omega, by omega⟩, _, rfl, _, _, _, 2, rfl, rfl, h1, rfl, ?_⟩⟩
        refine ⟨_, rfl, q _ _ (Int.emod_nonneg _ (by omega)) (Int.emod_lt_of_pos _ m0) (hx.trans Ext.put) ?_⟩
        refine ⟨ns, i, _, e, t, upd_same, by rw [upd_ne as]; exact h2, as, h4, h5, h6, ?_, h8, h9, h10, by omega⟩
        exact Int.fdiv_nonneg h7 (by omega)
      · refine ⟨_, rfl, _, _, _, _, rfl, rfl, hL, rfl, _, _, rfl, rfl, _, rfl, _, _, _, 4, rfl, rfl, h1, rfl, ?_⟩
        refine ⟨_, rfl, _, _, _, _, rfl, rfl, SqL.of upd_same, rfl, _, rfl, _, _, _, _, rfl, rfl, SqL.of upd_same, rfl, _, _, rfl, h8, by omega, by omega, by omega, fun v v0 v1 => ?_⟩
        refine ⟨_, _, rfl, rfl, ⟨by decide, by decide⟩, .inl ⟨_, rfl, _, rfl, _, _, rfl, rfl, m0, ?_⟩⟩
        refine q _ _ (Int.emod_nonneg _ (by omega)) (Int.emod_lt_of_pos _ m0) (hx.trans Ext.put) ?_
        exact ⟨ns, i, b, e, t + 1, upd_same, by rw [upd_ne as]; exact h2, as, h4, h5, h6, h7, h8, h9, by omega, by omega⟩
end
end Z
namespace Z
open PySem L2
section
variable {P : Program} {w : World} {K : PySem.W.Frag} {mg : Str → Option Value} {base : Heap}
theorem ok__law_is_int (D : Df K mg "_law_is_int" s__law_is_int ["value"]) (T : Tx mg)  : Cal P w K mg base "_law_is_int" ["value"] 1 (sp__law_is_int K) := by
  obtain ⟨f, fd, F, gf, bf⟩ := D
  refine ⟨f, fd, F.ok sc__law_is_int (fun vs H Q E h => ?_) (fun cdv A outer s H vs Q E hr h => ?_), gf, F.kp, bf⟩
  · obtain ⟨i, rfl, _⟩ := h; rfl
  · obtain ⟨i, rfl, q⟩ := h
    refine ⟨_, (pss_one (ps_ret (pe_and (pe_callB call_isi (by rfl) T.n_isinstance (by decide +kernel) (pa_cons (pv 0) (pa_cons (pe_bltn (v := .ty "int") (by rfl) T.n_int (by decide +kernel) rfl) pa_nil))) (pe_one (pe_not (pe_callB call_isi (by rfl) T.n_isinstance (by decide +kernel) (pa_cons (pv 0) (pa_cons (pe_bltn (v := .ty "bool") (by rfl) T.n_bool (by decide +kernel) rfl) pa_nil)))))))), ?_⟩
    refine ⟨_, rfl, _, _, _, _, true, rfl, .ty _, .base (.int i), kit_ty (by decide +kernel), _, rfl, ?_⟩
    refine iteT ⟨_, rfl, _, _, _, _, false, rfl, .ty _, .base (.int i), kit_ty (by decide +kernel), _, rfl, q⟩

theorem ok__law_same (D : Df K mg "_law_same" s__law_same ["actual", "due"]) (T : Tx mg) (C__law_is_int : Cal P w K mg base "_law_is_int" ["value"] 1 (sp__law_is_int K)) : ∀ n, Cal P w K mg base "_law_same" ["actual", "due"] (n + 1) (sp__law_same K n)
  | 0 => by
    obtain ⟨f, fd, F, gf, bf⟩ := D
    exact ⟨f, fd, ⟨fun vs H Q E h => by obtain ⟨_, _, _, _, _, _, h, _⟩ := h; exact h.elim, fun A outer s H args us vs Q E _ _ _ _ h => by obtain ⟨_, _, _, _, _, _, h, _⟩ := h; exact h.elim⟩, gf, F.kp, bf⟩
  | n + 1 => by
    obtain ⟨f__law_same, fd__law_same, G__law_same, g__law_same, k__law_same, b__law_same⟩ := ok__law_same D T C__law_is_int n
    obtain ⟨f__law_is_int, fd__law_is_int, G__law_is_int, g__law_is_int, k__law_is_int, b__law_is_int⟩ := C__law_is_int
    obtain ⟨f, fd, F, gf, bf⟩ := D
    refine ⟨f, fd, F.ok sc__law_same (fun vs H Q E h => ?_) (fun cdv A outer s H vs Q E hr h => ?_), gf, F.kp, bf⟩
    · obtain ⟨d, v, u, rfl, _⟩ := h; rfl
    · obtain ⟨d, v, u, rfl, hv, hu, hd, q⟩ := h
      refine ⟨_, (pss_cons (ps_if (pt_val (pe_callB call_isi (by rfl) T.n_isinstance (by decide +kernel) (pa_cons (pv 1) (pa_cons (pe_bltn (v := .ty "tuple") (by rfl) T.n_tuple (by decide +kernel) rfl) pa_nil))))
      (pss_cons (ps_if (PW.pt (pw_or (pt_not (pt_val (pe_callB call_isi (by rfl) T.n_isinstance (by decide +kernel) (pa_cons (pv 0) (pa_cons (pe_bltn (v := .ty "tuple") (by rfl) T.n_tuple (by decide +kernel) rfl) pa_nil))))) (pw_or1 (pt_cmpR op_ne (pe_callB call_len_seq (by rfl) T.n_len PySem.boot_len (pa_cons (pv 0) pa_nil)) (pe_callB call_len_seq (by rfl) T.n_len PySem.boot_len (pa_cons (pv 1) pa_nil)) (nomark _)))))
        (pss_one (ps_ret pe_bl))
        pss_nil)
        (pss_cons (ps_for PassesOwn.never rfl (pi_range1 (by rfl) T.n_range (pa_cons (pe_callB call_len_seq (by rfl) T.n_len PySem.boot_len (pa_cons (pv 1) pa_nil)) pa_nil)) (pg_name (i := 2) sc__law_same.nd rfl (Or.inl rfl))
        (pss_one (ps_if (pt_not (pt_val (pe_call G__law_same hr (by rfl) g__law_same k__law_same b__law_same .nil pass0 (pa_cons (pe_ix ix_tup (pv 0) (pv 2) (fun _ _ => rfl)) (pa_cons (pe_ix ix_tup (pv 1) (pv 2) (fun _ _ => rfl)) pa_nil)))))
          (pss_one (ps_ret pe_bl))
          pss_nil)))
        (pss_one (ps_ret pe_bl))))
      pss_nil)
      (pss_cons (ps_if (pt_cmpR op_isN (pv 1) pe_non (nomark _))
      (pss_one (ps_ret (pe_cmpR op_isN (pv 0) pe_non (nomark _))))
      pss_nil)
      (pss_cons (ps_if (pt_val (pe_callB call_isi (by rfl) T.n_isinstance (by decide +kernel) (pa_cons (pv 1) (pa_cons (pe_bltn (v := .ty "bool") (by rfl) T.n_bool (by decide +kernel) rfl) pa_nil))))
      (pss_one (ps_ret (pe_and (pe_callB call_isi (by rfl) T.n_isinstance (by decide +kernel) (pa_cons (pv 0) (pa_cons (pe_bltn (v := .ty "bool") (by rfl) T.n_bool (by decide +kernel) rfl) pa_nil))) (pe_one (pe_cmpR op_eq (pv 0) (pv 1) (nomark _))))))
      pss_nil)
      (pss_cons (ps_if (pt_val (pe_callB call_isi (by rfl) T.n_isinstance (by decide +kernel) (pa_cons (pv 1) (pa_cons (pe_bltn (v := .ty "int") (by rfl) T.n_int (by decide +kernel) rfl) pa_nil))))
      (pss_one (ps_ret (pe_and (pe_call G__law_is_int (hr.mono (by omega)) (by rfl) g__law_is_int k__law_is_int b__law_is_int .nil pass0 (pa_cons (pv 0) pa_nil)) (pe_one (pe_cmpR op_eq (pv 0) (pv 1) (nomark _))))))
      pss_nil)
      (pss_one (ps_ret (pe_and (pe_callB call_isi (by rfl) T.n_isinstance (by decide +kernel) (pa_cons (pv 0) (pa_cons (pe_bltn (v := .ty "str") (by rfl) T.n_str (by decide +kernel) rfl) pa_nil))) (pe_one (pe_cmpR op_eq (pv 0) (pv 1) (nomark _)))))))))), ?_⟩
      cases d with
      | non =>
        unfold DV at hv hu; subst hv hu
        refine ⟨_, rfl, _, _, _, _, false, rfl, .ty _, .base .non, kit_ty (by decide +kernel), _, rfl, iteF ?_⟩
        exact ⟨_, rfl, rfl, _, rfl, iteT ⟨_, rfl, rfl, q⟩⟩
      | bl b =>
        unfold DV at hv hu; subst hv hu
        refine ⟨_, rfl, _, _, _, _, false, rfl, .ty _, .base (.bl b), kit_ty (by decide +kernel), _, rfl, iteF ?_⟩
        refine ⟨_, rfl, rfl, _, rfl, iteF ?_⟩
        refine ⟨_, rfl, _, _, _, _, true, rfl, .ty _, .base (.bl b), kit_ty (by decide +kernel), _, rfl, iteT ?_⟩
        refine ⟨_, rfl, _, _, _, _, true, rfl, .ty _, .base (.bl b), kit_ty (by decide +kernel), _, rfl, iteT ?_⟩
        refine ⟨_, rfl, _, rfl, rfl, ?_⟩
        rw [decide_eq_true rfl]; exact q
      | int b =>
        unfold DV at hv hu; subst hv hu
        refine ⟨_, rfl, _, _, _, _, false, rfl, .ty _, .base (.int b), kit_ty (by decide +kernel), _, rfl, iteF ?_⟩
        refine ⟨_, rfl, rfl, _, rfl, iteF ?_⟩
        refine ⟨_, rfl, _, _, _, _, false, rfl, .ty _, .base (.int b), kit_ty (by decide +kernel), _, rfl, iteF ?_⟩
        refine ⟨_, rfl, _, _, _, _, true, rfl, .ty _, .base (.int b), kit_ty (by decide +kernel), _, rfl, iteT ?_⟩
        refine ⟨_, rfl, _, rfl, _, rfl, iteT ?_⟩
        refine ⟨_, rfl, _, rfl, rfl, ?_⟩
        rw [decide_eq_true rfl]; exact q
      | str b =>
        unfold DV at hv hu; subst hv hu
        refine ⟨_, rfl, _, _, _, _, false, rfl, .ty _, .base (.str b), kit_ty (by decide +kernel), _, rfl, iteF ?_⟩
        refine ⟨_, rfl, rfl, _, rfl, iteF ?_⟩
        refine ⟨_, rfl, _, _, _, _, false, rfl, .ty _, .base (.str b), kit_ty (by decide +kernel), _, rfl, iteF ?_⟩
        refine ⟨_, rfl, _, _, _, _, false, rfl, .ty _, .base (.str b), kit_ty (by decide +kernel), _, rfl, iteF ?_⟩
        refine ⟨_, rfl, _, _, _, _, true, rfl, .ty _, .base (.str b), kit_ty (by decide +kernel), _, rfl, iteT ?_⟩
        refine ⟨_, rfl, _, rfl, rfl, ?_⟩
        rw [decide_eq_true rfl]; exact q
      | tup ds =>
        unfold DV at hv hu
        obtain ⟨a, vs, rfl, ha, hvs⟩ := hv
        obtain ⟨b, us, rfl, hb, hus⟩ := hu
        have hl := hvs.len
        have hm := hus.len
        refine ⟨_, rfl, _, _, _, _, true, rfl, .ty _, TyX.ofT hb, kit_ty (by decide +kernel), _, rfl, iteT ?_⟩
        refine ⟨_, rfl, _, _, _, _, true, rfl, .ty _, TyX.ofT ha, kit_ty (by decide +kernel), _, rfl, iteF ?_⟩
        refine ⟨_, rfl, a, _, rfl, .inr ha, _, rfl, b, _, rfl, .inr hb, rfl, _, rfl, iteNS (by rw [hl, hm]) ?_⟩
        refine ⟨_, rfl, b, _, rfl, .inr hb, _, rfl, by omega, by have := hd.1; omega, ?_⟩
        refine for_range (lo := 0) (n := ((us.length : Int)).toNat) (fun i σ H' => ∃ (x : Option V), σ = [some (.ref a), some (.ref b), x] ∧ H' = H) ⟨none, rfl, rfl⟩ ?_ ?_
        · rintro i σ H' hi ⟨x, rfl, rfl⟩
          have hi' : i < us.length := by omega
          have hi2 : i < ds.length := by omega
          obtain ⟨v1, e1, q1⟩ := hvs.get (List.getElem?_eq_getElem hi2)
          obtain ⟨v2, e2, q2⟩ := hus.get (List.getElem?_eq_getElem hi2)
          refine ⟨_, rfl, _, rfl, a, _, _, v1, rfl, rfl, ha, at_of (j := i) (by omega) e1, _, rfl, _, rfl, b, _, _, v2, rfl, rfl, hb, at_of (j := i) (by omega) e2, ?_⟩
          refine ⟨ds[i], v1, v2, rfl, q1, q2, hd.2 _ (List.getElem_mem hi2), _, rfl, iteF ?_⟩
          exact ⟨_, rfl, rfl⟩
        · rintro σ H' ⟨x, rfl, rfl⟩
          exact q
end
end Z
namespace Z
open PySem L2 SX
section
variable {P : Program} {w : World} {K : PySem.W.Frag} {mg : Str → Option Value} {base : Heap}
theorem ok__law_pick (D : Df K mg "_law_pick" s__law_pick ["source", "row"]) (T : Tx mg) (C__law_draw : Cal P w K mg base "_law_draw" ["source", "many"] 2 sp__law_draw) : Cal P w K mg base "_law_pick" ["source", "row"] 3 (sp__law_pick K) := by
  obtain ⟨f__law_draw, fd__law_draw, G__law_draw, g__law_draw, k__law_draw, b__law_draw⟩ := C__law_draw
  obtain ⟨f, fd, F, gf, bf⟩ := D
  refine ⟨f, fd, F.ok sc__law_pick (fun vs H Q E h => ?_) (fun cdv A outer s H vs Q E hr h => ?_), gf, F.kp, bf⟩
  · rcases h with ⟨s, a, r, xs, c, rfl, _⟩ | ⟨s, a, x, c, rfl, _⟩ <;> rfl
  · refine ⟨_, (pss_one (ps_ret (pe_ix ix_seq (pv 1) (pe_call G__law_draw (hr.mono (by decide)) (by rfl) g__law_draw k__law_draw b__law_draw .nil pass0 (pa_cons (pv 0) (pa_cons (pe_callB call_len (by rfl) T.n_len PySem.boot_len (pa_cons (pv 1) pa_nil)) pa_nil))) (fun _ _ => rfl)))), ?_⟩
    rcases h with ⟨s, a, r, xs, c, rfl, hR, rs, ne, hl, hS, q⟩ | ⟨s, a, x, c, rfl, ne, hl, hS, q⟩
    · have n0 : 0 < xs.length := List.length_pos_iff.mpr ne
      refine ⟨_, rfl, _, rfl, _, rfl, _, _, rfl, .inl ⟨xs, hR, rfl⟩, s, a, (xs.length : Int), c, rfl, by omega, by omega, hS, fun v H' v0 v1 hE hS' => ?_⟩
      have hv : v.toNat < xs.length := by omega
      exact .inl ⟨r, xs, v, xs[v.toNat], rfl, rfl, hE.seqL rs hR, atI_pos v0 (List.getElem?_eq_getElem hv), q _ _ (List.getElem_mem hv) hE hS'⟩
    · have n0 : 0 < (tl x).length := List.length_pos_iff.mpr ne
      have hx := tl_len x
      refine ⟨_, rfl, _, rfl, _, rfl, _, x.length, rfl, ⟨by rw [hx]; exact Nat.le_trans hl (by decide), rfl⟩, s, a, (x.length : Int), c, rfl, by omega, by omega, hS, fun v H' v0 v1 hE hS' => ?_⟩
      have hv : v.toNat < (tl x).length := by omega
      exact .inr (.inr ⟨x, v, (tl x)[v.toNat], rfl, rfl, by rw [hx]; exact Nat.le_trans hl (by decide), atI_pos v0 (List.getElem?_eq_getElem hv), q _ _ (List.getElem_mem hv) hE hS'⟩)
theorem ok__law_once_in (D : Df K mg "_law_once_in" s__law_once_in ["source", "many"]) (T : Tx mg) (C__law_draw : Cal P w K mg base "_law_draw" ["source", "many"] 2 sp__law_draw) : Cal P w K mg base "_law_once_in" ["source", "many"] 3 sp__law_once_in := by
  obtain ⟨f__law_draw, fd__law_draw, G__law_draw, g__law_draw, k__law_draw, b__law_draw⟩ := C__law_draw
  obtain ⟨f, fd, F, gf, bf⟩ := D
  refine ⟨f, fd, F.ok sc__law_once_in (fun vs H Q E h => ?_) (fun cdv A outer s H vs Q E hr h => ?_), gf, F.kp, bf⟩
  · obtain ⟨s, a, m, c, rfl, _⟩ := h; rfl
  · obtain ⟨s, a, m, c, rfl, m0, m1, hS, q⟩ := h
    refine ⟨_, (pss_one (ps_ret (pe_cmpR op_eq (pe_call G__law_draw (hr.mono (by decide)) (by rfl) g__law_draw k__law_draw b__law_draw .nil pass0 (pa_cons (pv 0) (pa_cons (pv 1) pa_nil))) (pe_op op_fdiv (pv 1) pe_int) (nomark _)))), ?_⟩
    refine ⟨_, rfl, _, rfl, s, a, _, c, rfl, m0, m1, hS, fun v H' v0 v1 hE hS' => ?_⟩
    exact ⟨_, rfl, _, _, rfl, rfl, ⟨by decide, by decide⟩, rfl, q _ _ hE hS'⟩
end
end Z
namespace Z
open PySem L2 SX
section
variable {P : Program} {w : World} {K : PySem.W.Frag} {mg : Str → Option Value} {base : Heap}
theorem ok_add_place (D : Df K mg "add_place" s_add_place ["glob", "places", "place"]) (T : Tx mg)  : Cal P w K mg base "add_place" ["glob", "places", "place"] 1 sp_add_place := by
  obtain ⟨f, fd, F, gf, bf⟩ := D
  refine ⟨f, fd, F.ok sc_add_place (fun vs H Q E h => ?_) (fun cdv A outer s₀ H vs Q E hr h => ?_), gf, F.kp, bf⟩
  · obtain ⟨g, p, x, L, m, A, rfl, _⟩ := h; rfl
  · obtain ⟨g, p, x, L, m, A, rfl, hL, hU, hm, hx, hb, gl, q⟩ := h
    refine ⟨_, (pss_cons (ps_if (PW.pt (pw_and (pt_truth (pv 1) (by intro _; rfl)) (pw_and1 (pt_cmpR op_ge (pe_ix ix_list (pv 1) (pe_un un_neg pe_int) (fun _ _ => rfl)) (pv 2) (nomark _)))))
      (pss_one ps_retN)
      pss_nil)
      (pss_cons (ps_expr (pe_bm PySem.F.plainAttrs_list PySem.F.slot_list_append PySem.F.type_list_append mt_append (pv 1) (pa_cons (pv 2) pa_nil)))
      (pss_one (ps_while PassesOwn.never (PW.pt (pw_and (pt_cmpR op_lt (pv 2) (pe_callB call_lenS (by rfl) T.n_len PySem.boot_len (pa_cons (pv 0) pa_nil)) (nomark _)) (pw_and1 (pt_cmpR op_eq (pe_item_str (pv 0) (pv 2) (fun _ _ => rfl)) pe_str (nomark _)))))
      (pss_cons (ps_aug (i := 2) sc_add_place.nd rfl (Or.inl rfl) pe_int ip_add)
        (pss_one (ps_expr (pe_bm PySem.F.plainAttrs_list PySem.F.slot_list_append PySem.F.type_list_append mt_append (pv 1) (pa_cons (pv 2) pa_nil))))))))), ?_⟩
    have lg := tl_len g
    have small : ∀ n : Nat, n ≤ 30000 → n < sizeLine := fun n h => Nat.lt_of_le_of_lt h (by decide)
    have Ll : L.length ≤ (tl g).length + 1 := Asd.len (M := fun y => y ∈ L) ⟨hU.asc, fun _ => Iff.rfl⟩ hb
    refine ⟨_, rfl, !(nts L).isEmpty, .inl ⟨_, SqL.of hL, rfl⟩, ?_⟩
    -- what is put in
    have go : ∀ (hl : ∀ y ∈ L, y < x), tSeq (tDrop (tBM K "list" rAppend (tVar 1) (tCons (tVar 2) tNil))) (tWhile (tAnd (tTest (tOp (rI0 fun i j => V.bl (decide (i < j))) (tVar 2) (tCB (fun xs H Q => ∃ x : Str, xs = [.str x] ∧ x.length ≤ sizeLine ∧ Q (.int x.length) H) (tCons (tVar 0) tNil)))) (tTest (tOp rEq (tOp (fun x y H Q => ∃ z i c, x = .str z ∧ y = .int i ∧ 0 ≤ i ∧ i < 2 ^ 63 ∧ i < z.length ∧ z.cps[i.toNat]? = some c ∧ Q (.str ⟨#[c]⟩) H) (tVar 0) (tVar 2)) (tC (.str (Str.ofString "*")))))) (tSeq (tAug 2 (tC (.int 1)) (ipI fun i j => i + j)) (tDrop (tBM K "list" rAppend (tVar 1) (tCons (tVar 2) tNil))))) { nx := fun _ H' => Q .non H', rt := Q } [some (.str g), some (.ref p), some (.int (x : Int))] H := by
      intro hl
      refine ⟨_, rfl, .inl ⟨rfl, _, SqL.of hL⟩, _, rfl, p, _, _, rfl, rfl, hL, ?_, ?_⟩
      · rw [List.length_map]; exact small _ (by omega)
      refine ⟨fun n σ H' => ∃ k, σ = [some (.str g), some (.ref p), some (.int ((x + k : Nat) : Int))] ∧ H' p = some (.lst (nts (L ++ List.range' x (k + 1)))) ∧ (∀ b, b ≠ p → H' b = H b) ∧ (∀ j, j < k → (tl g)[x + j]? = some 42) ∧ x + k ≤ (tl g).length ∧ n = (tl g).length - (x + k), ⟨_, 0, rfl, ?_, fun b hb => upd_ne hb, fun j hj => by omega, by omega, rfl⟩, ?_⟩
      · rw [upd_same]; show some (HO.lst (nts L ++ nts [x])) = _; unfold nts; rw [← List.map_append]; rfl
      rintro n σ H' ⟨k, rfl, hp, hH, hs, hk, rfl⟩
      have stop : (tl g)[x + k]? ≠ some 42 → Q .non H' := fun ns => by
        refine q _ H' hp hH (hU.more hl ⟨hs, ns⟩) fun y hy => ?_
        rcases List.mem_append.mp hy with h | h
        · exact hb y h
        · have := (run_mem.mp h).2; omega
      refine ⟨_, rfl, _, rfl, g, rfl, Nat.le_of_lt (small _ (by omega)), _, _, rfl, rfl, _, rfl, ite2 (fun c1 => ?_) (fun c1 => iteF (stop fun e => ?_))⟩
      · have c1 : x + k < (tl g).length := by have := of_decide_eq_true c1; omega
        obtain ⟨d, g1, g2, g3⟩ := at_str (x := g) (i := ((x + k : Nat) : Int)) (by omega) (by omega)
        rw [Int.toNat_natCast] at g2
        refine ⟨_, rfl, _, rfl, g, _, d, rfl, rfl, by omega, by omega, by omega, g1, rfl, _, rfl, ite2 (fun c2 => ?_) (fun c2 => stop fun e => ?_)⟩
        · have ed : d = 42 := (List.cons.inj (congrArg tl (V.str.inj (of_decide_eq_true c2)))).1
          subst ed
          refine ⟨fun σ2 H2 => ∃ m', m' < (tl g).length - (x + k) ∧ ∃ k, σ2 = [some (.str g), some (.ref p), some (.int ((x + k : Nat) : Int))] ∧ H2 p = some (.lst (nts (L ++ List.range' x (k + 1)))) ∧ (∀ b, b ≠ p → H2 b = H b) ∧ (∀ j, j < k → (tl g)[x + j]? = some 42) ∧ x + k ≤ (tl g).length ∧ m' = (tl g).length - (x + k), fun σ2 H2 h => h, ?_⟩
          refine ⟨_, rfl, _, _, rfl, rfl, ?_⟩
          refine ⟨_, rfl, .inl ⟨rfl, _, SqL.of hp⟩, _, rfl, p, _, _, rfl, rfl, hp, ?_, ?_⟩
          · rw [List.length_map, List.length_append, List.length_range']; exact small _ (by omega)
          refine ⟨_, ?_, k + 1, rfl, ?_, fun b hb => by rw [upd_ne hb]; exact hH b hb, fun j hj => ?_, by omega, rfl⟩
          · omega
          · rw [upd_same]
            show some (HO.lst (nts (L ++ List.range' x (k + 1)) ++ nts [x + k + 1])) = _
            unfold nts
            rw [← List.map_append, List.append_assoc]
            congr 4
            rw [List.range'_concat (n := k + 1), Nat.one_mul, Nat.add_assoc]
          · by_cases e : j = k
            · subst e; exact g2
            · exact hs j (by omega)
        · rw [g2] at e
          have : d = 42 := Option.some.inj e
          subst this
          exact c2 (decide_eq_true rfl)
      · have := (List.getElem?_eq_some_iff.mp e).1
        exact c1 (decide_eq_true (by omega))
    by_cases hE : L = []
    · subst hE
      exact iteF (go fun _ h => by cases h)
    · rw [show (!(nts L).isEmpty) = true by unfold nts; cases L with | nil => exact absurd rfl hE | cons _ _ => rfl]
      refine iteT ?_
      obtain ⟨r, z, e⟩ : ∃ r z, L = r ++ [z] := ⟨L.dropLast, L.getLast hE, (List.dropLast_concat_getLast hE).symm⟩
      have hz : atI (nts L) (-1) = some (.int (z : Int)) := by rw [e]; unfold nts; rw [List.map_append]; exact atI_last _ _
      have zm : z ∈ L := by rw [e]; simp
      have zmax : ∀ y ∈ L, y ≤ z := fun y hy => by
        have ha := hU.asc
        rw [e] at hy ha
        rcases List.mem_append.mp hy with h | h
        · have := (List.pairwise_append.mp ha).2.2 y h z (by simp); omega
        · rw [List.mem_singleton.mp h]; exact Nat.le_refl _
      refine ⟨_, rfl, 1, rfl, p, _, _, _, rfl, rfl, SqL.of hL, hz, _, rfl, _, _, rfl, rfl, _, rfl, ite2 (fun c1 => ?_) (fun c1 => go fun y hy => ?_)⟩
      · have : x ≤ z := by have := of_decide_eq_true c1; omega
        exact q L H hL (fun _ _ => rfl) (hU.stay hm zm this) hb
      · have := zmax y hy
        simp at c1; omega
end
section
variable {P : Program} {w : World} {K : PySem.W.Frag} {mg : Str → Option Value} {base : Heap}
theorem ok_follows (D : Df K mg "follows" s_follows ["glob", "standing", "character"]) (T : Tx mg) (C_add_place : Cal P w K mg base "add_place" ["glob", "places", "place"] 1 sp_add_place) : Cal P w K mg base "follows" ["glob", "standing", "character"] 2 (sp_follows K) := by
  obtain ⟨f_add_place, fd_add_place, G_add_place, g_add_place, k_add_place, b_add_place⟩ := C_add_place
  obtain ⟨f, fd, F, gf, bf⟩ := D
  refine ⟨f, fd, F.ok sc_follows (fun vs H Q E h => ?_) (fun cdv A outer s₀ H vs Q E hr h => ?_), gf, F.kp, bf⟩
  · obtain ⟨g, a, c, ps, M, rfl, _⟩ := h; rfl
  · obtain ⟨g, a, c, ps, M, rfl, hA, hP, hC, hW, hc, gl, q⟩ := h
    refine ⟨_, (pss_cons (ps_set (i := 3) sc_follows.nd rfl (Or.inl rfl) (pe_lst pa_nil))
      (pss_cons (ps_for PassesOwn.never rfl (pi_tup (pv 1)) (pg_name (i := 4) sc_follows.nd rfl (Or.inl rfl))
      (C8.pss_cut (ps_if (PW.pt (pw_and (pt_cmpR op_gt (pv 4) pe_int (nomark _)) (pw_and1 (pt_cmpR op_eq (pe_item_str (pv 0) (pe_op op_sub (pv 4) pe_int) (fun _ _ => rfl)) pe_str (nomark _)))))
        (pss_one (ps_expr (pe_call G_add_place (hr.mono (by decide)) (by rfl) g_add_place k_add_place b_add_place .nil pass0 (pa_cons (pv 0) (pa_cons (pv 3) (pa_cons (pv 4) pa_nil))))))
        pss_nil)
        (pss_one (ps_if (PW.pt (pw_and (pt_cmpR op_lt (pv 4) (pe_callB call_lenS (by rfl) T.n_len PySem.boot_len (pa_cons (pv 0) pa_nil)) (nomark _)) (pw_and1 (pt_cmpR op_in_seq (pe_item_str (pv 0) (pv 4) (fun _ _ => rfl)) (pe_tup (pa_cons pe_str (pa_cons (pv 2) pa_nil))) (by rfl)))))
        (pss_one (ps_expr (pe_call G_add_place (hr.mono (by decide)) (by rfl) g_add_place k_add_place b_add_place .nil pass0 (pa_cons (pv 0) (pa_cons (pv 3) (pa_cons (pe_op op_add (pv 4) pe_int) pa_nil))))))
        pss_nil))))
      (pss_one (ps_ret (pe_callTy call_tuple_of (by rfl) T.n_tuple (by decide +kernel) (pa_cons (pv 3) pa_nil)))))), ?_⟩
    have lg := tl_len g
    have pl := hP.len hW
    have small : ∀ n : Nat, n ≤ 30000 → n < sizeLine := fun n h => Nat.lt_of_le_of_lt h (by decide)
    refine ⟨Nat.zero_le _, fun L hL => ?_⟩
    refine ⟨_, rfl, a, rfl, ⟨_, (same_new hL).tup hA⟩, ?_⟩
    refine for_tup (K := K) (a := a) (xs := nts ps) (fun i σ H' => ∃ (qs : List Nat) (m : Nat) (v : Option V), σ = [some (.str g), some (.ref a), some (.str (S [c])), some (.ref L), v] ∧ H' L = some (.lst (nts qs)) ∧ Same H H' ∧ Up (tl g) qs m (puts (tl g) c (fun y => y ∈ ps.take i)) ∧ (∀ y ∈ qs, y ≤ (tl g).length) ∧ (∀ y, y ∈ ps.drop i → m ≤ y)) ?_ ?_ ?_ ?_
    · exact ⟨[], 0, _, rfl, upd_same, same_new hL, (Up.nil _).congr fun y => ⟨fun h => h.elim, fun h => by
        rcases h with ⟨h, _⟩ | ⟨i, _, h, _⟩ <;> (rw [List.take_zero] at h; cases h)⟩, (fun _ h => by cases h), fun _ _ => Nat.zero_le _⟩
    · rintro i σ H' _ ⟨_, _, _, _, _, hS, _⟩
      exact hS.tup hA
    · rintro i y σ H' hi ⟨qs, m, v, rfl, hQ, hS, hU, hB, hm⟩
      rw [List.getElem?_map] at hi
      obtain ⟨x, hx, rfl⟩ := Option.map_eq_some_iff.mp hi
      have xm := List.mem_of_getElem? hx
      have xM := (hP.2 x).mp xm
      have xw := hW x xM
      have ed : ps.drop i = x :: ps.drop (i + 1) := by
        obtain ⟨h1, h2⟩ := List.getElem?_eq_some_iff.mp hx
        rw [← h2, List.getElem_cons_drop]
      have et : ps.take (i + 1) = ps.take i ++ [x] := by rw [List.take_add_one, hx]; rfl
      have mx : m ≤ x := hm x (by rw [ed]; simp)
      have later : ∀ z, z ∈ ps.drop (i + 1) → x < z := fun z hz => by
        have := hP.1.sublist (List.drop_sublist i ps)
        rw [ed] at this
        exact (List.pairwise_cons.mp this).1 z hz
      -- the place behind a star
      refine ⟨fun σ2 H2 => ∃ (qs2 : List Nat) (m2 : Nat), σ2 = [some (.str g), some (.ref a), some (.str (S [c])), some (.ref L), some (.int (x : Int))] ∧ H2 L = some (.lst (nts qs2)) ∧ Same H H2 ∧ Up (tl g) qs2 m2 (fun z => puts (tl g) c (fun y => y ∈ ps.take i) z ∨ (z = x ∧ ∃ j, x = j + 1 ∧ (tl g)[j]? = some 42)) ∧ (∀ y ∈ qs2, y ≤ (tl g).length) ∧ m2 ≤ x, ?_, ?_⟩
      · have no : (¬ ∃ j, x = j + 1 ∧ (tl g)[j]? = some 42) → ∃ (qs2 : List Nat) (m2 : Nat), ([some (V.str g), some (V.ref a), some (V.str (S [c])), some (V.ref L), some (V.int (x : Int))] : St) = [some (.str g), some (.ref a), some (.str (S [c])), some (.ref L), some (.int (x : Int))] ∧ H' L = some (.lst (nts qs2)) ∧ Same H H' ∧ Up (tl g) qs2 m2 (fun z => puts (tl g) c (fun y => y ∈ ps.take i) z ∨ (z = x ∧ ∃ j, x = j + 1 ∧ (tl g)[j]? = some 42)) ∧ (∀ y ∈ qs2, y ≤ (tl g).length) ∧ m2 ≤ x := fun h =>
          ⟨qs, m, rfl, hQ, hS, hU.congr fun y => ⟨.inl, fun z => z.elim id fun w => absurd w.2 h⟩, hB, mx⟩
        refine ⟨_, rfl, _, _, rfl, rfl, _, rfl, ite2 (fun c1 => ?_) (fun c1 => iteF (no fun ⟨j, e, _⟩ => c1 (decide_eq_true (by omega))))⟩
        have x1 : 0 < x := by have := of_decide_eq_true c1; omega
        obtain ⟨d, g1, g2, g3⟩ := at_str (x := g) (i := (x : Int) - 1) (by omega) (by omega)
        rw [show ((x : Int) - 1).toNat = x - 1 by omega] at g2
        refine ⟨_, rfl, _, rfl, _, _, rfl, rfl, g, _, d, rfl, rfl, by omega, by omega, by omega, g1, rfl, _, rfl, ite2 (fun c2 => ?_) (fun c2 => no fun ⟨j, e, h⟩ => ?_)⟩
        · have e42 : d = 42 := (List.cons.inj (congrArg tl (V.str.inj (of_decide_eq_true c2)))).1
          subst e42
          refine ⟨_, rfl, _, rfl, _, rfl, g, L, x, qs, m, _, rfl, hQ, hU, mx, xw, hB, gl, fun qs' H2 h1 h2 h3 h4 => ?_⟩
          refine ⟨qs', x, rfl, h1, fun b o hb => ?_, h3.congr fun y => ⟨fun z => z.elim .inl fun e => .inr ⟨e, x - 1, by omega, g2⟩, fun z => z.elim .inl fun w => .inr w.1⟩, h4, Nat.le_refl _⟩
          rw [h2 b (ne_of_none hb hL)]; exact hS _ _ hb
        · rw [show x - 1 = j by omega] at g2
          rw [g2] at h
          have : d = 42 := Option.some.inj h
          subst this
          exact c2 (decide_eq_true rfl)
      · rintro σ2 H2 ⟨qs2, m2, rfl, hQ2, hS2, hU2, hB2, hm2⟩
        have ends : ∀ (qs3 : List Nat) (m3 : Nat) (H3 : Hp) (Z : Prop), H3 L = some (.lst (nts qs3)) → Same H H3 → Up (tl g) qs3 m3 (fun z => (puts (tl g) c (fun y => y ∈ ps.take i) z ∨ (z = x ∧ ∃ j, x = j + 1 ∧ (tl g)[j]? = some 42)) ∨ (z = x + 1 ∧ ((tl g)[x]? = some 63 ∨ (tl g)[x]? = some c))) → (∀ y ∈ qs3, y ≤ (tl g).length) → m3 ≤ x + 1 →
            ∃ (qs : List Nat) (m : Nat) (v : Option V), ([some (V.str g), some (V.ref a), some (V.str (S [c])), some (V.ref L), some (V.int (x : Int))] : St) = [some (.str g), some (.ref a), some (.str (S [c])), some (.ref L), v] ∧ H3 L = some (.lst (nts qs)) ∧ Same H H3 ∧ Up (tl g) qs m (puts (tl g) c (fun y => y ∈ ps.take (i + 1))) ∧ (∀ y ∈ qs, y ≤ (tl g).length) ∧ (∀ y, y ∈ ps.drop (i + 1) → m ≤ y) := fun qs3 m3 H3 _ h1 h2 h3 h4 h5 => by
          refine ⟨qs3, m3, _, rfl, h1, h2, h3.congr fun z => ?_, h4, fun y hy => by have := later y hy; omega⟩
          unfold puts
          rw [et]
          simp only [List.mem_append, List.mem_singleton]
          constructor
          · rintro (((⟨h, k⟩ | ⟨j, e, h, k⟩) | ⟨e, k⟩) | ⟨e, k⟩)
            · exact .inl ⟨.inl h, k⟩
            · exact .inr ⟨j, e, .inl h, k⟩
            · exact .inl ⟨.inr e, by rw [e]; exact k⟩
            · exact .inr ⟨x, e, .inr rfl, k⟩
          · rintro (⟨h | e, k⟩ | ⟨j, e, h | e2, k⟩)
            · exact .inl (.inl (.inl ⟨h, k⟩))
            · exact .inl (.inr ⟨e, by rw [e] at k; exact k⟩)
            · exact .inl (.inl (.inr ⟨j, e, h, k⟩))
            · subst e2; exact .inr ⟨e, k⟩
        have no : (¬ ((tl g)[x]? = some 63 ∨ (tl g)[x]? = some c)) → _ := fun h => ends qs2 m2 H2 True hQ2 hS2 (hU2.congr fun z => ⟨.inl, fun w => w.elim id fun q => absurd q.2 h⟩) hB2 (by omega)
        have noT : ∀ (t : Addr) (us : List V), H2 t = none → (¬ ((tl g)[x]? = some 63 ∨ (tl g)[x]? = some c)) → _ := fun t us ht h => ends qs2 m2 (upd H2 t (.tup us)) True ((same_new ht) _ _ hQ2) (hS2.trans (same_new ht)) (hU2.congr fun z => ⟨.inl, fun w => w.elim id fun q => absurd q.2 h⟩) hB2 (by omega)
        refine ⟨_, rfl, _, rfl, g, rfl, Nat.le_of_lt (small _ (by omega)), _, _, rfl, rfl, _, rfl, ite2 (fun c1 => ?_) (fun c1 => iteF (no fun e => ?_))⟩
        · have xl : x < (tl g).length := by have := of_decide_eq_true c1; omega
          obtain ⟨d, g1, g2, g3⟩ := at_str (x := g) (i := (x : Int)) (by omega) (by omega)
          rw [Int.toNat_natCast] at g2
          refine ⟨_, rfl, _, rfl, g, _, d, rfl, rfl, by omega, by omega, by omega, g1, ?_⟩
          refine ⟨_, rfl, by show 2 ≤ sizeLine; decide, fun t ht => ?_⟩
          refine ⟨t, [Str.ofString "?", S [c]].map V.str, rfl, .inr (SqT.of upd_same), rfl, flat_strs _, _, rfl, ?_⟩
          have eb : (if false = true then !inV (V.str (S [d])) ([Str.ofString "?", S [c]].map V.str) else inV (V.str (S [d])) ([Str.ofString "?", S [c]].map V.str)) = decide (S [d] ∈ [Str.ofString "?", S [c]]) := inV_strs _ _
          by_cases hin : S [d] ∈ [Str.ofString "?", S [c]]
          · have hmt : (tl g)[x]? = some 63 ∨ (tl g)[x]? = some c := by
              rw [g2]
              rcases List.mem_cons.mp hin with e | e
              · exact .inl (congrArg some (List.cons.inj (congrArg tl e)).1)
              · exact .inr (congrArg some (List.cons.inj (congrArg tl (List.mem_singleton.mp e))).1)
            refine ite2 (fun _ => ?_) (fun h => (h (eb.trans (decide_eq_true hin))).elim)
            refine ⟨_, rfl, _, rfl, _, rfl, _, _, rfl, rfl, g, L, x + 1, qs2, m2, _, rfl, (same_new ht) _ _ hQ2, hU2, by omega, by omega, hB2, gl, fun qs' H3 h1 h2 h3 h4 => ?_⟩
            refine ends qs' (x + 1) H3 True h1 (fun b o hb => ?_) (h3.congr fun z => ⟨fun w => w.elim .inl fun e => .inr ⟨e, hmt⟩, fun w => w.elim .inl fun q => .inr q.1⟩) h4 (Nat.le_refl _)
            rw [h2 b (ne_of_none hb hL)]; exact (hS2.trans (same_new ht)) _ _ hb
          · refine ite2 (fun h => (hin (of_decide_eq_true (eb.symm.trans h))).elim) (fun _ => noT t _ ht fun e => hin ?_)
            rw [g2] at e
            rcases e with e | e
            · have : d = 63 := Option.some.inj e
              subst this; exact List.mem_cons_self
            · have : d = c := Option.some.inj e
              subst this; exact List.mem_cons_of_mem _ (List.mem_singleton.mpr rfl)
        · have : x < (tl g).length := by rcases e with e | e <;> exact (List.getElem?_eq_some_iff.mp e).1
          exact c1 (decide_eq_true (by omega))
    · rintro σ H' ⟨qs, m, v, rfl, hQ, hS, hU, hB, hm⟩
      rw [List.length_map, List.take_length] at hU
      refine ⟨_, rfl, L, _, rfl, .inl ⟨SqL.of hQ, fun t ht => ?_⟩⟩
      exact q t qs _ (hS.trans (same_new ht)) upd_same (puts_next hc hC (hU.congr fun y => by
        unfold puts
        simp only [hP.2]))
end
section
variable {P : Program} {w : World} {K : PySem.W.Frag} {mg : Str → Option Value} {base : Heap}
theorem ok_standing (D : Df K mg "standing" s_standing ["glob", "beginning"]) (T : Tx mg) (C_add_place : Cal P w K mg base "add_place" ["glob", "places", "place"] 1 sp_add_place) (C_follows : Cal P w K mg base "follows" ["glob", "standing", "character"] 2 (sp_follows K)) : Cal P w K mg base "standing" ["glob", "beginning"] 3 (sp_standing K) := by
  obtain ⟨f_add_place, fd_add_place, G_add_place, g_add_place, k_add_place, b_add_place⟩ := C_add_place
  obtain ⟨f_follows, fd_follows, G_follows, g_follows, k_follows, b_follows⟩ := C_follows
  obtain ⟨f, fd, F, gf, bf⟩ := D
  refine ⟨f, fd, F.ok sc_standing (fun vs H Q E h => ?_) (fun cdv A outer s₀ H vs Q E hr h => ?_), gf, F.kp, bf⟩
  · obtain ⟨g, b, rfl, _⟩ := h; rfl
  · obtain ⟨g, b, rfl, hb, gl, q⟩ := h
    refine ⟨_, (pss_cons (ps_set (i := 2) sc_standing.nd rfl (Or.inl rfl) (pe_lst pa_nil))
      (pss_cons (ps_expr (pe_call G_add_place (hr.mono (by decide)) (by rfl) g_add_place k_add_place b_add_place .nil pass0 (pa_cons (pv 0) (pa_cons (pv 2) (pa_cons pe_int pa_nil)))))
      (pss_cons (ps_set (i := 3) sc_standing.nd rfl (Or.inl rfl) (pe_callTy call_tuple_of (by rfl) T.n_tuple (by decide +kernel) (pa_cons (pv 2) pa_nil)))
      (pss_cons (ps_for PassesOwn.never rfl (pi_str (pv 1)) (pg_name (i := 4) sc_standing.nd rfl (Or.inl rfl))
      (pss_one (ps_set (i := 3) sc_standing.nd rfl (Or.inl rfl) (pe_call G_follows (hr.mono (by decide)) (by rfl) g_follows k_follows b_follows .nil pass0 (pa_cons (pv 0) (pa_cons (pv 3) (pa_cons (pv 4) pa_nil)))))))
      (pss_one (ps_ret (pv 3))))))), ?_⟩
    refine ⟨Nat.zero_le _, fun L hL => ?_⟩
    refine ⟨_, rfl, _, rfl, g, L, 0, [], 0, _, rfl, upd_same, Up.nil _, Nat.le_refl _, Nat.zero_le _, (fun _ h => by cases h), gl, fun L' H1 h1 h2 h3 h4 => ?_⟩
    have s1 : Same H H1 := fun bb o hh => by rw [h2 bb (ne_of_none hh hL), upd_ne (ne_of_none hh hL)]; exact hh
    have a0 := start_asd (h3.congr fun y => ⟨fun h => h.elim (fun z => z.elim) id, .inr⟩)
    refine ⟨_, rfl, L, _, rfl, .inl ⟨SqL.of h1, fun t ht => ?_⟩⟩
    refine ⟨_, rfl, _, rfl, ?_⟩
    refine for_str (l := tl b) (fun i σ H' => ∃ (t : Addr) (ps : List Nat) (v : Option V), σ = [some (.str g), some (.str b), some (.ref L), some (.ref t), v] ∧ H' t = some (.tup (nts ps)) ∧ Same H H' ∧ Asd ps (stand (tl g) ((tl b).take i))) ⟨t, L', _, rfl, upd_same, s1.trans (same_new ht), a0⟩ ?_ ?_
    · rintro i c σ H' hi ⟨t', ps, v, rfl, hT, hS, hP⟩
      have cb := hb c (List.mem_of_getElem? hi)
      have e : (tl b).take (i + 1) = (tl b).take i ++ [c] := by rw [List.take_add_one, hi]; rfl
      obtain ⟨cl, wi⟩ := stand_ok (tl g) ((tl b).take i)
      refine ⟨_, rfl, _, rfl, _, rfl, g, t', c, ps, _, rfl, SqT.of hT, hP, cl, wi, cb, gl, fun q' qs H2 m2 e2 a2 => ?_⟩
      exact ⟨q', qs, _, rfl, e2, hS.trans m2, by rw [e, stand_snoc]; exact a2⟩
    · rintro σ H' ⟨t', ps, v, rfl, hT, hS, hP⟩
      rw [List.take_length] at hP
      exact ⟨_, rfl, q t' ps H' hS hT hP⟩
end
section
variable {P : Program} {w : World} {K : PySem.W.Frag} {mg : Str → Option Value} {base : Heap}
theorem ok_fits (D : Df K mg "fits" s_fits ["glob", "board"]) (T : Tx mg) (C_standing : Cal P w K mg base "standing" ["glob", "beginning"] 3 (sp_standing K)) : Cal P w K mg base "fits" ["glob", "board"] 4 (sp_fits K) := by
  obtain ⟨f_standing, fd_standing, G_standing, g_standing, k_standing, b_standing⟩ := C_standing
  obtain ⟨f, fd, F, gf, bf⟩ := D
  refine ⟨f, fd, F.ok sc_fits (fun vs H Q E h => ?_) (fun cdv A outer s₀ H vs Q E hr h => ?_), gf, F.kp, bf⟩
  · obtain ⟨g, b, rfl, _⟩ := h; rfl
  · obtain ⟨g, b, rfl, hb, gl, q⟩ := h
    refine ⟨_, (pss_one (ps_ret (pe_cmpR op_in_seq (pe_callB call_lenS (by rfl) T.n_len PySem.boot_len (pa_cons (pv 0) pa_nil)) (pe_call G_standing (hr.mono (by decide)) (by rfl) g_standing k_standing b_standing .nil pass0 (pa_cons (pv 0) (pa_cons (pv 1) pa_nil))) (by rfl)))), ?_⟩
    have lg := tl_len g
    refine ⟨_, rfl, g, rfl, Nat.le_trans (show g.length ≤ 10000 by omega) (by decide), ?_⟩
    refine ⟨_, rfl, _, rfl, g, b, rfl, hb, gl, fun t ps H1 m1 e1 a1 => ?_⟩
    refine ⟨t, _, rfl, .inr (SqT.of e1), rfl, flat_nts ps, ?_⟩
    have eb : (if false = true then !inV (V.int (g.length : Int)) (nts ps) else inV (V.int (g.length : Int)) (nts ps)) = decide (g.length ∈ ps) := inV_nts _ _
    have e2 : decide (g.length ∈ ps) = @decide (stand (tl g) (tl b) (tl g).length) (Classical.propDecidable _) := by
      rw [Bool.eq_iff_iff]
      simp only [decide_eq_true_iff]
      rw [lg]; exact a1.2 _
    rw [eb, e2]
    exact q H1 m1
end

end Z
namespace Z
open PySem L2 SX
section
variable {P : Program} {w : World} {K : PySem.W.Frag} {mg : Str → Option Value} {base : Heap}
theorem ok__law_signs (D : Df K mg "_law_signs" s__law_signs ["source"]) (T : Tx mg) (C__law_draw : Cal P w K mg base "_law_draw" ["source", "many"] 2 sp__law_draw) : Cal P w K mg base "_law_signs" ["source"] 3 sp__law_signs := by
  obtain ⟨f__law_draw, fd__law_draw, G__law_draw, g__law_draw, k__law_draw, b__law_draw⟩ := C__law_draw
  obtain ⟨f, fd, F, gf, bf⟩ := D
  refine ⟨f, fd, F.ok sc__law_signs (fun vs H Q E h => ?_) (fun cdv A outer s₀ H vs Q E hr h => ?_), gf, F.kp, bf⟩
  · obtain ⟨s, a, c, rfl, _⟩ := h; rfl
  · obtain ⟨s, a, c, rfl, hS, q⟩ := h
    refine ⟨_, (pss_str (i := 1) sc__law_signs.nd rfl (Or.inl rfl) (psst_rep (l := 1) (o := 2) sc__law_signs.nd rfl rfl (by decide) rfl rfl (pe_call G__law_draw (hr.mono (by decide)) (by rfl) g__law_draw k__law_draw b__law_draw .nil pass0 (pa_cons (pv 0) (pa_cons pe_int pa_nil))) (fun _ _ => rfl) (psst_rep (l := 1) (o := 3) sc__law_signs.nd rfl rfl (by decide) rfl rfl (pe_call G__law_draw (hr.mono (by decide)) (by rfl) g__law_draw k__law_draw b__law_draw .nil pass0 (pa_cons (pv 0) (pa_cons pe_int pa_nil))) (fun _ _ => rfl) (PSsT.of (pss_one (ps_ret (pe_lst (pa_cons (pv 2) (pa_cons (pv 3) (pa_cons (pe_item_str pe_str (pe_call G__law_draw (hr.mono (by decide)) (by rfl) g__law_draw k__law_draw b__law_draw .nil pass0 (pa_cons (pv 0) (pa_cons pe_int pa_nil))) (fun _ _ => rfl)) (pa_cons (pe_item_str (pv 1) (pe_call G__law_draw (hr.mono (by decide)) (by rfl) g__law_draw k__law_draw b__law_draw .nil pass0 (pa_cons (pv 0) (pa_cons pe_int pa_nil))) (fun _ _ => rfl)) pa_nil))))))))))), ?_⟩
    have z26 : (Str.ofString "abcdefghijklmnopqrstuvwxyz").length = 26 := by decide +kernel
    have lS : ∀ y : Str, y.length = (tl y).length := tl_len
    refine ⟨_, rfl, _, rfl, s, a, _, c + 9, rfl, by decide, by decide, hS, fun v H1 v0 v1 x1 S1 => ?_⟩
    obtain ⟨c1, e1, _, m1⟩ := at_str (x := Str.ofString "abcdefghijklmnopqrstuvwxyz") v0 (by rw [z26]; exact v1)
    have h1 := alpha_mem m1
    refine ⟨v, c1, rfl, v0, by omega, by rw [z26]; exact v1, e1, by rw [z26]; decide, ?_⟩
    have nd : (tl (Str.ofString "abcdefghijklmnopqrstuvwxyz")).Nodup := by decide +kernel
    have t1 := tl_strike (Str.ofString "abcdefghijklmnopqrstuvwxyz") c1
    have n1 := strike_len c1 nd
    have g1 : ((tl (Str.ofString "abcdefghijklmnopqrstuvwxyz")).filter (· != c1)).length ≤ 26 := by rw [← z26, lS]; exact List.length_filter_le _ _
    have q1 : (tl (Str.ofString "abcdefghijklmnopqrstuvwxyz")).length = 26 := by rw [← lS]; exact z26
    generalize Txt.replace (Str.ofString "abcdefghijklmnopqrstuvwxyz") ⟨#[c1]⟩ (Str.ofString "") = z1 at t1 ⊢
    have l1 : 25 ≤ z1.length ∧ z1.length ≤ 26 := by rw [lS, t1]; omega
    have k1 : ∀ d ∈ tl z1, d ∈ tl (Str.ofString "abcdefghijklmnopqrstuvwxyz") := fun d h => by rw [t1] at h; exact (List.mem_filter.mp h).1
    refine ⟨z1, rfl, _, rfl, s, a, _, c + 8, rfl, by decide, by decide, S1, fun w H2 w0 w1 x2 S2 => ?_⟩
    obtain ⟨c2, e2, _, m2⟩ := at_str (x := z1) w0 (by omega)
    have h2 := alpha_mem (k1 _ m2)
    refine ⟨w, c2, rfl, w0, by omega, by omega, e2, by omega, ?_⟩
    have t2 := tl_strike z1 c2
    have n2 := strike_len c2 (l := tl z1) (by rw [t1]; exact nd.filter _)
    generalize Txt.replace z1 ⟨#[c2]⟩ (Str.ofString "") = z2 at t2 ⊢
    have l2 : 24 ≤ z2.length := by rw [lS, t2]; have := lS z1; omega
    have k2 : ∀ d ∈ tl z2, d ∈ tl z1 := fun d h => by rw [t2] at h; exact (List.mem_filter.mp h).1
    refine ⟨_, rfl, _, rfl, _, rfl, s, a, _, c + 7, rfl, by decide, by decide, S2, fun d H3 d0 d1 x3 S3 => ?_⟩
    obtain ⟨c3, e3, _, m3⟩ := at_str (x := Str.ofString "0123456789") d0 (by rw [show (Str.ofString "0123456789").length = 10 by decide +kernel]; exact d1)
    refine ⟨_, d, c3, rfl, rfl, d0, by omega, by rw [show (Str.ofString "0123456789").length = 10 by decide +kernel]; exact d1, e3, ?_⟩
    refine ⟨_, rfl, _, rfl, s, a, _, c + 6, rfl, by decide, by decide, S3, fun e H4 e0 e1' x4 S4 => ?_⟩
    obtain ⟨c4, e4, _, m4⟩ := at_str (x := z2) e0 (by omega)
    have h4 := alpha_mem (k1 _ (k2 _ m4))
    refine ⟨z2, e, c4, rfl, rfl, e0, by omega, by omega, e4, by show 4 ≤ sizeLine; decide, fun u hu => ?_⟩
    have xx := x1.trans (x2.trans (x3.trans x4))
    refine q u [c1, c2, c3, c4] _ (ext_free xx S4 hu) upd_same rfl (fun y hy => ?_) (xx.trans (Ext.new hu)) ((S4.new hu).mono (by omega))
    simp only [List.mem_cons, List.not_mem_nil, or_false] at hy
    rcases hy with e | e | e | e <;> subst e
    · omega
    · omega
    · intro e
      subst e
      exact absurd m3 (by decide +kernel)
    · omega
end
section
variable {P : Program} {w : World} {K : PySem.W.Frag} {mg : Str → Option Value} {base : Heap}
theorem ok__law_free_glob (D : Df K mg "_law_free_glob" s__law_free_glob ["source", "signs", "most"]) (T : Tx mg) (C__law_draw : Cal P w K mg base "_law_draw" ["source", "many"] 2 sp__law_draw) (C__law_pick : Cal P w K mg base "_law_pick" ["source", "row"] 3 (sp__law_pick K)) : Cal P w K mg base "_law_free_glob" ["source", "signs", "most"] 4 (sp__law_free_glob K) := by
  obtain ⟨f__law_draw, fd__law_draw, G__law_draw, g__law_draw, k__law_draw, b__law_draw⟩ := C__law_draw
  obtain ⟨f__law_pick, fd__law_pick, G__law_pick, g__law_pick, k__law_pick, b__law_pick⟩ := C__law_pick
  obtain ⟨f, fd, F, gf, bf⟩ := D
  refine ⟨f, fd, F.ok sc__law_free_glob (fun vs H Q E h => ?_) (fun cdv A outer s₀ H vs Q E hr h => ?_), gf, F.kp, bf⟩
  · obtain ⟨s, a, u, cs, m, c, rfl, _⟩ := h; rfl
  · obtain ⟨s, a, u, cs, m, c, rfl, hU, us, cl, m0, m1, hS, q⟩ := h
    refine ⟨_, (pss_cons (ps_set (i := 3) sc__law_free_glob.nd rfl (Or.inr rfl) (pe_lst (pa_cons (pe_ix ix_list (pv 1) pe_int (fun _ _ => rfl)) (pa_cons (pe_ix ix_list (pv 1) pe_int (fun _ _ => rfl)) (pa_cons (pe_ix ix_list (pv 1) pe_int (fun _ _ => rfl)) (pa_cons pe_str (pa_cons pe_str (pa_cons pe_str (pa_cons pe_str (pa_cons (pe_ix ix_list (pv 1) pe_int (fun _ _ => rfl)) pa_nil))))))))))
      (pss_one (ps_ret (pe_join pe_str (pe_lc (own := [("k", 4)]) (g := gName 4) (tt := tYes) rfl sc__law_free_glob.nd (pi_range1 (by rfl) T.n_range (pa_cons (pe_op op_add pe_int (pe_call G__law_draw (hr.mono (by decide)) (by rfl) g__law_draw k__law_draw b__law_draw .nil pass0 (pa_cons (pv 0) (pa_cons (pv 2) pa_nil)))) pa_nil)) (blkOk_by (own := [("k", 4)]) (N := N__law_free_glob) (sc := defScope s__law_free_glob) (by decide +kernel)) (fun _ _ _ _ _ => pg_name (i := 4) sc__law_free_glob.nd rfl (Or.inl rfl)) (fun _ _ _ _ _ => pts_nil) (fun _ _ _ _ _ => (pe_call G__law_pick (hr.mono (by decide)) (by rfl) g__law_pick k__law_pick b__law_pick .nil pass0 (pa_cons (pv 0) (pa_cons (pv 3) pa_nil))))))))), ?_⟩
    obtain ⟨c1, c2, c3, c4, rfl⟩ : ∃ c1 c2 c3 c4, cs = [c1, c2, c3, c4] := by
      match cs, cl with
      | [x, y, z, w], _ => exact ⟨x, y, z, w, rfl⟩
    refine ⟨_, rfl, u, _, _, .str (S [c1]), rfl, rfl, hU, atI_nat (j := 0) rfl, _, rfl, u, _, _, .str (S [c2]), rfl, rfl, hU, atI_nat (j := 1) rfl, _, rfl, u, _, _, .str (S [c3]), rfl, rfl, hU, atI_nat (j := 2) rfl, _, rfl, u, _, _, .str (S [c1]), rfl, rfl, hU, atI_nat (j := 0) rfl, by show 8 ≤ sizeLine; decide, fun M hM => ?_⟩
    have Ms := hS.ne hM
    have S0 := hS.new (o := HO.lst [V.str (S [c1]), .str (S [c2]), .str (S [c3]), .str (Str.ofString "."), .str (Str.ofString "*"), .str (Str.ofString "?"), .str (Str.ofString "*"), .str (S [c1])]) hM
    have hM1 : (upd H M (HO.lst [V.str (S [c1]), .str (S [c2]), .str (S [c3]), .str (Str.ofString "."), .str (Str.ofString "*"), .str (Str.ofString "?"), .str (Str.ofString "*"), .str (S [c1])])) M = some _ := upd_same
    refine ⟨⟨_, rfl⟩, _, rfl, _, rfl, s, a, m, c + 99, rfl, m0, by omega, S0, fun v H1 v0 v1 x1 S1 => ?_⟩
    refine ⟨_, _, rfl, rfl, _, rfl, by omega, by omega, fun D hD => ?_⟩
    refine lc_strs (n := (1 + v).toNat) (d := 1) (c := c) (fun x => (tl x).length = 1) hD (S1.mono (by omega)) (by omega) (fun _ => rfl) (fun i c' Hx R hi hE' hS' k => ?_) (fun xs H3 hx3 hl3 hA3 hE3 hS3 => ?_)
    · refine ⟨_, rfl, _, rfl, .inl ⟨s, a, M, _, c', rfl, SqL.of (hE' _ _ Ms (x1 _ _ Ms hM1)), Ms, (fun h => (by cases h)), by show 8 ≤ 100000; decide, hS', fun w H4 wm x4 S4 => ?_⟩⟩
      simp only [List.mem_cons, List.not_mem_nil, or_false] at wm
      rcases wm with e | e | e | e | e | e | e | e <;> subst e <;> exact k _ H4 rfl x4 S4
    · have hs := sum_len (n := 1) (xs := xs) fun x m => Nat.le_of_eq (hA3 x m)
      refine ⟨_, D, xs, rfl, rfl, .inl (SqL.of hx3), ?_, ?_⟩
      · show _ + xs.length * 0 ≤ _; omega
      refine q _ H3 ?_ ((Ext.new hM).trans (x1.trans hE3)) hS3
      rw [tl_joinS]
      refine Nat.le_trans (joinL_len (n := 1) fun l m => ?_) ?_
      · obtain ⟨x, hx, rfl⟩ := List.mem_map.mp m
        exact Nat.le_of_eq (hA3 x hx)
      · rw [List.length_map]; show xs.length * (1 + 0) ≤ 60; omega
end
section
variable {P : Program} {w : World} {K : PySem.W.Frag} {mg : Str → Option Value} {base : Heap}
theorem ok__law_put (D : Df K mg "_law_put" s__law_put ["text", "sign"]) (T : Tx mg)  : Cal P w K mg base "_law_put" ["text", "sign"] 1 sp__law_put := by
  obtain ⟨f, fd, F, gf, bf⟩ := D
  refine ⟨f, fd, F.ok sc__law_put (fun vs H Q E h => ?_) (fun cdv A outer s₀ H vs Q E hr h => ?_), gf, F.kp, bf⟩
  · obtain ⟨t, c, rfl, _⟩ := h; rfl
  · obtain ⟨t, c, rfl, cn, tn, tlen, q⟩ := h
    refine ⟨_, (pss_cons (ps_if (PW.pt (pw_and (pt_cmpR op_in_seq (pe_slice sl_str (pv 0) (po_some (pe_un un_neg pe_int)) po_none) (pe_tup (pa_cons pe_str (pa_cons pe_str pa_nil))) (by rfl)) (pw_and1 (pt_cmpR op_notIn_sign (pv 1) pe_str (by rfl)))))
      (pss_one (ps_ret (pv 0)))
      pss_nil)
      (pss_one (ps_ret (pe_op op_add_str (pv 0) (pv 1))))), ?_⟩
    have small : ∀ n : Nat, n ≤ 30000 → n ≤ sizeLine := fun n h => Nat.le_trans h (by decide)
    have lS : ∀ y : Str, y.length = (tl y).length := tl_len
    have one : (tl (S [c])).length = 1 := rfl
    refine ⟨_, rfl, 1, rfl, -1, rfl, t, rfl, small _ (by rw [lS]; omega), by show 2 ≤ sizeLine; decide, fun p hp => ?_⟩
    have more : ∀ (H' : Hp), Same H H' → t.length + (S [c]).length ≤ sizeLine ∧ Q (.str (t ++ S [c])) H' := fun H' m => by
      refine ⟨small _ (by rw [lS, lS, one]; omega), q _ H' m ?_ ?_⟩
      · rw [tl_app]; exact tn.app fun d hd => by rw [List.mem_singleton.mp hd]; exact cn
      · rw [tl_app, List.length_append, one]; omega
    refine ⟨p, _, rfl, .inr (SqT.of upd_same), rfl, rfl, _, rfl, ite2 (fun _ => ?_) (fun _ => iteF ?_)⟩
    · refine ⟨_, rfl, c, _, rfl, rfl, _, rfl, ite2 (fun _ => ⟨_, rfl, q t _ (same_new hp) tn (by omega)⟩) (fun _ => ?_)⟩
      exact ⟨_, rfl, _, rfl, _, _, rfl, rfl, more _ (same_new hp)⟩
    · exact ⟨_, rfl, _, rfl, _, _, rfl, rfl, more _ (same_new hp)⟩
end
section
variable {P : Program} {w : World} {K : PySem.W.Frag} {mg : Str → Option Value} {base : Heap}
theorem ok__law_beginning (D : Df K mg "_law_beginning" s__law_beginning ["source", "glob", "signs"]) (T : Tx mg) (C__law_draw : Cal P w K mg base "_law_draw" ["source", "many"] 2 sp__law_draw) (C__law_pick : Cal P w K mg base "_law_pick" ["source", "row"] 3 (sp__law_pick K)) (C__law_put : Cal P w K mg base "_law_put" ["text", "sign"] 1 sp__law_put) : Cal P w K mg base "_law_beginning" ["source", "glob", "signs"] 4 (sp__law_beginning K) := by
  obtain ⟨f__law_draw, fd__law_draw, G__law_draw, g__law_draw, k__law_draw, b__law_draw⟩ := C__law_draw
  obtain ⟨f__law_pick, fd__law_pick, G__law_pick, g__law_pick, k__law_pick, b__law_pick⟩ := C__law_pick
  obtain ⟨f__law_put, fd__law_put, G__law_put, g__law_put, k__law_put, b__law_put⟩ := C__law_put
  obtain ⟨f, fd, F, gf, bf⟩ := D
  refine ⟨f, fd, F.ok sc__law_beginning (fun vs H Q E h => ?_) (fun cdv A outer s₀ H vs Q E hr h => ?_), gf, F.kp, bf⟩
  · obtain ⟨s, a, u, g, cs, c, rfl, _⟩ := h; rfl
  · obtain ⟨s, a, u, g, cs, c, rfl, gl, hU, us, cl, cn, hS, q⟩ := h
    refine ⟨_, (pss_cons (ps_set (i := 3) sc__law_beginning.nd rfl (Or.inl rfl) (pe_op L2.op_cat (pv 2) (pe_lst (pa_cons pe_str (pa_cons (pe_item_str pe_str (pe_call G__law_draw (hr.mono (by decide)) (by rfl) g__law_draw k__law_draw b__law_draw .nil pass0 (pa_cons (pv 0) (pa_cons pe_int pa_nil))) (fun _ _ => rfl)) pa_nil)))))
      (pss_cons (ps_set (i := 4) sc__law_beginning.nd rfl (Or.inl rfl) (pv 1))
      (C8.pss_cut (ps_if (pt_cmpR op_eq (pe_call G__law_draw (hr.mono (by decide)) (by rfl) g__law_draw k__law_draw b__law_draw .nil pass0 (pa_cons (pv 0) (pa_cons pe_int pa_nil))) pe_int (nomark _))
      (pss_one (ps_set (i := 4) sc__law_beginning.nd rfl (Or.inl rfl) (pe_slice sl_str (pv 1) po_none (po_some (pe_call G__law_draw (hr.mono (by decide)) (by rfl) g__law_draw k__law_draw b__law_draw .nil pass0 (pa_cons (pv 0) (pa_cons (pe_op op_add (pe_callB call_lenS (by rfl) T.n_len PySem.boot_len (pa_cons (pv 1) pa_nil)) pe_int) pa_nil)))))))
      pss_nil)
      (pss_cons (ps_set (i := 5) sc__law_beginning.nd rfl (Or.inl rfl) pe_str)
      (pss_cons (ps_for PassesOwn.never rfl (pi_str (pv 4)) (pg_name (i := 6) sc__law_beginning.nd rfl (Or.inl rfl))
      (pss_one (ps_if (pt_cmpR op_eq (pv 6) pe_str (nomark _))
        (pss_one (ps_for PassesOwn.never rfl (pi_range1 (by rfl) T.n_range (pa_cons (pe_call G__law_draw (hr.mono (by decide)) (by rfl) g__law_draw k__law_draw b__law_draw .nil pass0 (pa_cons (pv 0) (pa_cons pe_int pa_nil))) pa_nil)) (pg_name (i := 7) sc__law_beginning.nd rfl (Or.inl rfl))
          (pss_one (ps_set (i := 5) sc__law_beginning.nd rfl (Or.inl rfl) (pe_call G__law_put (hr.mono (by decide)) (by rfl) g__law_put k__law_put b__law_put .nil pass0 (pa_cons (pv 5) (pa_cons (pe_call G__law_pick (hr.mono (by decide)) (by rfl) g__law_pick k__law_pick b__law_pick .nil pass0 (pa_cons (pv 0) (pa_cons (pv 3) pa_nil))) pa_nil)))))))
        (pss_one (ps_if (pt_cmpR op_eq (pv 6) pe_str (nomark _))
          (pss_one (ps_set (i := 5) sc__law_beginning.nd rfl (Or.inl rfl) (pe_call G__law_put (hr.mono (by decide)) (by rfl) g__law_put k__law_put b__law_put .nil pass0 (pa_cons (pv 5) (pa_cons (pe_call G__law_pick (hr.mono (by decide)) (by rfl) g__law_pick k__law_pick b__law_pick .nil pass0 (pa_cons (pv 0) (pa_cons (pv 3) pa_nil))) pa_nil)))))
          (pss_one (ps_set (i := 5) sc__law_beginning.nd rfl (Or.inl rfl) (pe_call G__law_put (hr.mono (by decide)) (by rfl) g__law_put k__law_put b__law_put .nil pass0 (pa_cons (pv 5) (pa_cons (pv 6) pa_nil))))))))))
      (pss_cons (ps_for PassesOwn.never rfl (pi_range1 (by rfl) T.n_range (pa_cons (pe_call G__law_draw (hr.mono (by decide)) (by rfl) g__law_draw k__law_draw b__law_draw .nil pass0 (pa_cons (pv 0) (pa_cons pe_int pa_nil))) pa_nil)) (pg_name (i := 7) sc__law_beginning.nd rfl (Or.inl rfl))
      (pss_one (ps_set (i := 5) sc__law_beginning.nd rfl (Or.inl rfl) (pe_call G__law_put (hr.mono (by decide)) (by rfl) g__law_put k__law_put b__law_put .nil pass0 (pa_cons (pv 5) (pa_cons (pe_call G__law_pick (hr.mono (by decide)) (by rfl) g__law_pick k__law_pick b__law_pick .nil pass0 (pa_cons (pv 0) (pa_cons (pv 3) pa_nil))) pa_nil))))))
      (pss_one (ps_ret (pv 5))))))))), ?_⟩
    have small : ∀ n : Nat, n ≤ 30000 → n ≤ sizeLine := fun n h => Nat.le_trans h (by decide)
    have lS : ∀ y : Str, y.length = (tl y).length := tl_len
    have z36 : (Str.ofString "abcdefghijklmnopqrstuvwxyz0123456789").length = 36 := by decide +kernel
    refine ⟨_, rfl, _, rfl, s, a, _, c + 999, rfl, by decide, by decide, hS, fun d H1 d0 d1 x1 S1 => ?_⟩
    obtain ⟨ch, e1, _, m1⟩ := at_str (x := Str.ofString "abcdefghijklmnopqrstuvwxyz0123456789") d0 (by rw [z36]; exact d1)
    have chn : ch ≠ 42 := fun e => by subst e; exact absurd m1 (by decide +kernel)
    refine ⟨_, d, ch, rfl, rfl, d0, by omega, by rw [z36]; exact d1, e1, by show 2 ≤ sizeLine; decide, fun N hN => ?_⟩
    have hU1 := x1 _ _ us hU
    refine ⟨u, N, _, _, rfl, rfl, same_new hN _ _ hU1, upd_same, by rw [List.length_map]; exact small _ (by show _ + 2 ≤ _; omega), fun M hM => ?_⟩
    have Ms : M ≠ s := (S1.new hN).ne hM
    have S2 := (S1.new hN).new (o := HO.lst (sgs cs ++ [V.str (Str.ofString "."), .str (S [ch])])) hM
    have x2 : Ext s H _ := x1.trans ((Ext.new hN).trans (Ext.new (o := HO.lst (sgs cs ++ [V.str (Str.ofString "."), .str (S [ch])])) hM))
    have hM2 : (upd (upd H1 N (HO.lst [V.str (Str.ofString "."), .str (S [ch])])) M (HO.lst (sgs cs ++ [V.str (Str.ofString "."), .str (S [ch])]))) M = some (.lst (sgs (cs ++ [46, ch]))) := by
      rw [upd_same]; unfold sgs; rw [List.map_append]; rfl
    have mn : No42 (cs ++ [46, ch]) := cn.app fun y hy => by
      simp only [List.mem_cons, List.not_mem_nil, or_false] at hy
      rcases hy with e | e <;> subst e
      · decide
      · exact chn
    have mne : sgs (cs ++ [46, ch]) ≠ [] := fun h => by
      have := congrArg List.length h
      rw [List.length_map, List.length_append] at this
      cases this
    have mlen : (sgs (cs ++ [46, ch])).length ≤ 100000 := by rw [List.length_map, List.length_append]; show _ + 2 ≤ _; omega
    refine ⟨_, rfl, ?_⟩
    refine ⟨fun σ' H' => ∃ (part : Str) (v5 v6 v7 : Option V), σ' = [some (.ref s), some (.str g), some (.ref u), some (.ref M), some (.str part), v5, v6, v7] ∧ (tl part).length ≤ 60 ∧ H' M = some (.lst (sgs (cs ++ [46, ch]))) ∧ Ext s H H' ∧ Src H' s a (c + 900), ?_, ?_⟩
    · refine ⟨_, rfl, s, a, _, c + 998, rfl, by decide, by decide, S2, fun v H3 v0 v1 x3 S3 => ?_⟩
      refine ⟨rfl, _, rfl, ite2 (fun _ => ?_) (fun _ => ⟨g, _, _, _, rfl, gl, x3 _ _ Ms hM2, x2.trans x3, S3.mono (by omega)⟩)⟩
      refine ⟨_, rfl, _, rfl, _, rfl, g, rfl, small _ (by rw [lS]; omega), _, _, rfl, rfl, s, a, _, c + 997, rfl, by omega, by have := lS g; omega, S3, fun w H4 w0 w1 x4 S4 => ?_⟩
      refine ⟨w, rfl, g, rfl, small _ (by rw [lS]; omega), ?_⟩
      exact ⟨_, _, _, _, rfl, Nat.le_trans (cut_le _ _ _) gl, x4 _ _ Ms (x3 _ _ Ms hM2), x2.trans (x3.trans x4), S4.mono (by omega)⟩
    rintro σ' H3 ⟨part, v5, v6, v7, rfl, pl, hM3, x3, S3⟩
    refine ⟨_, rfl, part, rfl, ?_⟩
    refine for_str (l := tl part) (fun i σ H' => ∃ (t : Str) (v6 v7 : Option V), σ = [some (.ref s), some (.str g), some (.ref u), some (.ref M), some (.str part), some (.str t), v6, v7] ∧ No42 (tl t) ∧ (tl t).length ≤ 2 * i ∧ H' M = some (.lst (sgs (cs ++ [46, ch]))) ∧ Ext s H H' ∧ Src H' s a (c + (900 - 4 * i))) ⟨Str.ofString "", _, _, rfl, (fun _ h => (by cases h)), Nat.zero_le _, hM3, x3, S3⟩ ?_ ?_
    · rintro i d σ H4 hi ⟨t, v6, v7, rfl, tn, tlen, hM4, x4, S4⟩
      have ib := (List.getElem?_eq_some_iff.mp hi).1
      refine ⟨_, rfl, rfl, _, rfl, ite2 (fun _ => ?_) (fun ns => ?_)⟩
      · refine ⟨_, rfl, s, a, _, c + (900 - 4 * i) - 1, rfl, by decide, by decide, S4.mono (by omega), fun n H5 n0 n1 x5 S5 => ⟨_, rfl, by omega, by omega, ?_⟩⟩
        refine for_range (lo := 0) (n := n.toNat) (fun k σ H' => ∃ (t : Str) (v6 v7 : Option V), σ = [some (.ref s), some (.str g), some (.ref u), some (.ref M), some (.str part), some (.str t), v6, v7] ∧ No42 (tl t) ∧ (tl t).length ≤ 2 * i + k ∧ H' M = some (.lst (sgs (cs ++ [46, ch]))) ∧ Ext s H H' ∧ Src H' s a (c + (900 - 4 * i) - 1 - k)) ⟨t, _, _, rfl, tn, tlen, x5 _ _ Ms hM4, x4.trans x5, S5⟩ ?_ ?_
        · rintro k σ H6 hk ⟨t, v6, v7, rfl, tn, tlen, hM6, x6, S6⟩
          refine ⟨_, rfl, _, rfl, _, rfl, .inl ⟨s, a, M, _, c + (900 - 4 * i) - 1 - (k + 1), rfl, SqL.of hM6, Ms, mne, mlen, S6.mono (by omega), fun w H7 wm x7 S7 => ?_⟩⟩
          obtain ⟨e, em, rfl⟩ := List.mem_map.mp wm
          refine ⟨t, e, rfl, mn e em, tn, by omega, fun y H8 m8 yn yl => ?_⟩
          exact ⟨y, _, _, rfl, yn, by omega, m8 _ _ (x7 _ _ Ms hM6), x6.trans (x7.trans (Ext.of m8)), S7.ext m8⟩
        · rintro σ H6 ⟨t, v6, v7, rfl, tn, tlen, hM6, x6, S6⟩
          exact ⟨t, _, _, rfl, tn, by omega, hM6, x6, S6.mono (by omega)⟩
      · have dn : d ≠ 42 := fun e => ns (decide_eq_true (by rw [e]; rfl))
        refine ⟨_, rfl, rfl, _, rfl, ite2 (fun _ => ?_) (fun _ => ?_)⟩
        · refine ⟨_, rfl, _, rfl, _, rfl, .inl ⟨s, a, M, _, c + (900 - 4 * i) - 1, rfl, SqL.of hM4, Ms, mne, mlen, S4.mono (by omega), fun w H7 wm x7 S7 => ?_⟩⟩
          obtain ⟨e, em, rfl⟩ := List.mem_map.mp wm
          refine ⟨t, e, rfl, mn e em, tn, by omega, fun y H8 m8 yn yl => ?_⟩
          exact ⟨y, _, _, rfl, yn, by omega, m8 _ _ (x7 _ _ Ms hM4), x4.trans (x7.trans (Ext.of m8)), (S7.ext m8).mono (by omega)⟩
        · refine ⟨_, rfl, _, rfl, t, d, rfl, dn, tn, by omega, fun y H8 m8 yn yl => ?_⟩
          exact ⟨y, _, _, rfl, yn, by omega, m8 _ _ hM4, x4.trans (Ext.of m8), (S4.ext m8).mono (by omega)⟩
    · rintro σ H4 ⟨t, v6, v7, rfl, tn, tlen, hM4, x4, S4⟩
      refine ⟨_, rfl, s, a, _, c + 600, rfl, by decide, by decide, S4.mono (by omega), fun n H5 n0 n1 x5 S5 => ⟨_, rfl, by omega, by omega, ?_⟩⟩
      refine for_range (lo := 0) (n := n.toNat) (fun k σ H' => ∃ (t : Str) (v6 v7 : Option V), σ = [some (.ref s), some (.str g), some (.ref u), some (.ref M), some (.str part), some (.str t), v6, v7] ∧ No42 (tl t) ∧ (tl t).length ≤ 120 + k ∧ H' M = some (.lst (sgs (cs ++ [46, ch]))) ∧ Ext s H H' ∧ Src H' s a (c + 600 - k)) ⟨t, _, _, rfl, tn, by omega, x5 _ _ Ms hM4, x4.trans x5, S5⟩ ?_ ?_
      · rintro k σ H6 hk ⟨t, v6, v7, rfl, tn, tlen, hM6, x6, S6⟩
        refine ⟨_, rfl, _, rfl, _, rfl, .inl ⟨s, a, M, _, c + 600 - (k + 1), rfl, SqL.of hM6, Ms, mne, mlen, S6.mono (by omega), fun w H7 wm x7 S7 => ?_⟩⟩
        obtain ⟨e, em, rfl⟩ := List.mem_map.mp wm
        refine ⟨t, e, rfl, mn e em, tn, by omega, fun y H8 m8 yn yl => ?_⟩
        exact ⟨y, _, _, rfl, yn, by omega, m8 _ _ (x7 _ _ Ms hM6), x6.trans (x7.trans (Ext.of m8)), S7.ext m8⟩
      · rintro σ H6 ⟨t, v6, v7, rfl, tn, tlen, hM6, x6, S6⟩
        exact ⟨_, rfl, q t H6 tn (by omega) x6 (S6.mono (by omega))⟩
end

end Z
namespace Z
open PySem L2 SX
section
variable {P : Program} {w : World} {K : PySem.W.Frag} {mg : Str → Option Value} {base : Heap}
theorem ok__law_table (D : Df K mg "_law_table" s__law_table ["glob", "beginning"]) (T : Tx mg)  : Cal P w K mg base "_law_table" ["glob", "beginning"] 1 (sp__law_table K) := by
  obtain ⟨f, fd, F, gf, bf⟩ := D
  refine ⟨f, fd, F.ok sc__law_table (fun vs H Q E h => ?_) (fun cdv A outer s₀ H vs Q E hr h => ?_), gf, F.kp, bf⟩
  · obtain ⟨g, b, rfl, _⟩ := h; rfl
  · obtain ⟨g, b, rfl, gl, bl, q⟩ := h
    refine ⟨_, (pss_cons (ps_set (i := 2) sc__law_table.nd rfl (Or.inl rfl) (pe_lst pa_nil))
      (pss_cons (ps_for PassesOwn.never rfl (pi_range1 (by rfl) T.n_range (pa_cons (pe_op op_add (pe_callB call_lenS (by rfl) T.n_len PySem.boot_len (pa_cons (pv 1) pa_nil)) pe_int) pa_nil)) (pg_name (i := 3) sc__law_table.nd rfl (Or.inl rfl))
      (pss_cons (ps_set (i := 4) sc__law_table.nd rfl (Or.inl rfl) (pe_lst (pa_cons (pe_cmpR op_eq (pv 3) pe_int (nomark _)) pa_nil)))
        (pss_cons (ps_for PassesOwn.never rfl (pi_range2 (by rfl) T.n_range (pa_cons pe_int (pa_cons (pe_op op_add (pe_callB call_lenS (by rfl) T.n_len PySem.boot_len (pa_cons (pv 0) pa_nil)) pe_int) pa_nil))) (pg_name (i := 5) sc__law_table.nd rfl (Or.inl rfl))
        (pss_one (ps_if (pt_cmpR op_eq (pe_item_str (pv 0) (pe_op op_sub (pv 5) pe_int) (fun _ _ => rfl)) pe_str (nomark _))
          (pss_one (ps_expr (pe_bm PySem.F.plainAttrs_list PySem.F.slot_list_append PySem.F.type_list_append mt_append (pv 4) (pa_cons (pe_or (pe_ix ix_list (pv 4) (pe_op op_sub (pv 5) pe_int) (fun _ _ => rfl)) (pe_one (pe_and (pe_cmpR op_gt (pv 3) pe_int (nomark _)) (pe_one (pe_ix ix_list (pe_ix ix_list (pv 2) (pe_op op_sub (pv 3) pe_int) (fun _ _ => rfl)) (pv 5) (fun _ _ => rfl)))))) pa_nil))))
          (pss_one (ps_expr (pe_bm PySem.F.plainAttrs_list PySem.F.slot_list_append PySem.F.type_list_append mt_append (pv 4) (pa_cons (pe_and (pe_cmpR op_gt (pv 3) pe_int (nomark _)) (pe_and (pe_ix ix_list (pe_ix ix_list (pv 2) (pe_op op_sub (pv 3) pe_int) (fun _ _ => rfl)) (pe_op op_sub (pv 5) pe_int) (fun _ _ => rfl)) (pe_one (pe_cmpR op_in_seq (pe_item_str (pv 0) (pe_op op_sub (pv 5) pe_int) (fun _ _ => rfl)) (pe_tup (pa_cons pe_str (pa_cons (pe_item_str (pv 1) (pe_op op_sub (pv 3) pe_int) (fun _ _ => rfl)) pa_nil))) (by rfl))))) pa_nil)))))))
        (pss_one (ps_expr (pe_bm PySem.F.plainAttrs_list PySem.F.slot_list_append PySem.F.type_list_append mt_append (pv 2) (pa_cons (pv 4) pa_nil)))))))
      (pss_one (ps_ret (pe_lc (own := [("row", 4)]) (g := gName 4) (tt := tYes) rfl sc__law_table.nd (pi_list (pv 2)) (blkOk_by (own := [("row", 4)]) (N := N__law_table) (sc := defScope s__law_table) (by decide +kernel)) (fun _ _ _ _ _ => pg_name (i := 4) sc__law_table.nd rfl (Or.inr rfl)) (fun _ _ _ _ _ => pts_nil) (fun _ _ _ _ _ => (pe_callTy (T := "tuple") (call_tupQ (K := K) rfl) (by rfl) T.n_tuple (by decide +kernel) (pa_cons (pe_lc (own := [("i", 5)]) (g := gName 5) rfl sc__law_table.nd (pi_range1 (by rfl) T.n_range (pa_cons (pe_op op_add (pe_callB call_lenS (by rfl) T.n_len PySem.boot_len (pa_cons (pv 0) pa_nil)) pe_int) pa_nil)) (blkOk_by (own := [("i", 5)]) (N := N__law_table) (sc := { kind := .function, names := [(Str.ofString ".0", .local), (Str.ofString "row", .cell), (Str.ofString "tuple", .globalImplicit), (Str.ofString "range", .globalImplicit), (Str.ofString "len", .globalImplicit), (Str.ofString "glob", .cell)], isGenerator := false, isCoroutine := false }) (by decide +kernel)) (fun _ _ _ _ _ => pg_name (i := 5) sc__law_table.nd rfl (Or.inl rfl)) (fun _ _ _ _ _ => pts_one (pt_val (pe_ix (ix_listQ (K := K) rfl) (pv 4) (pv 5) (fun _ _ => rfl)))) (fun _ _ _ _ _ => (pv 5))) pa_nil)))))))), ?_⟩
    have small : ∀ n : Nat, n ≤ 30000 → n < sizeLine := fun n h => Nat.lt_of_le_of_lt h (by decide)
    have lS : ∀ y : Str, y.length = (tl y).length := tl_len
    have lg := lS g
    have lb := lS b
    refine ⟨Nat.zero_le _, fun R hR => ?_⟩
    refine ⟨_, rfl, b, rfl, Nat.le_of_lt (small _ (by omega)), _, _, rfl, rfl, _, rfl, by omega, by omega, ?_⟩
    refine for_range (lo := 0) (n := ((b.length : Int) + 1).toNat) (fun j σ H' => ∃ (rs : List Addr) (v3 v4 v5 : Option V), σ = [some (.str g), some (.str b), some (.ref R), v3, v4, v5] ∧ H' R = some (.lst (rs.map V.ref)) ∧ rs.length = j ∧ RowsOk H' (tl g) (tl b) rs ∧ Same H H') ?_ ?_ ?_
    · exact ⟨[], _, _, _, rfl, upd_same, rfl, (fun k t h => by simp at h), same_new hR⟩
    · rintro j σ H1 hj ⟨rs, v3, v4, v5, rfl, hR1, rl, hrs, m1⟩
      have jb : j ≤ (tl b).length := by omega
      refine ⟨_, rfl, rfl, by show 1 ≤ sizeLine; decide, fun W hW => ?_⟩
      have RW : R ≠ W := ne_of_none hR1 hW
      have Wn : W ∉ rs := fun h => by
        obtain ⟨k, hk⟩ := List.getElem?_of_mem h
        obtain ⟨bs, q, _⟩ := hrs k W hk
        rw [hW] at q; cases q
      have HW : H W = none := by
        cases e : H W with
        | none => rfl
        | some o => rw [m1 _ _ e] at hW; cases hW
      refine ⟨_, rfl, g, rfl, Nat.le_of_lt (small _ (by omega)), _, _, rfl, rfl, _, _, rfl, by omega, ?_⟩
      refine for_range (lo := 1) (n := ((g.length : Int) + 1 - 1).toNat) (fun i σ H' => (∃ v5 : Option V, σ = [some (.str g), some (.str b), some (.ref R), some (.int (0 + (j : Int))), some (.ref W), v5]) ∧ TIn H (tl g) (tl b) R rs W j i H') ?_ ?_ ?_
      · refine ⟨⟨_, rfl⟩, ⟨[decide (V.int (0 + (j : Int)) = V.int 0)], upd_same, rfl, fun y hy => ?_⟩, by rw [upd_ne RW]; exact hR1, hrs.put Wn, m1.trans (same_new hW)⟩
        have e : y = 0 := by omega
        subst e
        rw [dB_eq (b := decide (V.int (0 + (j : Int)) = V.int 0))]
        · rfl
        · rw [tab_zero jb, decide_eq_true_iff]
          exact ⟨fun e => by subst e; rfl, fun e => by injection e with e; omega⟩
      · rintro i σ H2 hi ⟨⟨v5, rfl⟩, ⟨bs, hb, hl, hy⟩, hR2, hr2, m2⟩
        have ib : i < (tl g).length := by omega
        have ti : (1 + (i : Int) - 1).toNat = i := by omega
        obtain ⟨ch, g1, g2, _⟩ := at_str (x := g) (i := 1 + (i : Int) - 1) (by omega) (by omega)
        rw [ti] at g2
        have fin : ∀ (H3 : Hp), Same H2 H3 → ∀ v : Bool, dB (stand (tl g) ((tl b).take j)) (i + 1) = v → ∃ p ys y, V.ref W = V.ref p ∧ [V.bl v] = [y] ∧ H3 p = some (.lst ys) ∧ ys.length < sizeLine ∧ ((∃ v5 : Option V, [some (V.str g), some (.str b), some (.ref R), some (.int (0 + (j : Int))), some (.ref W), some (.int (1 + (i : Int)))] = [some (V.str g), some (.str b), some (.ref R), some (.int (0 + (j : Int))), some (.ref W), v5]) ∧ TIn H (tl g) (tl b) R rs W j (i + 1) (upd H3 p (.lst (ys ++ [y])))) := fun H3 m3 v hv => by
          exact ⟨W, _, _, rfl, rfl, m3 _ _ hb, by rw [List.length_map]; exact small _ (by omega), ⟨_, rfl⟩, TIn.step (m3 _ _ hb) hl hy (m3 _ _ hR2) (hr2.same m3) (m2.trans m3) Wn RW HW hv⟩
        refine ⟨_, rfl, _, rfl, _, _, rfl, rfl, g, 1 + (i : Int) - 1, ch, rfl, rfl, by omega, by omega, by omega, g1, rfl, _, rfl, ite2 (fun cs => ?_) (fun cs => ?_)⟩
        · have e42 : ch = 42 := (List.cons.inj (congrArg tl (V.str.inj (of_decide_eq_true cs)))).1
          subst e42
          have st := tab_star (i := i) jb g2
          refine ⟨_, rfl, .inl ⟨rfl, _, SqL.of hb⟩, ?_⟩
          refine ⟨_, rfl, _, rfl, _, _, rfl, rfl, W, _, _, .bl (dB (stand (tl g) ((tl b).take j)) i), rfl, rfl, SqL.of hb, atI_pos (by omega) (by rw [ti, List.getElem?_map, hy i (by omega)]; rfl), _, rfl, ite2 (fun k => ?_) (fun k => ?_)⟩
          · exact fin _ (Same.refl _) true (dB_eq ⟨fun _ => rfl, fun _ => st.mpr (.inl (dB_iff.mp k))⟩)
          · refine ⟨_, rfl, _, _, rfl, rfl, _, rfl, ite2 (fun c => ?_) (fun c => ?_)⟩
            · have j0 : 0 < j := by have := of_decide_eq_true c; omega
              have tj : (0 + (j : Int) - 1).toNat = j - 1 := by omega
              obtain ⟨t, ht⟩ : ∃ t, rs[j - 1]? = some t := ⟨_, List.getElem?_eq_getElem (by omega)⟩
              obtain ⟨cs2, q1, q2, q3⟩ := hr2 _ _ ht
              refine ⟨_, rfl, _, rfl, _, _, rfl, rfl, R, _, _, .ref t, rfl, rfl, SqL.of hR2, atI_pos (by omega) (by rw [tj, List.getElem?_map, ht]; rfl), _, rfl, t, _, _, .bl (dB (stand (tl g) ((tl b).take (j - 1))) (i + 1)), rfl, rfl, SqL.of q1, atI_pos (by omega) (by rw [show (1 + (i : Int)).toNat = i + 1 by omega, List.getElem?_map, q3 (i + 1) (by omega)]; rfl), ?_⟩
              refine fin _ (Same.refl _) _ (dB_eq ?_)
              rw [st, dB_iff]
              exact ⟨fun h => h.elim (fun h => absurd (dB_iff.mpr h) k) (fun h => h.2), fun h => .inr ⟨j0, h⟩⟩
            · refine fin _ (Same.refl _) false (dB_eq ?_)
              rw [st]
              refine ⟨fun h => h.elim (fun h => absurd (dB_iff.mpr h) k) (fun h => absurd (decide_eq_true (show (0 : Int) < 0 + (j : Int) by omega)) c), fun h => (by cases h)⟩
        · have n42 : ch ≠ 42 := fun e => cs (decide_eq_true (by rw [e]; rfl))
          have st := tab_else (i := i) jb g2 n42
          refine ⟨_, rfl, .inl ⟨rfl, _, SqL.of hb⟩, ?_⟩
          refine ⟨_, rfl, _, _, rfl, rfl, _, rfl, ite2 (fun c => ?_) (fun c => ?_)⟩
          · have j0 : 0 < j := by have := of_decide_eq_true c; omega
            have tj : (0 + (j : Int) - 1).toNat = j - 1 := by omega
            obtain ⟨t, ht⟩ : ∃ t, rs[j - 1]? = some t := ⟨_, List.getElem?_eq_getElem (by omega)⟩
            obtain ⟨cs2, q1, q2, q3⟩ := hr2 _ _ ht
            refine ⟨_, rfl, _, rfl, _, _, rfl, rfl, R, _, _, .ref t, rfl, rfl, SqL.of hR2, atI_pos (by omega) (by rw [tj, List.getElem?_map, ht]; rfl), _, rfl, _, _, rfl, rfl, t, _, _, .bl (dB (stand (tl g) ((tl b).take (j - 1))) i), rfl, rfl, SqL.of q1, atI_pos (by omega) (by rw [ti, List.getElem?_map, q3 i (by omega)]; rfl), _, rfl, ite2 (fun k => ?_) (fun k => ?_)⟩
            · obtain ⟨d, b1, b2, _⟩ := at_str (x := b) (i := 0 + (j : Int) - 1) (by omega) (by omega)
              rw [tj] at b2
              refine ⟨_, rfl, _, rfl, _, _, rfl, rfl, g, 1 + (i : Int) - 1, ch, rfl, rfl, by omega, by omega, by omega, g1, _, rfl, _, rfl, _, _, rfl, rfl, b, 0 + (j : Int) - 1, d, rfl, rfl, by omega, by omega, by omega, b1, by show 2 ≤ sizeLine; decide, fun p hp => ?_⟩
              refine ⟨p, _, rfl, .inr (SqT.of upd_same), rfl, rfl, ?_⟩
              refine fin _ (same_new hp) _ (dB_eq ?_)
              rw [st]
              have e := inV_strs (S [ch]) [Str.ofString "?", S [d]]
              show _ ↔ inV (V.str (S [ch])) ([Str.ofString "?", S [d]].map V.str) = true
              rw [e, decide_eq_true_iff, List.mem_cons, List.mem_singleton]
              constructor
              · rintro ⟨_, _, l⟩
                rcases l with l | l
                · subst l; exact .inl rfl
                · rw [b2] at l; cases l; exact .inr rfl
              · intro l
                refine ⟨j0, dB_iff.mp k, ?_⟩
                rcases l with l | l
                · exact .inl (List.cons.inj (show [ch] = [63] from congrArg tl l)).1
                · rw [b2]; exact .inr (by rw [(List.cons.inj (show [ch] = [d] from congrArg tl l)).1])
            · refine fin _ (Same.refl _) false (dB_eq ?_)
              rw [st]
              exact ⟨fun h => absurd (dB_iff.mpr h.2.1) k, fun h => (by cases h)⟩
          · refine fin _ (Same.refl _) false (dB_eq ?_)
            rw [st]
            exact ⟨fun h => absurd (decide_eq_true (show (0 : Int) < 0 + (j : Int) by omega)) c, fun h => (by cases h)⟩
      · rintro σ H2 ⟨⟨v5, rfl⟩, ⟨bs, hb, hl, hy⟩, hR2, hr2, m2⟩
        have en : ((g.length : Int) + 1 - 1).toNat = (tl g).length := by omega
        rw [en] at hl hy
        refine ⟨_, rfl, .inl ⟨rfl, _, SqL.of hR2⟩, _, rfl, R, _, _, rfl, rfl, hR2, by rw [List.length_map]; exact small _ (by omega), ?_⟩
        have Rn := rows_self hr2 hR2
        refine ⟨rs ++ [W], _, _, _, rfl, by rw [upd_same, List.map_append]; rfl, by rw [List.length_append, rl]; rfl, fun k t ht => ?_, fun u o h => by rw [upd_ne (ne_of_none h hR)]; exact m2 _ _ h⟩
        by_cases e : k < rs.length
        · rw [List.getElem?_append_left e] at ht
          exact (hr2.put Rn) k t ht
        · have : k < (rs ++ [W]).length := (List.getElem?_eq_some_iff.mp ht).1
          rw [List.length_append, List.length_singleton] at this
          have ek : k = rs.length := by omega
          subst ek
          rw [List.getElem?_append_right (Nat.le_refl _), Nat.sub_self] at ht
          have et : W = t := Option.some.inj ht
          subst et
          refine ⟨bs, by rw [upd_ne (Ne.symm RW)]; exact hb, hl, ?_⟩
          rw [rl]; exact hy
    · rintro σ H1 ⟨rs, v3, v4, v5, rfl, hR1, rl, hrs, m1⟩
      have rl' : rs.length = (tl b).length + 1 := by omega
      refine ⟨_, rfl, R, rfl, ⟨_, SqL.of hR1⟩, fun D hD => ?_⟩
      refine lc_list (K := K) (a := R) (xs := rs.map V.ref) (fun i H' => ∃ ts : List Addr, H' D = some (.lst (ts.map V.ref)) ∧ ts.length = i ∧ (∀ (k : Nat) (t : Addr), ts[k]? = some t → ∃ qs, H' t = some (.tup (nts qs)) ∧ Asd qs (stand (tl g) ((tl b).take k))) ∧ Same H1 H') ⟨[], upd_same, rfl, (fun k t h => by simp at h), same_new hD⟩ (fun i H' _ ⟨_, _, _, _, m⟩ => SqL.of (m _ _ hR1)) ?_ ?_
      · rintro i x H' hi ⟨ts, h1, h2, h3, h4⟩
        have ib := (List.getElem?_eq_some_iff.mp hi).1
        rw [List.length_map] at ib
        rw [List.getElem?_map] at hi
        obtain ⟨w', hw, rfl⟩ := Option.map_eq_some_iff.mp hi
        obtain ⟨bs, q1, q2, q3⟩ := hrs _ _ hw
        have q1' := h4 _ _ q1
        refine ⟨rfl, _, rfl, g, rfl, Nat.le_of_lt (small _ (by omega)), _, _, rfl, rfl, _, rfl, by omega, by omega, fun D2 hD2 => ?_⟩
        refine lc_range (lo := 0) (n := ((g.length : Int) + 1).toNat) (fun k H2 => H2 D2 = some (.lst (nts ((List.range k).filter (dB (stand (tl g) ((tl b).take i)))))) ∧ Same H' H2) ⟨upd_same, same_new hD2⟩ ?_ ?_
        · rintro k H2 hk ⟨e1, e2⟩
          have kb : k ≤ (tl g).length := by omega
          refine ⟨rfl, _, rfl, _, rfl, w', _, _, .bl (dB (stand (tl g) ((tl b).take i)) k), rfl, rfl, SqL.of (e2 _ _ q1'), atI_pos (by omega) (by rw [show (0 + (k : Int)).toNat = k by omega, List.getElem?_map, q3 k kb]; rfl), _, rfl, ite2 (fun c => ?_) (fun c => ?_)⟩
          · refine ⟨_, rfl, _, e1, ?_, ?_, fun u o h => by rw [upd_ne (ne_of_none h hD2)]; exact e2 _ _ h⟩
            · rw [List.length_map]
              exact small _ (Nat.le_trans (List.length_filter_le _ _) (by rw [List.length_range]; omega))
            · rw [upd_same, filt_succ, if_pos c, Int.zero_add]
              unfold nts
              rw [List.map_append]; rfl
          · refine ⟨?_, e2⟩
            rw [filt_succ, if_neg c]; exact e1
        · rintro H2 ⟨e1, e2⟩
          rw [show ((g.length : Int) + 1).toNat = (tl g).length + 1 by omega] at e1
          refine ⟨D2, _, rfl, .inl ⟨SqL.of e1, fun l hl => ?_⟩⟩
          have n1 := same_new (o := HO.tup (nts ((List.range ((tl g).length + 1)).filter (dB (stand (tl g) ((tl b).take i)))))) hl
          refine ⟨_, n1 _ _ (e2 _ _ h1), by rw [List.length_map]; exact small _ (by omega), ts ++ [l], by rw [upd_same, List.map_append]; rfl, by rw [List.length_append, h2]; rfl, fun k t ht => ?_, fun u o h => by rw [upd_ne (ne_of_none h hD)]; exact n1 _ _ (e2 _ _ (h4 _ _ h))⟩
          have lD : l ≠ D := (ne_of_none (e2 _ _ h1) hl).symm
          by_cases e : k < ts.length
          · rw [List.getElem?_append_left e] at ht
            obtain ⟨qs, y1, y2⟩ := h3 k t ht
            have tD : t ≠ D := fun ee => by rw [ee, h1] at y1; cases y1
            exact ⟨qs, by rw [upd_ne tD]; exact n1 _ _ (e2 _ _ y1), y2⟩
          · have : k < (ts ++ [l]).length := (List.getElem?_eq_some_iff.mp ht).1
            rw [List.length_append, List.length_singleton] at this
            have ek : k = ts.length := by omega
            subst ek
            rw [List.getElem?_append_right (Nat.le_refl _), Nat.sub_self] at ht
            have et : l = t := Option.some.inj ht
            subst et
            refine ⟨_, by rw [upd_ne lD]; exact upd_same, ?_⟩
            rw [h2]
            exact asd_range (stand_ok _ _).2
      · rintro H' ⟨ts, h1, h2, h3, h4⟩
        rw [List.length_map] at h2
        refine q D H' (m1.trans h4) ⟨ts, SqL.of h1, by omega, fun j t ht => ?_⟩
        obtain ⟨qs, y1, y2⟩ := h3 j t ht
        exact ⟨qs, SqT.of y1, y2⟩
end

end Z
namespace Z
open PySem L2 SX
section
variable {P : Program} {w : World} {K : PySem.W.Frag} {mg : Str → Option Value} {base : Heap}
theorem ok__law_all_right (D : Df K mg "_law_all_right" s__law_all_right ["glob", "beginning", "due"]) (T : Tx mg) (C__law_same : Cal P w K mg base "_law_same" ["actual", "due"] 3 (sp__law_same K 2)) (C_fits : Cal P w K mg base "fits" ["glob", "board"] 4 (sp_fits K)) (C_follows : Cal P w K mg base "follows" ["glob", "standing", "character"] 2 (sp_follows K)) (C_standing : Cal P w K mg base "standing" ["glob", "beginning"] 3 (sp_standing K)) : Cal P w K mg base "_law_all_right" ["glob", "beginning", "due"] 5 (sp__law_all_right K) := by
  obtain ⟨f__law_same, fd__law_same, G__law_same, g__law_same, k__law_same, b__law_same⟩ := C__law_same
  obtain ⟨f_fits, fd_fits, G_fits, g_fits, k_fits, b_fits⟩ := C_fits
  obtain ⟨f_follows, fd_follows, G_follows, g_follows, k_follows, b_follows⟩ := C_follows
  obtain ⟨f_standing, fd_standing, G_standing, g_standing, k_standing, b_standing⟩ := C_standing
  obtain ⟨f, fd, F, gf, bf⟩ := D
  refine ⟨f, fd, F.ok sc__law_all_right (fun vs H Q E h => ?_) (fun cdv A outer s₀ H vs Q E hr h => ?_), gf, F.kp, bf⟩
  · obtain ⟨g, b, R, rfl, _⟩ := h; rfl
  · obtain ⟨g, b, R, rfl, gl, bl, bn, hT, q⟩ := h
    refine ⟨_, (pss_cons (ps_for PassesOwn.never rfl (pi_range1 (by rfl) T.n_range (pa_cons (pe_callB call_len_seq (by rfl) T.n_len PySem.boot_len (pa_cons (pv 2) pa_nil)) pa_nil)) (pg_name (i := 3) sc__law_all_right.nd rfl (Or.inl rfl))
      (pss_cons (ps_set (i := 4) sc__law_all_right.nd rfl (Or.inl rfl) (pe_slice sl_str (pv 1) po_none (po_some (pv 3))))
        (C8.pss_cut (ps_if (PW.pt (pw_or (pt_cmpR op_lt (pv 3) pe_int (nomark _)) (pw_or1 (pt_cmpR op_eq (pv 3) (pe_op op_sub (pe_callB call_len_seq (by rfl) T.n_len PySem.boot_len (pa_cons (pv 2) pa_nil)) pe_int) (nomark _)))))
        (pss_cons (ps_if (pt_not (pt_val (pe_call G__law_same (hr.mono (by decide)) (by rfl) g__law_same k__law_same b__law_same .nil pass0 (pa_cons (pe_call G_standing (hr.mono (by decide)) (by rfl) g_standing k_standing b_standing .nil pass0 (pa_cons (pv 0) (pa_cons (pv 4) pa_nil))) (pa_cons (pe_ix ix_list (pv 2) (pv 3) (fun _ _ => rfl)) pa_nil)))))
          (pss_one (ps_ret pe_bl))
          pss_nil)
          (pss_one (ps_if (PW.pt (pw_and (pt_cmpR op_notIn_seq (pe_slice sl_str (pv 4) (po_some (pe_un un_neg pe_int)) po_none) (pe_tup (pa_cons pe_str (pa_cons pe_str pa_nil))) (by rfl)) (pw_and1 (pt_not (pt_val (pe_call G__law_same (hr.mono (by decide)) (by rfl) g__law_same k__law_same b__law_same .nil pass0 (pa_cons (pe_call G_fits (hr.mono (by decide)) (by rfl) g_fits k_fits b_fits .nil pass0 (pa_cons (pv 0) (pa_cons (pv 4) pa_nil))) (pa_cons (pe_cmpR op_in_seq (pe_callB call_lenS (by rfl) T.n_len PySem.boot_len (pa_cons (pv 0) pa_nil)) (pe_ix ix_list (pv 2) (pv 3) (fun _ _ => rfl)) (by rfl)) pa_nil))))))))
          (pss_one (ps_ret pe_bl))
          pss_nil)))
        pss_nil)
        (pss_one (ps_if (PW.pt (pw_and (pt_cmpR op_gt (pv 3) pe_int (nomark _)) (pw_and1 (pt_not (pt_val (pe_call G__law_same (hr.mono (by decide)) (by rfl) g__law_same k__law_same b__law_same .nil pass0 (pa_cons (pe_call G_follows (hr.mono (by decide)) (by rfl) g_follows k_follows b_follows .nil pass0 (pa_cons (pv 0) (pa_cons (pe_ix ix_list (pv 2) (pe_op op_sub (pv 3) pe_int) (fun _ _ => rfl)) (pa_cons (pe_item_str (pv 4) (pe_op op_sub (pv 3) pe_int) (fun _ _ => rfl)) pa_nil)))) (pa_cons (pe_ix ix_list (pv 2) (pv 3) (fun _ _ => rfl)) pa_nil))))))))
        (pss_one (ps_ret pe_bl))
        pss_nil)))))
      (pss_one (ps_ret pe_bl))), ?_⟩
    have small : ∀ n : Nat, n ≤ 30000 → n ≤ sizeLine := fun n h => Nat.le_trans h (by decide)
    have lS : ∀ y : Str, y.length = (tl y).length := tl_len
    have lg := lS g
    have lb := lS b
    obtain ⟨ts, hR, tlen, hts⟩ := hT
    refine ⟨_, rfl, R, _, rfl, .inl hR, _, rfl, by rw [List.length_map]; omega, by rw [List.length_map]; omega, ?_⟩
    refine for_range (lo := 0) (n := (((ts.map V.ref).length : Int)).toNat) (fun j σ H' => (∃ v3 v4 : Option V, σ = [some (.str g), some (.str b), some (.ref R), v3, v4]) ∧ Same H H') ⟨⟨_, _, rfl⟩, Same.refl _⟩ ?_ ?_
    · rintro j σ H1 hj ⟨⟨v3, v4, rfl⟩, m1⟩
      rw [List.length_map] at hj
      have jb : j ≤ (tl b).length := by omega
      obtain ⟨t, ht⟩ : ∃ t, ts[j]? = some t := ⟨_, List.getElem?_eq_getElem (by omega)⟩
      obtain ⟨ps, hps, aps⟩ := hts j t ht
      have at_ : atI (ts.map V.ref) (0 + (j : Int)) = some (.ref t) := atI_pos (by omega) (by rw [show (0 + (j : Int)).toNat = j by omega, List.getElem?_map, ht]; rfl)
      refine ⟨_, rfl, _, rfl, 0 + (j : Int), rfl, b, rfl, small _ (by omega), ?_⟩
      have ep : tl (cutS b none (some (0 + (j : Int)))) = (tl b).take j := by rw [cutS_to (by omega), show (0 + (j : Int)).toNat = j by omega]
      generalize cutS b none (some (0 + (j : Int))) = part at ep ⊢
      have pn : No42 (tl part) := fun c h => bn c (by rw [ep] at h; exact List.mem_of_mem_take h)
      have plen : (tl part).length = j := by rw [ep, List.length_take]; omega
      have lp := lS part
      have psl : ps.length ≤ 61 := Nat.le_trans (aps.len (stand_ok _ _).2) (by omega)
      refine ⟨fun σ' H' => σ' = [some (.str g), some (.str b), some (.ref R), some (.int (0 + (j : Int))), some (.str part)] ∧ Same H H', ?_, ?_⟩
      · refine ⟨_, rfl, _, _, rfl, rfl, _, rfl, ite2 (fun _ => iteT ?_) (fun _ => ⟨_, rfl, _, rfl, R, _, rfl, .inl (m1.seq hR), _, _, rfl, rfl, rfl, _, rfl, ite2 (fun _ => ?_) (fun _ => ⟨rfl, m1⟩)⟩)⟩
        all_goals
          refine ⟨_, rfl, _, rfl, g, part, rfl, pn, by omega, fun q1 qs H2 m2 hq1 aqs => ?_⟩
          rw [ep] at aqs
          have eq1 := aqs.one aps
          subst eq1
          refine ⟨_, rfl, _, rfl, R, _, _, .ref t, rfl, rfl, (m1.trans m2).seq hR, at_, .tup (qs.map fun k : Nat => D.int (k : Int)), _, _, rfl, DV.nats (SqT.of hq1), DV.nats ((m1.trans m2).tup hps), DL.nats qs (by omega), _, rfl, iteF ?_⟩
          refine ⟨_, rfl, 1, rfl, -1, rfl, part, rfl, small _ (by omega), by show 2 ≤ sizeLine; decide, fun p hp => ?_⟩
          have m3 := m1.trans (m2.trans (same_new (o := HO.tup [V.str (Str.ofString ""), .str (Str.ofString ".")]) hp))
          refine ⟨p, _, rfl, .inr (SqT.of upd_same), rfl, rfl, _, rfl, ite2 (fun _ => ?_) (fun _ => iteF ⟨rfl, m3⟩)⟩
          refine ⟨_, rfl, _, rfl, g, part, rfl, pn, by omega, fun H4 m4 => ?_⟩
          refine ⟨_, rfl, g, rfl, small _ (by omega), _, rfl, _, rfl, R, _, _, .ref t, rfl, rfl, (m3.trans m4).seq hR, at_, t, _, rfl, .inr ((m3.trans m4).tup hps), rfl, flat_nts qs, ?_⟩
          have ev : inV (V.int (g.length : Int)) (nts qs) = @decide (stand (tl g) (tl part) (tl g).length) (Classical.propDecidable _) := by
            rw [lg, inV_nts, Bool.eq_iff_iff, decide_eq_true_iff, aqs.2, ep]
            exact ⟨fun h => @decide_eq_true _ (Classical.propDecidable _) h, fun h => @of_decide_eq_true _ (Classical.propDecidable _) h⟩
          rw [ev]
          exact ⟨.bl _, _, _, rfl, by unfold DV; rfl, by unfold DV; rfl, True.intro, _, rfl, iteF ⟨rfl, m3.trans m4⟩⟩
      rintro σ' H2 ⟨rfl, m2⟩
      refine ⟨_, rfl, _, _, rfl, rfl, _, rfl, ite2 (fun c => ?_) (fun _ => iteF ⟨⟨_, _, rfl⟩, m2⟩)⟩
      have j0 : 0 < j := by have := of_decide_eq_true c; omega
      have tj : (0 + (j : Int) - 1).toNat = j - 1 := by omega
      obtain ⟨t', ht'⟩ : ∃ t, ts[j - 1]? = some t := ⟨_, List.getElem?_eq_getElem (by omega)⟩
      obtain ⟨ps', hps', aps'⟩ := hts (j - 1) t' ht'
      obtain ⟨d, d1, d2, d3⟩ := at_str (x := part) (i := 0 + (j : Int) - 1) (by omega) (by omega)
      rw [tj] at d2
      obtain ⟨d', e1, e2⟩ := take_pred j0 jb
      have ed : d' = d := by
        rw [ep, List.getElem?_take, if_pos (by omega), e1] at d2
        exact Option.some.inj d2
      subst ed
      refine ⟨_, rfl, _, rfl, _, rfl, _, _, rfl, rfl, R, _, _, .ref t', rfl, rfl, m2.seq hR, atI_pos (by omega) (by rw [tj, List.getElem?_map, ht']; rfl), _, rfl, _, rfl, _, _, rfl, rfl, part, 0 + (j : Int) - 1, d', rfl, rfl, by omega, by omega, by omega, d1, ?_⟩
      refine ⟨g, t', d', ps', _, rfl, m2.tup hps', aps', (stand_ok _ _).1, (stand_ok _ _).2, pn d' d3, by omega, fun q1 qs H3 m3 hq1 aqs => ?_⟩
      rw [← stand_snoc, ← e2] at aqs
      have eq1 := aqs.one aps
      subst eq1
      exact ⟨_, rfl, _, rfl, R, _, _, .ref t, rfl, rfl, (m2.trans m3).seq hR, at_, .tup (qs.map fun k : Nat => D.int (k : Int)), _, _, rfl, DV.nats (SqT.of hq1), DV.nats ((m2.trans m3).tup hps), DL.nats qs (by omega), _, rfl, iteF ⟨⟨_, _, rfl⟩, m2.trans m3⟩⟩
    · rintro σ H1 ⟨⟨v3, v4, rfl⟩, m1⟩
      exact q H1 m1
end
section
variable {P : Program} {w : World} {K : PySem.W.Frag} {mg : Str → Option Value} {base : Heap}
theorem ok_law {f : Addr} {fd : FuncData} (F : Fun K "law" "law" s_law f fd) (T : Tx mg) (C__law_all_right : Cal P w K mg base "_law_all_right" ["glob", "beginning", "due"] 5 (sp__law_all_right K)) (C__law_beginning : Cal P w K mg base "_law_beginning" ["source", "glob", "signs"] 4 (sp__law_beginning K)) (C__law_draw : Cal P w K mg base "_law_draw" ["source", "many"] 2 sp__law_draw) (C__law_free_glob : Cal P w K mg base "_law_free_glob" ["source", "signs", "most"] 4 (sp__law_free_glob K)) (C__law_once_in : Cal P w K mg base "_law_once_in" ["source", "many"] 3 sp__law_once_in) (C__law_same : Cal P w K mg base "_law_same" ["actual", "due"] 3 (sp__law_same K 2)) (C__law_signs : Cal P w K mg base "_law_signs" ["source"] 3 sp__law_signs) (C__law_source : Cal P w K mg base "_law_source" ["script"] 2 (sp__law_source K)) (C__law_table : Cal P w K mg base "_law_table" ["glob", "beginning"] 1 (sp__law_table K)) (C_standing : Cal P w K mg base "standing" ["glob", "beginning"] 3 (sp_standing K)) : FnOk P w K mg base CX0 6 f fd ["script"] (sp_law K) := by
  obtain ⟨f__law_all_right, fd__law_all_right, G__law_all_right, g__law_all_right, k__law_all_right, b__law_all_right⟩ := C__law_all_right
  obtain ⟨f__law_beginning, fd__law_beginning, G__law_beginning, g__law_beginning, k__law_beginning, b__law_beginning⟩ := C__law_beginning
  obtain ⟨f__law_draw, fd__law_draw, G__law_draw, g__law_draw, k__law_draw, b__law_draw⟩ := C__law_draw
  obtain ⟨f__law_free_glob, fd__law_free_glob, G__law_free_glob, g__law_free_glob, k__law_free_glob, b__law_free_glob⟩ := C__law_free_glob
  obtain ⟨f__law_once_in, fd__law_once_in, G__law_once_in, g__law_once_in, k__law_once_in, b__law_once_in⟩ := C__law_once_in
  obtain ⟨f__law_same, fd__law_same, G__law_same, g__law_same, k__law_same, b__law_same⟩ := C__law_same
  obtain ⟨f__law_signs, fd__law_signs, G__law_signs, g__law_signs, k__law_signs, b__law_signs⟩ := C__law_signs
  obtain ⟨f__law_source, fd__law_source, G__law_source, g__law_source, k__law_source, b__law_source⟩ := C__law_source
  obtain ⟨f__law_table, fd__law_table, G__law_table, g__law_table, k__law_table, b__law_table⟩ := C__law_table
  obtain ⟨f_standing, fd_standing, G_standing, g_standing, k_standing, b_standing⟩ := C_standing
  refine F.ok sc_law (fun vs H Q E h => ?_) (fun cdv A outer s₀ H vs Q E hr h => ?_)
  · obtain ⟨a, ns, rfl, _⟩ := h; rfl
  · obtain ⟨a, ns, rfl, hA, hlen, q⟩ := h
    refine ⟨_, (pss_cons (ps_set (i := 1) sc_law.nd rfl (Or.inl rfl) (pe_call G__law_source (hr.mono (by decide)) (by rfl) g__law_source k__law_source b__law_source .nil pass0 (pa_cons (pv 0) pa_nil)))
      (pss_cons (ps_set (i := 2) sc_law.nd rfl (Or.inl rfl) (pe_call G__law_signs (hr.mono (by decide)) (by rfl) g__law_signs k__law_signs b__law_signs .nil pass0 (pa_cons (pv 1) pa_nil)))
      (pss_cons (ps_set (i := 3) sc_law.nd rfl (Or.inl rfl) (pe_call G__law_once_in (hr.mono (by decide)) (by rfl) g__law_once_in k__law_once_in b__law_once_in .nil pass0 (pa_cons (pv 1) (pa_cons pe_int pa_nil))))
      (pss_cons (ps_set (i := 4) sc_law.nd rfl (Or.inl rfl) (pe_call G__law_free_glob (hr.mono (by decide)) (by rfl) g__law_free_glob k__law_free_glob b__law_free_glob .nil pass0 (pa_cons (pv 1) (pa_cons (pv 2) (pa_cons (pe_op op_add pe_int (pe_op op_mul pe_int (pe_callTy call_int1 (by rfl) T.n_int (by decide +kernel) (pa_cons (pv 3) pa_nil)))) pa_nil)))))
      (pss_cons (ps_set (i := 5) sc_law.nd rfl (Or.inr rfl) (pe_call G__law_beginning (hr.mono (by decide)) (by rfl) g__law_beginning k__law_beginning b__law_beginning .nil pass0 (pa_cons (pv 1) (pa_cons (pv 4) (pa_cons (pv 2) pa_nil)))))
      (C8.pss_cut (ps_if (PW.pt (pw_and (pt_val (pv 3)) (pw_and1 (pt_cmpR op_notIn_seq (pe_slice sl_str (pv 5) (po_some (pe_un un_neg pe_int)) po_none) (pe_tup (pa_cons pe_str (pa_cons pe_str pa_nil))) (by rfl)))))
      (pss_cons (ps_set (i := 6) sc_law.nd rfl (Or.inl rfl) (pe_op op_add pe_int (pe_call G__law_draw (hr.mono (by decide)) (by rfl) g__law_draw k__law_draw b__law_draw .nil pass0 (pa_cons (pv 1) (pa_cons (pe_op op_fdiv pe_int (pe_op op_add (pe_callB call_lenS (by rfl) T.n_len PySem.boot_len (pa_cons (pv 5) pa_nil)) pe_int)) pa_nil)))))
        (pss_cons (ps_set (i := 5) sc_law.nd rfl (Or.inr rfl) (pe_join pe_str (pe_lc (own := [("k", 10)]) (g := gName 10) (tt := tYes) rfl sc_law.nd (pi_range1 (by rfl) T.n_range (pa_cons (pv 6) pa_nil)) (blkOk_by (own := [("k", 10)]) (N := N_law) (sc := defScope s_law) (by decide +kernel)) (fun _ _ _ _ _ => pg_name (i := 10) sc_law.nd rfl (Or.inl rfl)) (fun _ _ _ _ _ => pts_nil) (fun _ _ _ _ _ => (pv 5)))))
        (pss_one (ps_set (i := 5) sc_law.nd rfl (Or.inr rfl) (pe_op op_add_str (pv 5) (pe_op op_mul_str (pe_ix ix_list (pv 2) pe_int (fun _ _ => rfl)) (pe_op op_mul (pe_call G__law_draw (hr.mono (by decide)) (by rfl) g__law_draw k__law_draw b__law_draw .nil pass0 (pa_cons (pv 1) (pa_cons pe_int pa_nil))) (pe_op op_sub pe_int (pe_callB call_lenS (by rfl) T.n_len PySem.boot_len (pa_cons (pv 5) pa_nil))))))))))
      pss_nil)
      (pss_cons (ps_set (i := 7) sc_law.nd rfl (Or.inl rfl) (pe_call G__law_free_glob (hr.mono (by decide)) (by rfl) g__law_free_glob k__law_free_glob b__law_free_glob .nil pass0 (pa_cons (pv 1) (pa_cons (pv 2) (pa_cons pe_int pa_nil)))))
      (pss_cons (ps_set (i := 8) sc_law.nd rfl (Or.inl rfl) (pe_call G__law_beginning (hr.mono (by decide)) (by rfl) g__law_beginning k__law_beginning b__law_beginning .nil pass0 (pa_cons (pv 1) (pa_cons (pv 7) (pa_cons (pv 2) pa_nil)))))
      (pss_cons (ps_set (i := 9) sc_law.nd rfl (Or.inl rfl) (pe_call G__law_table (hr.mono (by decide)) (by rfl) g__law_table k__law_table b__law_table .nil pass0 (pa_cons (pv 4) (pa_cons (pv 5) pa_nil))))
      (pss_cons (ps_if (pt_not (pt_val (pe_call G__law_all_right (hr.mono (by decide)) (by rfl) g__law_all_right k__law_all_right b__law_all_right .nil pass0 (pa_cons (pv 4) (pa_cons (pv 5) (pa_cons (pv 9) pa_nil))))))
      (pss_one (ps_ret pe_bl))
      pss_nil)
      (pss_cons (ps_if (pt_not (pt_val (pe_call G__law_all_right (hr.mono (by decide)) (by rfl) g__law_all_right k__law_all_right b__law_all_right .nil pass0 (pa_cons (pv 7) (pa_cons (pv 8) (pa_cons (pe_call G__law_table (hr.mono (by decide)) (by rfl) g__law_table k__law_table b__law_table .nil pass0 (pa_cons (pv 7) (pa_cons (pv 8) pa_nil))) pa_nil))))))
      (pss_one (ps_ret pe_bl))
      pss_nil)
      (pss_one (ps_ret (pe_call G__law_same (hr.mono (by decide)) (by rfl) g__law_same k__law_same b__law_same .nil pass0 (pa_cons (pe_call G_standing (hr.mono (by decide)) (by rfl) g_standing k_standing b_standing .nil pass0 (pa_cons (pv 4) (pa_cons (pv 5) pa_nil))) (pa_cons (pe_ix ix_list (pv 9) (pe_op op_sub (pe_callB call_len_seq (by rfl) T.n_len PySem.boot_len (pa_cons (pv 9) pa_nil)) pe_int) (fun _ _ => rfl)) pa_nil)))))))))))))))), ?_⟩
    have small : ∀ n : Nat, n ≤ 30000 → n ≤ sizeLine := fun n h => Nat.le_trans h (by decide)
    have lS : ∀ y : Str, y.length = (tl y).length := tl_len
    refine ⟨_, rfl, a, ns, rfl, hA, hlen, fun s b H1 hs x1 S1 => ?_⟩
    refine ⟨_, rfl, s, b, 50000, rfl, S1.mono (by decide), fun u cs H2 hu hU cl cn x2 S2 => ?_⟩
    have us := S1.ne hu
    obtain ⟨c1, c2, c3, c4, rfl⟩ : ∃ c1 c2 c3 c4, cs = [c1, c2, c3, c4] := by
      match cs, cl with
      | [x, y, z, w], _ => exact ⟨x, y, z, w, rfl⟩
    have cn1 : c1 ≠ 42 := cn c1 (by simp)
    refine ⟨_, rfl, s, b, _, 49999, rfl, by decide, by decide, S2, fun lg H3 x3 S3 => ?_⟩
    have hU3 := x3 _ _ us hU
    refine ⟨_, rfl, _, rfl, _, rfl, .inr ⟨lg, rfl, _, _, rfl, rfl, .inl ⟨by decide, by decide⟩, _, _, rfl, rfl, s, b, u, _, _, 49000, rfl, SqL.of hU3, us, cl, by cases lg <;> decide, by cases lg <;> decide, S3.mono (by decide), fun g H4 gl x4 S4 => ?_⟩⟩
    have hU4 := x4 _ _ us hU3
    refine ⟨_, rfl, _, rfl, _, rfl, s, b, u, g, _, 48000, rfl, gl, hU4, us, cl, cn, S4, fun y H5 yn yl x5 S5 => ?_⟩
    have hU5 := x5 _ _ us hU4
    have ly := lS y
    refine ⟨fun σ' H' => ∃ (bg : Str) (v6 v7 v8 v9 v10 : Option V), σ' = [some (.ref a), some (.ref s), some (.ref u), some (.bl lg), some (.str g), some (.str bg), v6, v7, v8, v9, v10] ∧ No42 (tl bg) ∧ (tl bg).length ≤ 600 ∧ H' u = some (.lst (sgs [c1, c2, c3, c4])) ∧ Src H' s b 40000, ?_, ?_⟩
    · refine ⟨_, rfl, _, rfl, ite2 (fun _ => ?_) (fun _ => iteF ⟨y, _, _, _, _, _, rfl, yn, by omega, hU5, S5.mono (by decide)⟩)⟩
      refine ⟨_, rfl, 1, rfl, -1, rfl, y, rfl, small _ (by omega), by show 2 ≤ sizeLine; decide, fun p hp => ?_⟩
      have mp := same_new (o := HO.tup [V.str (Str.ofString ""), .str (Str.ofString ".")]) hp
      refine ⟨p, _, rfl, .inr (SqT.of upd_same), rfl, rfl, _, rfl, ite2 (fun _ => ?_) (fun _ => ⟨y, _, _, _, _, _, rfl, yn, by omega, mp _ _ hU5, (S5.ext mp).mono (by decide)⟩)⟩
      have dpos : (1 : Int) ≤ 600 / ((y.length : Int) + 1) := (Int.le_ediv_iff_mul_le (by omega)).mpr (by omega)
      have dle : 600 / ((y.length : Int) + 1) ≤ 600 := Int.ediv_le_self _ (by decide)
      refine ⟨_, rfl, _, rfl, y, rfl, small _ (by omega), _, _, rfl, rfl, _, _, rfl, rfl, ⟨by omega, by omega⟩, s, b, _, 47999, rfl, by omega, by omega, S5.ext mp, fun v H6 v0 v1 x6 S6 => ?_⟩
      refine ⟨_, _, rfl, rfl, ?_⟩
      have vm : (1 + v) * ((y.length : Int) + 1) ≤ 600 := (Int.le_ediv_iff_mul_le (by omega)).mp (by omega)
      have hU6 := x6 _ _ us (mp _ _ hU5)
      obtain ⟨n, en⟩ : ∃ n : Nat, 1 + v = (n : Int) := ⟨(1 + v).toNat, by omega⟩
      have vm' : n * ((tl y).length + 1) ≤ 600 := by
        rw [en, ly] at vm
        exact_mod_cast vm
      have n600 : n ≤ 600 := by omega
      refine ⟨⟨_, rfl⟩, _, rfl, _, rfl, by omega, by omega, fun D hD => ?_⟩
      refine lc_range (lo := 0) (n := (1 + v).toNat) (fun k H' => H' D = some (.lst ((List.replicate k y).map V.str)) ∧ Same H6 H') ⟨upd_same, same_new hD⟩ ?_ ?_
      · rintro k H' hk ⟨e1, e2⟩
        refine ⟨rfl, _, rfl, _, e1, by rw [List.length_map, List.length_replicate]; exact Nat.lt_of_le_of_lt (show k ≤ 600 by omega) (by decide), by rw [upd_same, List.replicate_succ', List.map_append]; rfl, fun w o h => by rw [upd_ne (ne_of_none h hD)]; exact e2 _ _ h⟩
      · rintro H7 ⟨e1, e2⟩
        rw [show (1 + v).toNat = n by omega] at e1
        have jA : ∀ x ∈ List.replicate n y, (tl x).length ≤ (tl y).length := fun x m => by rw [(List.mem_replicate.mp m).2]; exact Nat.le_refl _
        have js := sum_len jA
        have jlen : (tl (Txt.join (Str.ofString ".") (List.replicate n y))).length ≤ 600 := by
          rw [tl_joinS]
          refine Nat.le_trans (joinL_len (n := (tl y).length) fun l m => ?_) ?_
          · obtain ⟨x, hx, rfl⟩ := List.mem_map.mp m
            exact jA x hx
          · rw [List.length_map, List.length_replicate]; exact vm'
        have jno : No42 (tl (Txt.join (Str.ofString ".") (List.replicate n y))) := fun d hd => by
          rw [tl_joinS] at hd
          rcases joinL_mem hd with e | ⟨l, m, e⟩
          · rw [List.mem_singleton.mp e]; decide
          · obtain ⟨x, hx, rfl⟩ := List.mem_map.mp m
            rw [(List.mem_replicate.mp hx).2] at e
            exact yn d e
        refine ⟨Str.ofString ".", D, List.replicate n y, rfl, rfl, .inl (SqL.of e1), ?_, ?_⟩
        · rw [List.length_replicate] at js ⊢
          have h1 : n * (tl y).length ≤ 600 * 200 := Nat.mul_le_mul n600 yl
          show _ + n * 1 ≤ _
          omega
        generalize Txt.join (Str.ofString ".") (List.replicate n y) = J at jlen jno ⊢
        have lJ := lS J
        have hU7 := e2 _ _ hU6
        have S7 := S6.ext e2
        refine ⟨_, rfl, _, rfl, u, _, _, .str (S [c1]), rfl, rfl, SqL.of hU7, atI_nat (j := 0) rfl, _, rfl, s, b, _, 47998, rfl, by decide, by decide, S7, fun w H8 w0 w1 x8 S8 => ?_⟩
        have wk : 0 ≤ w * (600 - (J.length : Int)) ∧ w * (600 - (J.length : Int)) ≤ 600 - (J.length : Int) := by
          rcases (by omega : w = 0 ∨ w = 1) with e | e <;> subst e <;> constructor <;> omega
        refine ⟨_, rfl, J, rfl, small _ (by omega), _, _, rfl, rfl, _, _, rfl, rfl, .inl ⟨by omega, by omega⟩, S [c1], w * (600 - (J.length : Int)), rfl, rfl, by omega, by omega, ?_, fun r hr' => ?_⟩
        · show 1 * _ ≤ _; omega
        have lr : (tl r).length ≤ 600 - (tl J).length := by rw [hr', rep_len]; show _ * 1 ≤ _; omega
        refine ⟨_, _, rfl, rfl, small _ (by rw [lS, lS]; omega), J ++ r, _, _, _, _, _, rfl, ?_, ?_, x8 _ _ us hU7, S8.mono (by decide)⟩
        · rw [tl_app]; exact jno.app (by rw [hr']; exact rep_no cn1)
        · rw [tl_app, List.length_append]; omega
    rintro σ' H6 ⟨bg, v6, v7, v8, v9, v10, rfl, bn, bl, hU6, S6⟩
    refine ⟨_, rfl, _, rfl, s, b, u, _, 8, 39000, rfl, SqL.of hU6, us, cl, by decide, by decide, S6.mono (by decide), fun g2 H7 gl2 x7 S7 => ?_⟩
    have hU7 := x7 _ _ us hU6
    refine ⟨_, rfl, _, rfl, _, rfl, s, b, u, g2, _, 38000, rfl, gl2, hU7, us, cl, cn, S7, fun y2 H8 yn2 yl2 x8 S8 => ?_⟩
    refine ⟨_, rfl, _, rfl, g, bg, rfl, gl, by omega, fun R H9 m9 hT => ?_⟩
    refine ⟨_, rfl, _, rfl, _, rfl, g, bg, R, rfl, gl, by omega, bn, hT, fun H10 m10 => ⟨_, rfl, iteF ?_⟩⟩
    refine ⟨_, rfl, _, rfl, _, rfl, _, rfl, g2, y2, rfl, gl2, by omega, fun R2 H11 m11 hT2 => ?_⟩
    refine ⟨g2, y2, R2, rfl, gl2, by omega, yn2, hT2, fun H12 m12 => ⟨_, rfl, iteF ?_⟩⟩
    refine ⟨_, rfl, _, rfl, g, bg, rfl, bn, by omega, fun q1 qs H13 m13 hq1 aqs => ?_⟩
    obtain ⟨ts, hR, tlen, hts⟩ := hT.same (m10.trans (m11.trans (m12.trans m13)))
    obtain ⟨t, ht⟩ : ∃ t, ts[(tl bg).length]? = some t := ⟨_, List.getElem?_eq_getElem (by omega)⟩
    obtain ⟨ps, hps, aps⟩ := hts _ t ht
    rw [List.take_length] at aps
    have eq1 := aqs.one aps
    subst eq1
    have psl : qs.length ≤ 61 := Nat.le_trans (aps.len (stand_ok _ _).2) (by omega)
    refine ⟨_, rfl, _, rfl, R, _, rfl, .inl hR, _, _, rfl, rfl, R, _, _, .ref t, rfl, rfl, hR, atI_pos (by rw [List.length_map]; omega) (by rw [List.length_map, show ((ts.length : Int) - 1).toNat = (tl bg).length by omega, List.getElem?_map, ht]; rfl), ?_⟩
    exact ⟨.tup (qs.map fun k : Nat => D.int (k : Int)), _, _, rfl, DV.nats (SqT.of hq1), DV.nats hps, DL.nats qs (by omega), q _⟩
end

end Z
namespace Z
open PySem L2 SX
theorem all_mk {l : PySem.W.OpenLaw} {w : World} {K : PySem.W.Frag} {h : Heap} {mg : Str → Option Value} {fa : Addr} (X : K.In h) (G : h.Ns mainGlobals mg) (hfa : mg "law" = some (.ref fa))
    {f0 : Addr} {od0 an0 : Option Addr} {sl0 : Array (Option Value)} {oc0 kV0 dc0 pm0 cd0 ct0 : Value}
    {f1 : Addr} {od1 an1 : Option Addr} {sl1 : Array (Option Value)} {oc1 kV1 dc1 pm1 cd1 ct1 : Value}
    {f2 : Addr} {od2 an2 : Option Addr} {sl2 : Array (Option Value)} {oc2 kV2 dc2 pm2 cd2 ct2 : Value}
    {f3 : Addr} {od3 an3 : Option Addr} {sl3 : Array (Option Value)} {oc3 kV3 dc3 pm3 cd3 ct3 : Value}
    {f4 : Addr} {od4 an4 : Option Addr} {sl4 : Array (Option Value)} {oc4 kV4 dc4 pm4 cd4 ct4 : Value}
    {f5 : Addr} {od5 an5 : Option Addr} {sl5 : Array (Option Value)} {oc5 kV5 dc5 pm5 cd5 ct5 : Value}
    {f6 : Addr} {od6 an6 : Option Addr} {sl6 : Array (Option Value)} {oc6 kV6 dc6 pm6 cd6 ct6 : Value}
    {f7 : Addr} {od7 an7 : Option Addr} {sl7 : Array (Option Value)} {oc7 kV7 dc7 pm7 cd7 ct7 : Value}
    {f8 : Addr} {od8 an8 : Option Addr} {sl8 : Array (Option Value)} {oc8 kV8 dc8 pm8 cd8 ct8 : Value}
    {f9 : Addr} {od9 an9 : Option Addr} {sl9 : Array (Option Value)} {oc9 kV9 dc9 pm9 cd9 ct9 : Value}
    {f10 : Addr} {od10 an10 : Option Addr} {sl10 : Array (Option Value)} {oc10 kV10 dc10 pm10 cd10 ct10 : Value}
    {f11 : Addr} {od11 an11 : Option Addr} {sl11 : Array (Option Value)} {oc11 kV11 dc11 pm11 cd11 ct11 : Value}
    {f12 : Addr} {od12 an12 : Option Addr} {sl12 : Array (Option Value)} {oc12 kV12 dc12 pm12 cd12 ct12 : Value}
    {f13 : Addr} {od13 an13 : Option Addr} {sl13 : Array (Option Value)} {oc13 kV13 dc13 pm13 cd13 ct13 : Value}
    {f14 : Addr} {od14 an14 : Option Addr} {sl14 : Array (Option Value)} {oc14 kV14 dc14 pm14 cd14 ct14 : Value}
    {f15 : Addr} {od15 an15 : Option Addr} {sl15 : Array (Option Value)} {oc15 kV15 dc15 pm15 cd15 ct15 : Value}
    {f16 : Addr} {od16 an16 : Option Addr} {sl16 : Array (Option Value)} {oc16 kV16 dc16 pm16 cd16 ct16 : Value}
    {f17 : Addr} {od17 an17 : Option Addr} {sl17 : Array (Option Value)} {oc17 kV17 dc17 pm17 cd17 ct17 : Value}
    (a0 : PySem.W.nsIn K mainGlobals "add_place" = some (some (.ref f0))) (l0 : K.lookup f0 = some ⟨oc0, od0, .func (PySem.W.fnOf "add_place" "add_place" (defArgs s_add_place) (defBody s_add_place) (defScope s_add_place) .none kV0 dc0 pm0 an0 cd0 ct0), sl0⟩) (c0 : PySem.W.codeIn K cd0 "add_place" = true) (k0 : PySem.W.keepIn K (.ref f0) = true)
    (a1 : PySem.W.nsIn K mainGlobals "follows" = some (some (.ref f1))) (l1 : K.lookup f1 = some ⟨oc1, od1, .func (PySem.W.fnOf "follows" "follows" (defArgs s_follows) (defBody s_follows) (defScope s_follows) .none kV1 dc1 pm1 an1 cd1 ct1), sl1⟩) (c1 : PySem.W.codeIn K cd1 "follows" = true) (k1 : PySem.W.keepIn K (.ref f1) = true)
    (a2 : PySem.W.nsIn K mainGlobals "standing" = some (some (.ref f2))) (l2 : K.lookup f2 = some ⟨oc2, od2, .func (PySem.W.fnOf "standing" "standing" (defArgs s_standing) (defBody s_standing) (defScope s_standing) .none kV2 dc2 pm2 an2 cd2 ct2), sl2⟩) (c2 : PySem.W.codeIn K cd2 "standing" = true) (k2 : PySem.W.keepIn K (.ref f2) = true)
    (a3 : PySem.W.nsIn K mainGlobals "fits" = some (some (.ref f3))) (l3 : K.lookup f3 = some ⟨oc3, od3, .func (PySem.W.fnOf "fits" "fits" (defArgs s_fits) (defBody s_fits) (defScope s_fits) .none kV3 dc3 pm3 an3 cd3 ct3), sl3⟩) (c3 : PySem.W.codeIn K cd3 "fits" = true) (k3 : PySem.W.keepIn K (.ref f3) = true)
    (a4 : PySem.W.nsIn K mainGlobals "_law_mix" = some (some (.ref f4))) (l4 : K.lookup f4 = some ⟨oc4, od4, .func (PySem.W.fnOf "_law_mix" "_law_mix" (defArgs s__law_mix) (defBody s__law_mix) (defScope s__law_mix) .none kV4 dc4 pm4 an4 cd4 ct4), sl4⟩) (c4 : PySem.W.codeIn K cd4 "_law_mix" = true) (k4 : PySem.W.keepIn K (.ref f4) = true)
    (a5 : PySem.W.nsIn K mainGlobals "_law_source" = some (some (.ref f5))) (l5 : K.lookup f5 = some ⟨oc5, od5, .func (PySem.W.fnOf "_law_source" "_law_source" (defArgs s__law_source) (defBody s__law_source) (defScope s__law_source) .none kV5 dc5 pm5 an5 cd5 ct5), sl5⟩) (c5 : PySem.W.codeIn K cd5 "_law_source" = true) (k5 : PySem.W.keepIn K (.ref f5) = true)
    (a6 : PySem.W.nsIn K mainGlobals "_law_draw" = some (some (.ref f6))) (l6 : K.lookup f6 = some ⟨oc6, od6, .func (PySem.W.fnOf "_law_draw" "_law_draw" (defArgs s__law_draw) (defBody s__law_draw) (defScope s__law_draw) .none kV6 dc6 pm6 an6 cd6 ct6), sl6⟩) (c6 : PySem.W.codeIn K cd6 "_law_draw" = true) (k6 : PySem.W.keepIn K (.ref f6) = true)
    (a7 : PySem.W.nsIn K mainGlobals "_law_pick" = some (some (.ref f7))) (l7 : K.lookup f7 = some ⟨oc7, od7, .func (PySem.W.fnOf "_law_pick" "_law_pick" (defArgs s__law_pick) (defBody s__law_pick) (defScope s__law_pick) .none kV7 dc7 pm7 an7 cd7 ct7), sl7⟩) (c7 : PySem.W.codeIn K cd7 "_law_pick" = true) (k7 : PySem.W.keepIn K (.ref f7) = true)
    (a8 : PySem.W.nsIn K mainGlobals "_law_once_in" = some (some (.ref f8))) (l8 : K.lookup f8 = some ⟨oc8, od8, .func (PySem.W.fnOf "_law_once_in" "_law_once_in" (defArgs s__law_once_in) (defBody s__law_once_in) (defScope s__law_once_in) .none kV8 dc8 pm8 an8 cd8 ct8), sl8⟩) (c8 : PySem.W.codeIn K cd8 "_law_once_in" = true) (k8 : PySem.W.keepIn K (.ref f8) = true)
    (a9 : PySem.W.nsIn K mainGlobals "_law_is_int" = some (some (.ref f9))) (l9 : K.lookup f9 = some ⟨oc9, od9, .func (PySem.W.fnOf "_law_is_int" "_law_is_int" (defArgs s__law_is_int) (defBody s__law_is_int) (defScope s__law_is_int) .none kV9 dc9 pm9 an9 cd9 ct9), sl9⟩) (c9 : PySem.W.codeIn K cd9 "_law_is_int" = true) (k9 : PySem.W.keepIn K (.ref f9) = true)
    (a10 : PySem.W.nsIn K mainGlobals "_law_same" = some (some (.ref f10))) (l10 : K.lookup f10 = some ⟨oc10, od10, .func (PySem.W.fnOf "_law_same" "_law_same" (defArgs s__law_same) (defBody s__law_same) (defScope s__law_same) .none kV10 dc10 pm10 an10 cd10 ct10), sl10⟩) (c10 : PySem.W.codeIn K cd10 "_law_same" = true) (k10 : PySem.W.keepIn K (.ref f10) = true)
    (a11 : PySem.W.nsIn K mainGlobals "_law_signs" = some (some (.ref f11))) (l11 : K.lookup f11 = some ⟨oc11, od11, .func (PySem.W.fnOf "_law_signs" "_law_signs" (defArgs s__law_signs) (defBody s__law_signs) (defScope s__law_signs) .none kV11 dc11 pm11 an11 cd11 ct11), sl11⟩) (c11 : PySem.W.codeIn K cd11 "_law_signs" = true) (k11 : PySem.W.keepIn K (.ref f11) = true)
    (a12 : PySem.W.nsIn K mainGlobals "_law_free_glob" = some (some (.ref f12))) (l12 : K.lookup f12 = some ⟨oc12, od12, .func (PySem.W.fnOf "_law_free_glob" "_law_free_glob" (defArgs s__law_free_glob) (defBody s__law_free_glob) (defScope s__law_free_glob) .none kV12 dc12 pm12 an12 cd12 ct12), sl12⟩) (c12 : PySem.W.codeIn K cd12 "_law_free_glob" = true) (k12 : PySem.W.keepIn K (.ref f12) = true)
    (a13 : PySem.W.nsIn K mainGlobals "_law_put" = some (some (.ref f13))) (l13 : K.lookup f13 = some ⟨oc13, od13, .func (PySem.W.fnOf "_law_put" "_law_put" (defArgs s__law_put) (defBody s__law_put) (defScope s__law_put) .none kV13 dc13 pm13 an13 cd13 ct13), sl13⟩) (c13 : PySem.W.codeIn K cd13 "_law_put" = true) (k13 : PySem.W.keepIn K (.ref f13) = true)
    (a14 : PySem.W.nsIn K mainGlobals "_law_beginning" = some (some (.ref f14))) (l14 : K.lookup f14 = some ⟨oc14, od14, .func (PySem.W.fnOf "_law_beginning" "_law_beginning" (defArgs s__law_beginning) (defBody s__law_beginning) (defScope s__law_beginning) .none kV14 dc14 pm14 an14 cd14 ct14), sl14⟩) (c14 : PySem.W.codeIn K cd14 "_law_beginning" = true) (k14 : PySem.W.keepIn K (.ref f14) = true)
    (a15 : PySem.W.nsIn K mainGlobals "_law_table" = some (some (.ref f15))) (l15 : K.lookup f15 = some ⟨oc15, od15, .func (PySem.W.fnOf "_law_table" "_law_table" (defArgs s__law_table) (defBody s__law_table) (defScope s__law_table) .none kV15 dc15 pm15 an15 cd15 ct15), sl15⟩) (c15 : PySem.W.codeIn K cd15 "_law_table" = true) (k15 : PySem.W.keepIn K (.ref f15) = true)
    (a16 : PySem.W.nsIn K mainGlobals "_law_all_right" = some (some (.ref f16))) (l16 : K.lookup f16 = some ⟨oc16, od16, .func (PySem.W.fnOf "_law_all_right" "_law_all_right" (defArgs s__law_all_right) (defBody s__law_all_right) (defScope s__law_all_right) .none kV16 dc16 pm16 an16 cd16 ct16), sl16⟩) (c16 : PySem.W.codeIn K cd16 "_law_all_right" = true) (k16 : PySem.W.keepIn K (.ref f16) = true)
    (a17 : PySem.W.nsIn K mainGlobals "law" = some (some (.ref f17))) (l17 : K.lookup f17 = some ⟨oc17, od17, .func (PySem.W.fnOf "law" "law" (defArgs s_law) (defBody s_law) (defScope s_law) .none kV17 dc17 pm17 an17 cd17 ct17), sl17⟩) (c17 : PySem.W.codeIn K cd17 "law" = true) (k17 : PySem.W.keepIn K (.ref f17) = true)
    (z_abs : PySem.W.nsIn K mainGlobals "abs" = some none)
    (z_bool : PySem.W.nsIn K mainGlobals "bool" = some none)
    (z_int : PySem.W.nsIn K mainGlobals "int" = some none)
    (z_isinstance : PySem.W.nsIn K mainGlobals "isinstance" = some none)
    (z_len : PySem.W.nsIn K mainGlobals "len" = some none)
    (z_list : PySem.W.nsIn K mainGlobals "list" = some none)
    (z_range : PySem.W.nsIn K mainGlobals "range" = some none)
    (z_str : PySem.W.nsIn K mainGlobals "str" = some none)
    (z_tuple : PySem.W.nsIn K mainGlobals "tuple" = some none) :
    ∃ fd : FuncData, (∀ (s : Shared) (v : Value), BindsTo s fd ⟨[v], []⟩ [("script", v)]) ∧ ∀ base : Heap, K.In base → base.Ns mainGlobals mg → FnOk l.prog w K mg base CX0 6 fa fd ["script"] (sp_law K) := by
  have e := hfa.symm.trans (PySem.W.mg_of X G a17)
  cases e
  have T : Tx mg := ⟨PySem.W.mg_none_of X G z_abs, PySem.W.mg_none_of X G z_bool, PySem.W.mg_none_of X G z_int, PySem.W.mg_none_of X G z_isinstance, PySem.W.mg_none_of X G z_len, PySem.W.mg_none_of X G z_list, PySem.W.mg_none_of X G z_range, PySem.W.mg_none_of X G z_str, PySem.W.mg_none_of X G z_tuple⟩
  refine ⟨PySem.W.fnOf "law" "law" (defArgs s_law) (defBody s_law) (defScope s_law) .none kV17 dc17 pm17 an17 cd17 ct17, fun s v => .of_eq rfl, fun base _ _ => ?_⟩
  have D_add_place : Df K mg "add_place" s_add_place ["glob", "places", "place"] := ⟨f0, _, fun_mk (st := s_add_place) l0 c0 k0, PySem.W.mg_of X G a0, (fun_mk (st := s_add_place) l0 c0 k0).binds (ps := ["glob", "places", "place"]) fun _ _ _ _ _ _ us hl => match us, hl with | [_, _, _], _ => rfl⟩
  have D_follows : Df K mg "follows" s_follows ["glob", "standing", "character"] := ⟨f1, _, fun_mk (st := s_follows) l1 c1 k1, PySem.W.mg_of X G a1, (fun_mk (st := s_follows) l1 c1 k1).binds (ps := ["glob", "standing", "character"]) fun _ _ _ _ _ _ us hl => match us, hl with | [_, _, _], _ => rfl⟩
  have D_standing : Df K mg "standing" s_standing ["glob", "beginning"] := ⟨f2, _, fun_mk (st := s_standing) l2 c2 k2, PySem.W.mg_of X G a2, (fun_mk (st := s_standing) l2 c2 k2).binds (ps := ["glob", "beginning"]) fun _ _ _ _ _ _ us hl => match us, hl with | [_, _], _ => rfl⟩
  have D_fits : Df K mg "fits" s_fits ["glob", "board"] := ⟨f3, _, fun_mk (st := s_fits) l3 c3 k3, PySem.W.mg_of X G a3, (fun_mk (st := s_fits) l3 c3 k3).binds (ps := ["glob", "board"]) fun _ _ _ _ _ _ us hl => match us, hl with | [_, _], _ => rfl⟩
  have D__law_mix : Df K mg "_law_mix" s__law_mix ["seed", "turn"] := ⟨f4, _, fun_mk (st := s__law_mix) l4 c4 k4, PySem.W.mg_of X G a4, (fun_mk (st := s__law_mix) l4 c4 k4).binds (ps := ["seed", "turn"]) fun _ _ _ _ _ _ us hl => match us, hl with | [_, _], _ => rfl⟩
  have D__law_source : Df K mg "_law_source" s__law_source ["script"] := ⟨f5, _, fun_mk (st := s__law_source) l5 c5 k5, PySem.W.mg_of X G a5, (fun_mk (st := s__law_source) l5 c5 k5).binds (ps := ["script"]) fun _ _ _ _ _ _ us hl => match us, hl with | [_], _ => rfl⟩
  have D__law_draw : Df K mg "_law_draw" s__law_draw ["source", "many"] := ⟨f6, _, fun_mk (st := s__law_draw) l6 c6 k6, PySem.W.mg_of X G a6, (fun_mk (st := s__law_draw) l6 c6 k6).binds (ps := ["source", "many"]) fun _ _ _ _ _ _ us hl => match us, hl with | [_, _], _ => rfl⟩
  have D__law_pick : Df K mg "_law_pick" s__law_pick ["source", "row"] := ⟨f7, _, fun_mk (st := s__law_pick) l7 c7 k7, PySem.W.mg_of X G a7, (fun_mk (st := s__law_pick) l7 c7 k7).binds (ps := ["source", "row"]) fun _ _ _ _ _ _ us hl => match us, hl with | [_, _], _ => rfl⟩
  have D__law_once_in : Df K mg "_law_once_in" s__law_once_in ["source", "many"] := ⟨f8, _, fun_mk (st := s__law_once_in) l8 c8 k8, PySem.W.mg_of X G a8, (fun_mk (st := s__law_once_in) l8 c8 k8).binds (ps := ["source", "many"]) fun _ _ _ _ _ _ us hl => match us, hl with | [_, _], _ => rfl⟩
  have D__law_is_int : Df K mg "_law_is_int" s__law_is_int ["value"] := ⟨f9, _, fun_mk (st := s__law_is_int) l9 c9 k9, PySem.W.mg_of X G a9, (fun_mk (st := s__law_is_int) l9 c9 k9).binds (ps := ["value"]) fun _ _ _ _ _ _ us hl => match us, hl with | [_], _ => rfl⟩
  have D__law_same : Df K mg "_law_same" s__law_same ["actual", "due"] := ⟨f10, _, fun_mk (st := s__law_same) l10 c10 k10, PySem.W.mg_of X G a10, (fun_mk (st := s__law_same) l10 c10 k10).binds (ps := ["actual", "due"]) fun _ _ _ _ _ _ us hl => match us, hl with | [_, _], _ => rfl⟩
  have D__law_signs : Df K mg "_law_signs" s__law_signs ["source"] := ⟨f11, _, fun_mk (st := s__law_signs) l11 c11 k11, PySem.W.mg_of X G a11, (fun_mk (st := s__law_signs) l11 c11 k11).binds (ps := ["source"]) fun _ _ _ _ _ _ us hl => match us, hl with | [_], _ => rfl⟩
  have D__law_free_glob : Df K mg "_law_free_glob" s__law_free_glob ["source", "signs", "most"] := ⟨f12, _, fun_mk (st := s__law_free_glob) l12 c12 k12, PySem.W.mg_of X G a12, (fun_mk (st := s__law_free_glob) l12 c12 k12).binds (ps := ["source", "signs", "most"]) fun _ _ _ _ _ _ us hl => match us, hl with | [_, _, _], _ => rfl⟩
  have D__law_put : Df K mg "_law_put" s__law_put ["text", "sign"] := ⟨f13, _, fun_mk (st := s__law_put) l13 c13 k13, PySem.W.mg_of X G a13, (fun_mk (st := s__law_put) l13 c13 k13).binds (ps := ["text", "sign"]) fun _ _ _ _ _ _ us hl => match us, hl with | [_, _], _ => rfl⟩
  have D__law_beginning : Df K mg "_law_beginning" s__law_beginning ["source", "glob", "signs"] := ⟨f14, _, fun_mk (st := s__law_beginning) l14 c14 k14, PySem.W.mg_of X G a14, (fun_mk (st := s__law_beginning) l14 c14 k14).binds (ps := ["source", "glob", "signs"]) fun _ _ _ _ _ _ us hl => match us, hl with | [_, _, _], _ => rfl⟩
  have D__law_table : Df K mg "_law_table" s__law_table ["glob", "beginning"] := ⟨f15, _, fun_mk (st := s__law_table) l15 c15 k15, PySem.W.mg_of X G a15, (fun_mk (st := s__law_table) l15 c15 k15).binds (ps := ["glob", "beginning"]) fun _ _ _ _ _ _ us hl => match us, hl with | [_, _], _ => rfl⟩
  have D__law_all_right : Df K mg "_law_all_right" s__law_all_right ["glob", "beginning", "due"] := ⟨f16, _, fun_mk (st := s__law_all_right) l16 c16 k16, PySem.W.mg_of X G a16, (fun_mk (st := s__law_all_right) l16 c16 k16).binds (ps := ["glob", "beginning", "due"]) fun _ _ _ _ _ _ us hl => match us, hl with | [_, _, _], _ => rfl⟩
  have C__law_is_int := ok__law_is_int (P := l.prog) (w := w) (base := base) D__law_is_int T 
  have C__law_same := ok__law_same (P := l.prog) (w := w) (base := base) D__law_same T C__law_is_int 2
  have C_add_place := ok_add_place (P := l.prog) (w := w) (base := base) D_add_place T 
  have C_follows := ok_follows (P := l.prog) (w := w) (base := base) D_follows T C_add_place
  have C_standing := ok_standing (P := l.prog) (w := w) (base := base) D_standing T C_add_place C_follows
  have C_fits := ok_fits (P := l.prog) (w := w) (base := base) D_fits T C_standing
  have C__law_all_right := ok__law_all_right (P := l.prog) (w := w) (base := base) D__law_all_right T C__law_same C_fits C_follows C_standing
  have C__law_mix := ok__law_mix (P := l.prog) (w := w) (base := base) D__law_mix T 
  have C__law_draw := ok__law_draw (P := l.prog) (w := w) (base := base) D__law_draw T C__law_mix
  have C__law_pick := ok__law_pick (P := l.prog) (w := w) (base := base) D__law_pick T C__law_draw
  have C__law_put := ok__law_put (P := l.prog) (w := w) (base := base) D__law_put T 
  have C__law_beginning := ok__law_beginning (P := l.prog) (w := w) (base := base) D__law_beginning T C__law_draw C__law_pick C__law_put
  have C__law_free_glob := ok__law_free_glob (P := l.prog) (w := w) (base := base) D__law_free_glob T C__law_draw C__law_pick
  have C__law_once_in := ok__law_once_in (P := l.prog) (w := w) (base := base) D__law_once_in T C__law_draw
  have C__law_signs := ok__law_signs (P := l.prog) (w := w) (base := base) D__law_signs T C__law_draw
  have C__law_source := ok__law_source (P := l.prog) (w := w) (base := base) D__law_source T C__law_mix
  have C__law_table := ok__law_table (P := l.prog) (w := w) (base := base) D__law_table T 
  exact ok_law (fun_mk (st := s_law) l17 c17 k17) T C__law_all_right C__law_beginning C__law_draw C__law_free_glob C__law_once_in C__law_same C__law_signs C__law_source C__law_table C_standing
theorem walk {l : PySem.W.OpenLaw} {q : Program} {loose : List Str} {XP : (Str → Option Value) → Heap → Prop} {YP : World → Heap → Prop} {d : DefRec} {K : Params → PySem.W.Frag} (hn : l.most = some 63) (hdf : d.params.defaults = [])
    (hY : ∀ (w : World) (h : Heap), YP w h → (K w.params).In h)
    (F : ∀ (w : World) (mg : Str → Option Value) (fa : Addr) (h : Heap), (K w.params).In h → h.Ns mainGlobals mg → mg d.name = some (.ref fa) →
      ∃ fd : FuncData, (∀ (s : Shared) (u : Value), BindsTo s fd ⟨[u], []⟩ [("script", u)]) ∧ ∀ base : Heap, (K w.params).In base → base.Ns mainGlobals mg → FnOk l.prog w (K w.params) mg base CX0 6 fa fd ["script"] (sp_law (K w.params))) :
    PySem.W.WalkO q loose XP YP l.row.toRowW d [] (fun f vs => PySem.call f vs) :=
  L2.walk_of (n := 63) (k := 6) (x := "script") (CX := fun _ => CX0) (sp := fun w => sp_law (K w.params)) hn (by decide) hdf ⟨rfl, by decide, by decide⟩ hY F (fun _ _ a ns hl _ hS => ⟨a, ns, rfl, hS, hl, fun _ => rfl⟩) fun _ _ _ _ _ z => z
end Z
open PySem PySem.W PyProof.Rows in
set_option maxRecDepth 100000 in
set_option maxHeartbeats 0 in
theorem PySem.Challenge.cw_criermoot_k12_standings_holds : PySem.Challenge.rw_criermoot_k12_standings.Holds := by
  w_on; o_law; k_head; (case hw => w_witness2)
  k_fill
  refine Z.walk (l := PySem.Challenge.rw_criermoot_k12_standings) rfl rfl (fun w h Y => PySem.W.kIn_of Y) ?F
  case F =>
    intro w mg fa h KX G hmg
    refine' Z.all_mk KX G hmg ?a0 ?l0 ?c0 ?k0 ?a1 ?l1 ?c1 ?k1 ?a2 ?l2 ?c2 ?k2 ?a3 ?l3 ?c3 ?k3 ?a4 ?l4 ?c4 ?k4 ?a5 ?l5 ?c5 ?k5 ?a6 ?l6 ?c6 ?k6 ?a7 ?l7 ?c7 ?k7 ?a8 ?l8 ?c8 ?k8 ?a9 ?l9 ?c9 ?k9 ?a10 ?l10 ?c10 ?k10 ?a11 ?l11 ?c11 ?k11 ?a12 ?l12 ?c12 ?k12 ?a13 ?l13 ?c13 ?k13 ?a14 ?l14 ?c14 ?k14 ?a15 ?l15 ?c15 ?k15 ?a16 ?l16 ?c16 ?k16 ?a17 ?l17 ?c17 ?k17 ?z_abs ?z_bool ?z_int ?z_isinstance ?z_len ?z_list ?z_range ?z_str ?z_tuple
    (case a0 => k_is)
    (case l0 => k_is)
    (case c0 => k_is)
    (case k0 => k_is)
    (case a1 => k_is)
    (case l1 => k_is)
    (case c1 => k_is)
    (case k1 => k_is)
    (case a2 => k_is)
    (case l2 => k_is)
    (case c2 => k_is)
    (case k2 => k_is)
    (case a3 => k_is)
    (case l3 => k_is)
    (case c3 => k_is)
    (case k3 => k_is)
    (case a4 => k_is)
    (case l4 => k_is)
    (case c4 => k_is)
    (case k4 => k_is)
    (case a5 => k_is)
    (case l5 => k_is)
    (case c5 => k_is)
    (case k5 => k_is)
    (case a6 => k_is)
    (case l6 => k_is)
    (case c6 => k_is)
    (case k6 => k_is)
    (case a7 => k_is)
    (case l7 => k_is)
    (case c7 => k_is)
    (case k7 => k_is)
    (case a8 => k_is)
    (case l8 => k_is)
    (case c8 => k_is)
    (case k8 => k_is)
    (case a9 => k_is)
    (case l9 => k_is)
    (case c9 => k_is)
    (case k9 => k_is)
    (case a10 => k_is)
    (case l10 => k_is)
    (case c10 => k_is)
    (case k10 => k_is)
    (case a11 => k_is)
    (case l11 => k_is)
    (case c11 => k_is)
    (case k11 => k_is)
    (case a12 => k_is)
    (case l12 => k_is)
    (case c12 => k_is)
    (case k12 => k_is)
    (case a13 => k_is)
    (case l13 => k_is)
    (case c13 => k_is)
    (case k13 => k_is)
    (case a14 => k_is)
    (case l14 => k_is)
    (case c14 => k_is)
    (case k14 => k_is)
    (case a15 => k_is)
    (case l15 => k_is)
    (case c15 => k_is)
    (case k15 => k_is)
    (case a16 => k_is)
    (case l16 => k_is)
    (case c16 => k_is)
    (case k16 => k_is)
    (case a17 => k_is)
    (case l17 => k_is)
    (case c17 => k_is)
    (case k17 => k_is)
    (case z_abs => k_is)
    (case z_bool => k_is)
    (case z_int => k_is)
    (case z_isinstance => k_is)
    (case z_len => k_is)
    (case z_list => k_is)
    (case z_range => k_is)
    (case z_str => k_is)
    (case z_tuple => k_is)
