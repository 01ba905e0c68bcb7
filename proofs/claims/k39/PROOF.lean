import PyProof.Rows.All
import Wide.All
import OpenK.AllK
import Wide.FinOn
import HandS.Base
import HandS.Call
import HandS.List
import HandS.Comp
import HandS.Ends
import HandS.Dict
import HandS.Iter
import HandS.Text
import HandS.Words
import HandS.WordsList
import HandS.Conv
import HandS.Codes
import HandS.IsInst
import HandS.Replace
import HandS.StrMore
import HandS.TupAny
import HandS.WideBits
import HandS.ForExc
import HandS.ExcInit
import HandS.ExcField
import HandS.ExcIs
import KE.KExcIs
import HandS.More
import HandS.HeadHook3
import HandS.FStr
import PyProof.ZipIter
import KE.GoesMore
import PyProof.EnumIter
import HandS.Zip
import HandS.ReplaceLit
import HandS.RaiseMore
import PyProof.Rows.StrFin3
import HandS.HotCalls
import PySem.Challenge.RW_criermoot_k39_words_read
set_option Elab.async false
set_option linter.all false
set_option maxRecDepth 100000
namespace Z
open PySem L2

/-! ### heaps -/
/-- all that was tracked is as it was, but for what stands at s -/
def Ext (s : Addr) (H H' : Hp) : Prop := ∀ b o, b ≠ s → H b = some o → H' b = some o
theorem Ext.refl (s : Addr) (H : Hp) : Ext s H H := fun _ _ _ h => h
theorem Ext.trans {s : Addr} {H H1 H2 : Hp} (a : Ext s H H1) (b : Ext s H1 H2) : Ext s H H2 := fun c o n h => b c o n (a c o n h)
theorem Ext.of {s : Addr} {H H' : Hp} (a : Same H H') : Ext s H H' := fun c o _ h => a c o h
theorem Ext.new {s p : Addr} {H : Hp} {o : HO} (n : H p = none) : Ext s H (upd H p o) := fun b u _ h => by
  rw [upd_ne (ne_of_none h n)]; exact h
theorem Ext.put {s : Addr} {H : Hp} {o : HO} : Ext s H (upd H s o) := fun b u n h => by
  rw [upd_ne n]; exact h
theorem same_new {p : Addr} {H : Hp} {o : HO} (n : H p = none) : Same H (upd H p o) := fun b u h => by
  rw [upd_ne (ne_of_none h n)]; exact h
theorem Ext.seqT {K : PySem.W.Frag} {s a : Addr} {H H' : Hp} {xs ys : List V} (x : Ext s H H') (hs : H s = some (.lst ys)) (h : SqT K H a xs) : SqT K H' a xs := by
  rcases h with (h | ⟨o, h⟩) | h
  · exact .inl (.inl (x _ _ (fun e => by rw [e, hs] at h; cases h) h))
  · exact .inl (.inr ⟨o, x _ _ (fun e => by rw [e, hs] at h; cases h) h⟩)
  · exact .inr h
theorem Ext.seqL {K : PySem.W.Frag} {s a : Addr} {H H' : Hp} {xs : List V} (x : Ext s H H') (n : a ≠ s) (h : SqL K H a xs) : SqL K H' a xs := by
  rcases h with (h | ⟨o, h⟩) | h
  · exact .inl (.inl (x _ _ n h))
  · exact .inl (.inr ⟨o, x _ _ n h⟩)
  · exact .inr h

theorem and_nn {x : Int} (hx : 0 ≤ x) (k : Nat) : 0 ≤ Builtin.bitAnd x (1 * 2 ^ k - 1) := by
  rw [Int.one_mul, Bits.bitAnd_mask k hx]
  exact Int.emod_nonneg _ (Int.ne_of_gt (Int.pow_pos (by decide)))
/-! ### the source of draws -/
def Src (H : Hp) (s a : Addr) (c : Nat) : Prop := ∃ (ns : List Int) (i b e t : Int),
  H s = some (.lst [.ref a, .int i, .int b, .int e, .int t]) ∧ H a = some (.lst (ns.map V.int)) ∧ a ≠ s ∧ ns.length ≤ 63 ∧ 0 ≤ i ∧ i ≤ 63 ∧ 0 ≤ b ∧ 0 ≤ e ∧ e < 2147483647 ∧ 0 ≤ t ∧ t + c < 4000000000000000000
theorem Src.lst {H : Hp} {s a : Addr} {c : Nat} (h : Src H s a c) : ∃ xs, H s = some (.lst xs) := by
  obtain ⟨_, _, _, _, _, h, _⟩ := h; exact ⟨_, h⟩
theorem Src.mono {H : Hp} {s a : Addr} {c d : Nat} (h : Src H s a c) (l : d ≤ c) : Src H s a d := by
  obtain ⟨ns, i, b, e, t, h1, h2, h3, h4, h5, h6, h7, h8, h9, h10, h11⟩ := h
  exact ⟨ns, i, b, e, t, h1, h2, h3, h4, h5, h6, h7, h8, h9, h10, by omega⟩
theorem Src.ext {H H' : Hp} {s a : Addr} {c : Nat} (h : Src H s a c) (x : Same H H') : Src H' s a c := by
  obtain ⟨ns, i, b, e, t, h1, h2, h3⟩ := h
  exact ⟨ns, i, b, e, t, x _ _ h1, x _ _ h2, h3⟩
theorem Src.new {H : Hp} {s a p : Addr} {o : HO} {c : Nat} (h : Src H s a c) (n : H p = none) : Src (upd H p o) s a c := h.ext (same_new n)
theorem Src.ne {H : Hp} {s a p : Addr} {c : Nat} (h : Src H s a c) (n : H p = none) : p ≠ s := by
  obtain ⟨xs, e⟩ := h.lst
  exact (ne_of_none e n).symm
theorem Src.nea {H : Hp} {s a p : Addr} {c : Nat} (h : Src H s a c) (n : H p = none) : p ≠ a := by
  obtain ⟨ns, i, b, e, t, h1, h2, h3⟩ := h
  exact (ne_of_none h2 n).symm
theorem Src.put {H : Hp} {s a p : Addr} {o : HO} {c : Nat} (h : Src H s a c) (n : p ≠ s) (m : p ≠ a) : Src (upd H p o) s a c := by
  obtain ⟨ns, i, b, e', t, h1, h2, h3⟩ := h
  exact ⟨ns, i, b, e', t, by rw [upd_ne n.symm]; exact h1, by rw [upd_ne m.symm]; exact h2, h3⟩

/-! ### defs and their callers -/
section
variable (P : Program) (w : World) (K : PySem.W.Frag) (mg : Str → Option Value) (base : Heap)
/-- a def as callers use it -/
def Cal (x : Str) (ps : List Str) (k : Nat) (sp : Sp) : Prop := ∃ (f : Addr) (fd : FuncData), FnOk P w K mg base CX0 k f fd ps sp ∧ mg x = some (.ref f) ∧ PySem.W.keepIn K (.ref f) = true ∧ Binds K fd ps []
/-- a def as the top has left it -/
def Df (x : Str) (st : Stmt) (ps : List Str) : Prop := ∃ (f : Addr) (fd : FuncData), Fun K x x st f fd ∧ mg x = some (.ref f) ∧ Binds K fd ps []
end
theorem Cal.mono {P : Program} {w : World} {K : PySem.W.Frag} {mg : Str → Option Value} {base : Heap} {x : Str} {ps : List Str} {j k : Nat} {sp : Sp} (C : Cal P w K mg base x ps j sp) (h : j ≤ k) : Cal P w K mg base x ps k sp := by
  obtain ⟨f, fd, G, g, kp, b⟩ := C
  exact ⟨f, fd, G.mono h, g, kp, b⟩

/-! ### the promises of the drawing defs -/
def sp__law_mix : Sp := fun vs H Q _ => ∃ (x y : Int), vs = [.int x, .int y] ∧ 0 ≤ x ∧ x < 9000000000000000000 ∧ 0 ≤ y ∧ y < 9000000000000000000 ∧ ∀ v : Int, 0 ≤ v → v < 2147483647 → Q (.int v) H
def sp__law_source (K : PySem.W.Frag) : Sp := fun vs H Q _ => ∃ (a : Addr) (ns : List Int), vs = [.ref a] ∧ SqL K H a (ns.map V.int) ∧ ns.length ≤ 63 ∧ ∀ (s b : Addr) (H' : Hp), H s = none → Same H H' → Src H' s b 3000000000000000000 → Q (.ref s) H'
def sp__law_draw : Sp := fun vs H Q _ => ∃ (s a : Addr) (m : Int) (c : Nat), vs = [.ref s, .int m] ∧ 0 < m ∧ m < 1073741824 ∧ Src H s a (c + 1) ∧ ∀ (v : Int) (H' : Hp), 0 ≤ v → v < m → Ext s H H' → Src H' s a c → Q (.int v) H'

/-! ### data -/
inductive D where
  | non | bl (b : Bool) | int (i : Int) | str (x : Str) | tup (xs : List D)
mutual
def DV (K : PySem.W.Frag) (H : Hp) : D → V → Prop
  | .non, v => v = .non
  | .bl b, v => v = .bl b
  | .int i, v => v = .int i
  | .str x, v => v = .str x
  | .tup ds, v => ∃ a vs, v = .ref a ∧ SqT K H a vs ∧ DVs K H ds vs
def DVs (K : PySem.W.Frag) (H : Hp) : List D → List V → Prop
  | [], vs => vs = []
  | d :: ds, vs => ∃ v r, vs = v :: r ∧ DV K H d v ∧ DVs K H ds r
end
mutual
theorem DV.ext {K : PySem.W.Frag} {H H' : Hp} (x : ∀ a xs, SqT K H a xs → SqT K H' a xs) : ∀ {d : D} {v : V}, DV K H d v → DV K H' d v
  | .non, _, h => by unfold DV at *; exact h
  | .bl _, _, h => by unfold DV at *; exact h
  | .int _, _, h => by unfold DV at *; exact h
  | .str _, _, h => by unfold DV at *; exact h
  | .tup ds, v, h => by
    unfold DV at *
    obtain ⟨a, vs, e, q, r⟩ := h
    exact ⟨a, vs, e, x _ _ q, DVs.ext x r⟩
theorem DVs.ext {K : PySem.W.Frag} {H H' : Hp} (x : ∀ a xs, SqT K H a xs → SqT K H' a xs) : ∀ {ds : List D} {vs : List V}, DVs K H ds vs → DVs K H' ds vs
  | [], _, h => by unfold DVs at *; exact h
  | d :: ds, vs, h => by
    unfold DVs at *
    obtain ⟨v, r, e, q, t⟩ := h
    exact ⟨v, r, e, DV.ext x q, DVs.ext x t⟩
end
theorem DVs.len {K : PySem.W.Frag} {H : Hp} : ∀ {ds : List D} {vs : List V}, DVs K H ds vs → vs.length = ds.length
  | [], _, h => by unfold DVs at h; subst h; rfl
  | d :: ds, vs, h => by
    unfold DVs at h
    obtain ⟨v, r, e, q, t⟩ := h
    rw [e, List.length_cons, List.length_cons, DVs.len t]
theorem DVs.get {K : PySem.W.Frag} {H : Hp} : ∀ {ds : List D} {vs : List V} {i : Nat} {d : D}, DVs K H ds vs → ds[i]? = some d → ∃ v, vs[i]? = some v ∧ DV K H d v
  | [], _, i, d, h, e => by simp at e
  | x :: ds, vs, i, d, h, e => by
    unfold DVs at h
    obtain ⟨v, r, e1, q, t⟩ := h
    subst e1
    cases i with
    | zero =>
      have : x = d := by simpa using e
      subst this
      exact ⟨v, rfl, q⟩
    | succ i => exact DVs.get (i := i) t (by simpa using e)
theorem DVs.strs {K : PySem.W.Frag} {H : Hp} : ∀ (xs : List Str), DVs K H (xs.map D.str) (xs.map V.str)
  | [] => by unfold DVs; rfl
  | x :: xs => by
    unfold DVs
    exact ⟨_, _, rfl, by unfold DV; rfl, DVs.strs xs⟩
theorem DVs.ints {K : PySem.W.Frag} {H : Hp} : ∀ (xs : List Int), DVs K H (xs.map D.int) (xs.map V.int)
  | [] => by unfold DVs; rfl
  | x :: xs => by
    unfold DVs
    exact ⟨_, _, rfl, by unfold DV; rfl, DVs.ints xs⟩
/-- tuples lie within fewer than n others -/
def DL : Nat → D → Prop
  | 0, _ => False
  | n + 1, .tup xs => xs.length ≤ 1000000 ∧ ∀ x ∈ xs, DL n x
  | _ + 1, _ => True
theorem TyX.ofT {K : PySem.W.Frag} {H : Hp} {a : Addr} {xs : List V} (h : SqT K H a xs) : TyX K H (.ref a) (.type "tuple") := by
  rcases h with (h | ⟨o, h⟩) | ⟨o, _, _, e, c, _⟩
  · exact .base (.tup h)
  · exact .fTuple h
  · exact .kTuple e c
def sp__law_is_int (K : PySem.W.Frag) : Sp := fun vs H Q _ => ∃ i : Int, vs = [.int i] ∧ Q (.bl true) H
/-- of two values with the same data it tells True -/
def sp__law_same (K : PySem.W.Frag) (n : Nat) : Sp := fun vs H Q _ => ∃ (d : D) (v u : V), vs = [v, u] ∧ DV K H d v ∧ DV K H d u ∧ DL n d ∧ Q (.bl true) H

/-! ### texts by their signs -/
open SX (S S_cat S_len S_inj)
theorem S_lst (l : List Nat) : (S l).cps.toList = l := rfl
theorem S_of (x : Str) : x = S x.cps.toList := (SX.S_tl x).symm
theorem S_app (a b : List Nat) : S a ++ S b = S (a ++ b) := S_cat a b
/-- a for over the signs of a text -/
theorem for_str {l : List Nat} {g : TG} {tb : TS} {D : Ends} {σ : St} {H : Hp} (Pv : Nat → St → Hp → Prop) (h0 : Pv 0 σ H)
    (hs : ∀ i c σ H, l[i]? = some c → Pv i σ H → g (.str (S [c])) σ H fun σ2 H2 => tb { D with nx := Pv (i + 1), ct := Pv (i + 1), bk := D.nx } σ2 H2) (hd : ∀ σ H, Pv l.length σ H → D.nx σ H) :
    ∃ W : Nat → Nat → St → Hp → Prop, (∃ m, W 0 m σ H) ∧ ∀ i m σ H, W i m σ H →
      ((Its (S l)).stop i H ∧ D.nx σ H) ∨ ((Its (S l)).go i H ∧ ∃ N : St → Hp → Prop, (∀ σ' H', N σ' H' → ∃ m', m' < m ∧ W (i + 1) m' σ' H') ∧ ∀ x H', (Its (S l)).yld i H x H' → g x σ H' fun σ2 H2 => tb { D with nx := N, ct := N, bk := D.nx } σ2 H2) := by
  refine ⟨fun i m σ H => m = l.length - i ∧ i ≤ l.length ∧ Pv i σ H, ⟨l.length, by simp, Nat.zero_le _, h0⟩, ?_⟩
  rintro i m σ H ⟨rfl, hi, p⟩
  by_cases hlt : i < l.length
  · refine .inr ⟨by show i < l.toArray.size; simpa using hlt, Pv (i + 1), fun σ' H' p' => ⟨l.length - (i + 1), by omega, rfl, hlt, p'⟩, fun x H' y => ?_⟩
    obtain ⟨e, c, hc, y⟩ := y
    subst e y
    exact hs i c σ _ (by simpa using hc) p
  · have e : i = l.length := by omega
    subst e
    exact .inl ⟨by show l.toArray.size ≤ l.length; simp, hd σ H p⟩
/-- a comprehension over the signs of a text -/
theorem lc_str {l : List Nat} {g : TG} {tt : TT} {te : TE} {vs : List Nat} {σ : St} {H1 : Hp} {D : Addr} {Qd : Hp → Prop} (Pv : Nat → Hp → Prop) (h0 : Pv 0 (upd H1 D (.lst [])))
    (hs : ∀ i c H, l[i]? = some c → Pv i H → g (.str (S [c])) (wipe σ vs) H fun σ2 H2 => wipe σ2 vs = wipe σ vs ∧ tt σ2 H2 fun b H3 =>
      if b = true then te σ2 H3 fun y H4 => ∃ acc, H4 D = some (.lst acc) ∧ acc.length < sizeLine ∧ Pv (i + 1) (upd H4 D (.lst (acc ++ [y]))) else Pv (i + 1) H3) (hd : ∀ H, Pv l.length H → Qd H) :
    ∃ W : Nat → Nat → Hp → Prop, (∃ m, W 0 m (upd H1 D (.lst []))) ∧ ∀ i m H, W i m H →
      ((Its (S l)).stop i H ∧ Qd H) ∨ ((Its (S l)).go i H ∧ ∃ Nx : Hp → Prop, (∀ H', Nx H' → ∃ m', m' < m ∧ W (i + 1) m' H') ∧ ∀ x H', (Its (S l)).yld i H x H' → g x (wipe σ vs) H' fun σ2 H2 => wipe σ2 vs = wipe σ vs ∧ tt σ2 H2 fun b H3 =>
        if b = true then te σ2 H3 fun y H4 => ∃ acc, H4 D = some (.lst acc) ∧ acc.length < sizeLine ∧ Nx (upd H4 D (.lst (acc ++ [y]))) else Nx H3) := by
  refine ⟨fun i m H => m = l.length - i ∧ i ≤ l.length ∧ Pv i H, ⟨l.length, by simp, Nat.zero_le _, h0⟩, ?_⟩
  rintro i m H ⟨rfl, hi, p⟩
  by_cases hlt : i < l.length
  · refine .inr ⟨by show i < l.toArray.size; simpa using hlt, Pv (i + 1), fun H' p' => ⟨l.length - (i + 1), by omega, rfl, hlt, p'⟩, fun x H' y => ?_⟩
    obtain ⟨e, c, hc, y⟩ := y
    subst e y
    exact hs i c _ (by simpa using hc) p
  · have e : i = l.length := by omega
    subst e
    exact .inl ⟨by show l.toArray.size ≤ l.length; simp, hd H p⟩
/-- signs of rows -/
def Asc (l : List Nat) : Prop := ∀ x ∈ l, 32 ≤ x ∧ x ≤ 126
theorem Asc.nil : Asc [] := fun _ h => nomatch h
theorem Asc.app {a b : List Nat} (x : Asc a) (y : Asc b) : Asc (a ++ b) := fun c h => (List.mem_append.mp h).elim (x c) (y c)
theorem Asc.by_ {l : List Nat} (h : l.all (fun x => decide (32 ≤ x) && decide (x ≤ 126)) = true) : Asc l := fun x m => by
  have := List.all_eq_true.mp h x m
  simp at this
  exact this
theorem Asc.all128 {l : List Nat} (h : Asc l) : l.all (· < 128) = true := List.all_eq_true.mpr fun x m => decide_eq_true (by have := h x m; omega)
theorem joinNil : ∀ ls : List (List Nat), TL.joinL [] ls = ls.flatten
  | [] => rfl
  | [x] => by simp [TL.joinL]
  | x :: y :: r => by
    have := joinNil (y :: r)
    simp only [TL.joinL] at *
    rw [List.flatten_cons, ← this]
    simp [TL.joinL]
theorem join_nil (ls : List (List Nat)) : Txt.join (S []) (ls.map S) = S ls.flatten := by
  rw [SX.join_S, joinNil]

/-! ### texts, further -/
abbrev tl (x : Str) : List Nat := x.cps.toList
theorem tl_S (l : List Nat) : tl (S l) = l := rfl
theorem S_tl (x : Str) : S (tl x) = x := rfl
theorem tl_app (x y : Str) : tl (x ++ y) = tl x ++ tl y := TL.tl_append x y
theorem tl_len (x : Str) : x.length = (tl x).length := by show x.cps.size = x.cps.toList.length; simp
theorem tl_ext {x y : Str} (h : tl x = tl y) : x = y := TL.ext_tl h
theorem at_str {x : Str} {i : Int} (h0 : 0 ≤ i) (h1 : i < (x.length : Int)) : ∃ c, x.cps[i.toNat]? = some c ∧ (tl x)[i.toNat]? = some c ∧ c ∈ tl x := by
  have h : i.toNat < (tl x).length := by rw [← tl_len]; omega
  refine ⟨(tl x)[i.toNat], ?_, List.getElem?_eq_getElem h, List.getElem_mem h⟩
  have := List.getElem?_eq_getElem h
  rw [← this]; simp [tl]
/-- small letters and digits -/
def Low (l : List Nat) : Prop := ∀ x ∈ l, (97 ≤ x ∧ x ≤ 122) ∨ (48 ≤ x ∧ x ≤ 57)
theorem Low.nil : Low [] := fun _ h => nomatch h
theorem Low.app {a b : List Nat} (x : Low a) (y : Low b) : Low (a ++ b) := fun c h => (List.mem_append.mp h).elim (x c) (y c)
theorem Low.asc {a : List Nat} (x : Low a) : Asc a := fun c h => by have := x c h; omega
theorem low_num (n : Nat) : Low (TL.numL n) := fun c h => .inr (by have := TL.numL_digits n c h; omega)
theorem num_len : ∀ n : Nat, (TL.numL n).length ≤ n + 1 := fun n => by
  induction n using Nat.strongRecOn with
  | ind n ih =>
    by_cases h : n < 10
    · rw [TL.numL_lt h]; simp
    · rw [TL.numL_step (by omega), List.length_append]
      have := ih (n / 10) (by omega)
      simp; omega
/-- a name: a letter, then letters and digits -/
def Nm (l : List Nat) : Prop := (∃ c r, l = c :: r ∧ 97 ≤ c ∧ c ≤ 122) ∧ Low l
theorem Nm.app {a b : List Nat} (x : Nm a) (y : Low b) : Nm (a ++ b) := by
  obtain ⟨⟨c, r, e, h⟩, l⟩ := x
  exact ⟨⟨c, r ++ b, by rw [e]; rfl, h⟩, l.app y⟩
theorem flat_strs (xs : List Str) : (xs.map V.str).all flatV = true := List.all_eq_true.mpr fun x h => by
  obtain ⟨y, _, rfl⟩ := List.mem_map.mp h; rfl
theorem inV_strs (x : Str) (xs : List Str) : inV (V.str x) (xs.map V.str) = decide (x ∈ xs) := by
  unfold inV
  induction xs with
  | nil => rfl
  | cons y ys ih =>
    rw [List.map_cons, List.any_cons, ih]
    by_cases e : x = y
    · subst e; simp [eqV]
    · have : ¬ y = x := fun h => e h.symm
      simp [eqV, e, this]
def sp__law_new_name (K : PySem.W.Frag) : Sp := fun vs H Q _ => ∃ (s a u : Addr) (us : List Str) (c : Nat), vs = [.ref s, .ref u] ∧ SqL K H u (us.map V.str) ∧ u ≠ s ∧ us.length ≤ 60 ∧ Src H s a (c + 8) ∧
  ∀ (x : Str) (H' : Hp), Nm (tl x) → (tl x).length ≤ 70 → Ext s H H' → Src H' s a c → Q (.str x) H'
def sp__law_names (K : PySem.W.Frag) : Sp := fun vs H Q _ => ∃ (s a : Addr) (m c : Nat), vs = [.ref s, .int m] ∧ m ≤ 60 ∧ Src H s a (c + 8 * m) ∧
  ∀ (u : Addr) (us : List Str) (H' : Hp), H u = none → H' u = some (.lst (us.map V.str)) → us.length = m → (∀ x ∈ us, Nm (tl x) ∧ (tl x).length ≤ 70) → Ext s H H' → Src H' s a c → Q (.ref u) H'
def sp__law_row : Sp := fun vs H Q _ => ∃ (s a : Addr) (m : Int) (c : Nat), vs = [.ref s, .int m] ∧ 0 ≤ m ∧ m ≤ 1000 ∧ Src H s a (c + m.toNat) ∧
  ∀ (x : Str) (H' : Hp), Asc (tl x) → (tl x).length = m.toNat → Ext s H H' → Src H' s a c → Q (.str x) H'

/-! ### rules that name the written part themselves (for the blocks of comprehensions) -/
section
variable {X : Cx} {K : PySem.W.Frag}
/-- len of a text -/
theorem call_lenS : CallR X (.builtin "len") (fun xs H Q => ∃ x : Str, xs = [.str x] ∧ x.length ≤ sizeLine ∧ Q (.int x.length) H) := by
  intro pins s σ H xs us Q I r h
  obtain ⟨x, e, hl, q⟩ := h
  exact call_len pins s σ H xs us Q I r ⟨.str x, x.length, e, ⟨hl, rfl⟩, q⟩
theorem call_lenQ (h : X.K = K) : CallR X (.builtin "len") (fun xs H Q => ∃ p ys, xs = [.ref p] ∧ (SqL K H p ys ∨ SqT K H p ys) ∧ Q (.int ys.length) H) := by
  subst h; exact call_len_seq
theorem ix_listQ (h : X.K = K) : IxR X (rIxL K) := by subst h; exact ix_list
theorem ix_tupQ (h : X.K = K) : IxR X (rIxT K) := by subst h; exact ix_tup
theorem in_seqQ (h : X.K = K) : OpR X (compareOp .In) (rIn K false) := by subst h; exact op_in_seq
theorem notIn_seqQ (h : X.K = K) : OpR X (compareOp .NotIn) (rIn K true) := by subst h; exact op_notIn_seq
theorem isiQ (h : X.K = K) : CallR X (.builtin "isinstance") (rIsi K) := by subst h; exact call_isi
end

/-- texts of one sign each -/
def Ones (p : Nat → Prop) (xs : List Str) : Prop := ∀ x ∈ xs, ∃ c, tl x = [c] ∧ p c
theorem Ones.tail {p : Nat → Prop} {x : Str} {xs : List Str} (h : Ones p (x :: xs)) : Ones p xs := fun y m => h y (List.mem_cons_of_mem _ m)
theorem ones_len {p : Nat → Prop} : ∀ {xs : List Str}, (∀ x ∈ xs, ∃ c, tl x = [c] ∧ p c) → (xs.map (·.length)).sum = xs.length
  | [], _ => rfl
  | x :: xs, h => by
    obtain ⟨c, e, _⟩ := h x List.mem_cons_self
    have : x.length = 1 := by rw [tl_len, e]; rfl
    rw [List.map_cons, List.sum_cons, ones_len (Ones.tail h), List.length_cons, this]
    omega
/-- their only signs -/
def heads (xs : List Str) : List Nat := xs.map fun x => (tl x).headD 0
theorem tl_join0 (xs : List Str) : tl (Txt.join (S []) xs) = (xs.map tl).flatten := by
  have e : xs = (xs.map tl).map S := by rw [List.map_map]; exact (List.map_id _).symm
  have h := join_nil (xs.map tl)
  rw [← e] at h
  show tl (Txt.join (S []) xs) = _
  rw [h]
theorem ones_join {p : Nat → Prop} {xs : List Str} (h : ∀ x ∈ xs, ∃ c, tl x = [c] ∧ p c) : tl (Txt.join (S []) xs) = heads xs := by
  rw [tl_join0]
  induction xs with
  | nil => rfl
  | cons x xs ih =>
    obtain ⟨c, e, _⟩ := h x List.mem_cons_self
    rw [List.map_cons, List.flatten_cons, ih (Ones.tail h), e]
    show c :: heads xs = (tl x).headD 0 :: heads xs
    rw [e]; rfl
theorem ones_all {p : Nat → Prop} {xs : List Str} (h : ∀ x ∈ xs, ∃ c, tl x = [c] ∧ p c) : ∀ c ∈ heads xs, p c := fun c m => by
  obtain ⟨x, hx, e⟩ := List.mem_map.mp m
  obtain ⟨d, e2, hd⟩ := h x hx
  rw [e2] at e
  have : d = c := e
  rw [← this]; exact hd
theorem str0 : Str.ofString "" = S [] := rfl
theorem ones_room {p : Nat → Prop} {xs : List Str} (h : ∀ x ∈ xs, ∃ c, tl x = [c] ∧ p c) : (xs.map (·.length)).sum + xs.length * (Str.ofString "").length = xs.length := by
  rw [ones_len h]; show xs.length + xs.length * 0 = xs.length; omega
theorem ones_joinE {p : Nat → Prop} {xs : List Str} (h : ∀ x ∈ xs, ∃ c, tl x = [c] ∧ p c) : tl (Txt.join (Str.ofString "") xs) = heads xs := ones_join h
theorem ones_asc {xs : List Str} (h : ∀ x ∈ xs, ∃ c, tl x = [c] ∧ 32 ≤ c ∧ c ≤ 126) : Asc (heads xs) := fun c m => ones_all (p := fun c => 32 ≤ c ∧ c ≤ 126) h c m
theorem heads_len (xs : List Str) : (heads xs).length = xs.length := List.length_map _

theorem alpha_mem {c : Nat} (h : c ∈ tl (Str.ofString "abcdefghijklmnopqrstuvwxyz")) : 97 ≤ c ∧ c ≤ 122 := by
  have : (tl (Str.ofString "abcdefghijklmnopqrstuvwxyz")).all (fun c => decide (97 ≤ c) && decide (c ≤ 122)) = true := by decide +kernel
  have := List.all_eq_true.mp this c h
  simp at this; exact this
theorem low_mem {c : Nat} (h : c ∈ tl (Str.ofString "abcdefghijklmnopqrstuvwxyz" ++ Str.ofString "0123456789")) : (97 ≤ c ∧ c ≤ 122) ∨ (48 ≤ c ∧ c ≤ 57) := by
  rw [tl_app] at h
  have : (tl (Str.ofString "abcdefghijklmnopqrstuvwxyz") ++ tl (Str.ofString "0123456789")).all (fun c => (decide (97 ≤ c) && decide (c ≤ 122)) || (decide (48 ≤ c) && decide (c ≤ 57))) = true := by decide +kernel
  have := List.all_eq_true.mp this c h
  simp at this; exact this

theorem log_small {i : Nat} (h : i ≤ 1000000) : (Int.natAbs (0 + (i : Int))).log2 < 1920 := by
  rw [Int.zero_add, Int.natAbs_natCast]
  by_cases e : i = 0
  · subst e; decide
  · rw [Nat.log2_lt e]
    exact Nat.lt_of_le_of_lt h (Nat.lt_of_lt_of_le (by decide : 1000000 < 2 ^ 20) (Nat.pow_le_pow_right (by decide) (by decide)))

theorem fold_take {α β : Type} {f : β → α → β} {a : β} {l : List α} {i : Nat} {c : α} (h : l[i]? = some c) : (l.take (i + 1)).foldl f a = f ((l.take i).foldl f a) c := by
  rw [List.take_add_one, h, List.foldl_append]
  rfl
theorem fold_all {α β : Type} {f : β → α → β} {a : β} {l : List α} : (l.take l.length).foldl f a = l.foldl f a := by rw [List.take_length]
theorem in_abc {c : Nat} : decide (c ∈ (Str.ofString "abcdefghijklmnopqrstuvwxyz").cps.toList) = (decide (97 ≤ c) && decide (c ≤ 122)) := by
  have e : (Str.ofString "abcdefghijklmnopqrstuvwxyz").cps.toList = List.range' 97 26 := by decide +kernel
  rw [e, Bool.eq_iff_iff, decide_eq_true_iff, List.mem_range'_1]
  simp only [Bool.and_eq_true, decide_eq_true_eq]
  omega
theorem in_ABC {c : Nat} : decide (c ∈ (Str.ofString "ABCDEFGHIJKLMNOPQRSTUVWXYZ").cps.toList) = (decide (65 ≤ c) && decide (c ≤ 90)) := by
  have e : (Str.ofString "ABCDEFGHIJKLMNOPQRSTUVWXYZ").cps.toList = List.range' 65 26 := by decide +kernel
  rw [e, Bool.eq_iff_iff, decide_eq_true_iff, List.mem_range'_1]
  simp only [Bool.and_eq_true, decide_eq_true_eq]
  omega
theorem in_012 {c : Nat} : decide (c ∈ (Str.ofString "0123456789").cps.toList) = (decide (48 ≤ c) && decide (c ≤ 57)) := by
  have e : (Str.ofString "0123456789").cps.toList = List.range' 48 10 := by decide +kernel
  rw [e, Bool.eq_iff_iff, decide_eq_true_iff, List.mem_range'_1]
  simp only [Bool.and_eq_true, decide_eq_true_eq]
  omega
theorem in_abc012 {c : Nat} : decide (c ∈ (Str.ofString "abcdefghijklmnopqrstuvwxyz0123456789").cps.toList) = ((decide (97 ≤ c) && decide (c ≤ 122)) || (decide (48 ≤ c) && decide (c ≤ 57))) := by
  have e : (Str.ofString "abcdefghijklmnopqrstuvwxyz0123456789").cps.toList = List.range' 97 26 ++ List.range' 48 10 := by decide +kernel
  rw [e, Bool.eq_iff_iff, decide_eq_true_iff, List.mem_append, List.mem_range'_1, List.mem_range'_1]
  simp only [Bool.and_eq_true, Bool.or_eq_true, decide_eq_true_eq]
  omega
/-- literal texts -/
theorem tl_mapS (ws : List Str) : (ws.map tl).map S = ws := by rw [List.map_map]; exact List.map_id _

theorem strs_at (zs : List Str) {v : Int} (h0 : 0 ≤ v) (h1 : v < (zs.length : Int)) : ∃ z, z ∈ zs ∧ atI (zs.map V.str) v = some (.str z) := by
  have h : v.toNat < zs.length := by omega
  exact ⟨zs[v.toNat], List.getElem_mem h, at_of (j := v.toNat) (by omega) (by rw [List.getElem?_map, List.getElem?_eq_getElem h]; rfl)⟩
theorem tl_upper {x : Str} (h : Asc (tl x)) : tl (Txt.upper x) = (tl x).map PyProof.Rows.up1 := congrArg tl (SX.upper_S (a := tl x) h.all128)
theorem asc_upper {x : Str} (h : Asc (tl x)) : Asc (tl (Txt.upper x)) := by
  rw [tl_upper h]
  intro c hc
  obtain ⟨d, hd, e⟩ := List.mem_map.mp hc
  have := h d hd
  unfold PyProof.Rows.up1 at e
  split at e <;> omega
theorem len_upper {x : Str} (h : Asc (tl x)) : (tl (Txt.upper x)).length = (tl x).length := by rw [tl_upper h, List.length_map]
theorem DL.strs {n : Nat} (xs : List Str) (h : xs.length ≤ 1000000) : DL (n + 2) (.tup (xs.map D.str)) := ⟨by rw [List.length_map]; exact h, fun d m => by obtain ⟨x, _, rfl⟩ := List.mem_map.mp m; exact True.intro⟩
theorem DV.strs {K : PySem.W.Frag} {H : Hp} {p : Addr} {xs : List Str} (h : H p = some (.tup (xs.map V.str))) : DV K H (.tup (xs.map D.str)) (.ref p) := by
  unfold DV
  exact ⟨p, _, rfl, SqT.of h, DVs.strs xs⟩
def sp_law (K : PySem.W.Frag) : Sp := fun vs H Q _ => ∃ (a : Addr) (ns : List Int), vs = [.ref a] ∧ SqL K H a (ns.map V.int) ∧ ns.length ≤ 63 ∧ ∀ H', Q (.bl true) H'
end Z
namespace Z
open PySem L2 SX
/-! ### cuts -/
theorem sIx_pos {n d : Nat} {i : Int} (h : 0 ≤ i) : HT.sIx n d (some i) = min i.toNat n := by
  obtain ⟨k, rfl⟩ := Int.eq_ofNat_of_zero_le h
  rw [HT.sIx_nat]; rfl
theorem cutS_to {z : Str} {i : Int} (h : 0 ≤ i) : tl (cutS z none (some i)) = (tl z).take i.toNat := by
  show ((tl z).drop 0).take (HT.sIx z.length z.length (some i) - 0) = _
  rw [sIx_pos h, List.drop_zero, Nat.sub_zero, tl_len]
  by_cases e : i.toNat ≤ (tl z).length
  · rw [Nat.min_eq_left e]
  · rw [Nat.min_eq_right (by omega), List.take_length, List.take_of_length_le (by omega)]
theorem cutS_from {z : Str} {i : Int} (h : 0 ≤ i) : tl (cutS z (some i) none) = (tl z).drop i.toNat := by
  show ((tl z).drop (HT.sIx z.length 0 (some i))).take (z.length - HT.sIx z.length 0 (some i)) = _
  rw [sIx_pos h, tl_len]
  by_cases e : i.toNat ≤ (tl z).length
  · rw [Nat.min_eq_left e, List.take_of_length_le (by rw [List.length_drop]; omega)]
  · rw [Nat.min_eq_right (by omega), List.drop_of_length_le (l := tl z) (i := i.toNat) (by omega), List.drop_of_length_le (Nat.le_refl _), List.take_nil]
theorem cutS_mid {z : Str} {i j : Int} (h : 0 ≤ i) (h2 : 0 ≤ j) : tl (cutS z (some i) (some j)) = ((tl z).drop i.toNat).take (j.toNat - i.toNat) := by
  show ((tl z).drop (HT.sIx z.length 0 (some i))).take (HT.sIx z.length z.length (some j) - HT.sIx z.length 0 (some i)) = _
  rw [sIx_pos h, sIx_pos h2, tl_len]
  by_cases e : i.toNat ≤ (tl z).length
  · rw [Nat.min_eq_left e]
    by_cases f : j.toNat ≤ (tl z).length
    · rw [Nat.min_eq_left f]
    · rw [Nat.min_eq_right (by omega), List.take_of_length_le (by rw [List.length_drop]; omega), List.take_of_length_le (by rw [List.length_drop]; omega)]
  · rw [Nat.min_eq_right (a := i.toNat) (by omega), List.drop_of_length_le (Nat.le_refl _), List.drop_of_length_le (l := tl z) (i := i.toNat) (by omega)]; simp
theorem cutV_to {xs : List V} {i : Int} (h : 0 ≤ i) : cutV xs none (some i) = xs.take i.toNat := by
  show ((xs.drop 0).take (HT.sIx xs.length xs.length (some i) - 0)) = _
  rw [sIx_pos h, List.drop_zero, Nat.sub_zero]
  by_cases e : i.toNat ≤ xs.length
  · rw [Nat.min_eq_left e]
  · rw [Nat.min_eq_right (by omega), List.take_length, List.take_of_length_le (by omega)]
theorem cutV_from {xs : List V} {i : Int} (h : 0 ≤ i) : cutV xs (some i) none = xs.drop i.toNat := by
  show ((xs.drop (HT.sIx xs.length 0 (some i))).take (xs.length - HT.sIx xs.length 0 (some i))) = _
  rw [sIx_pos h]
  by_cases e : i.toNat ≤ xs.length
  · rw [Nat.min_eq_left e, List.take_of_length_le (by rw [List.length_drop]; omega)]
  · rw [Nat.min_eq_right (by omega), List.drop_of_length_le (l := xs) (i := i.toNat) (by omega), List.drop_of_length_le (Nat.le_refl _), List.take_nil]
/-- the text k times -/
def rep (k : Nat) (l : List Nat) : List Nat := (List.replicate k l).flatten
theorem rep_fold (x : Array Nat) : ∀ (k : Nat) (a : Array Nat), ((List.replicate k x).foldl (· ++ ·) a).toList = a.toList ++ rep k x.toList
  | 0, a => by simp [rep]
  | k + 1, a => by
    rw [List.replicate_succ, List.foldl_cons, rep_fold x k]
    simp [rep, List.replicate_succ]
theorem rep_len (k : Nat) (l : List Nat) : (rep k l).length = k * l.length := by
  induction k with
  | zero => simp [rep]
  | succ k ih => unfold rep at *; rw [List.replicate_succ, List.flatten_cons, List.length_append, ih, Nat.succ_mul]; omega
theorem rep_mem {k : Nat} {l : List Nat} {c : Nat} (h : c ∈ rep k l) : c ∈ l := by
  obtain ⟨x, hx, hc⟩ := List.mem_flatten.mp h
  rw [(List.mem_replicate.mp hx).2] at hc; exact hc
section
variable {X : Cx}
/-- s * k -/
theorem op_mul_str : OpR X (binaryOp .Mult) (fun x y H Q => ∃ (z : Str) (k : Int), x = .str z ∧ y = .int k ∧ k ≤ 100000 ∧ (-100000 ≤ k) ∧ (tl z).length * k.toNat ≤ 10000000 ∧ ∀ r : Str, tl r = rep k.toNat (tl z) → Q (.str r) H) := by
  intro pins s σ H x y v u Q I rx ry h
  obtain ⟨z, k, rfl, rfl, h1, h0, hz, q⟩ := h
  obtain ⟨t, rfl⟩ := rx
  obtain ⟨t', rfl⟩ := ry
  have hz' : z.length * k.toNat ≤ 10000000 := by rw [tl_len]; exact hz
  have small := PyProof.Rows.short24 (n := z.length * k.toNat) (Nat.le_trans hz' (by decide))
  refine P.mul_str ?_ (fun a b => ?_) (fun _ _ => small) ?_
  · rw [decide_eq_false (by omega), decide_eq_false (by omega)]; rfl
  · have hk : 1 ≤ k := by omega
    have hm : (z.length : Int) * k ≤ 10000000 := by
      have : ((z.length * k.toNat : Nat) : Int) ≤ 10000000 := by omega
      rw [Int.natCast_mul, Int.toNat_of_nonneg (by omega)] at this; exact this
    have hle : (z.length : Int) ≤ (2 ^ 63 - 1) / k := by
      rw [Int.le_ediv_iff_mul_le (by omega)]
      exact Int.le_trans hm (by decide)
    omega
  · by_cases hk : k < 1
    · rw [if_pos hk]
      refine ⟨by decide, ?_⟩
      exact ⟨.str Str.empty, H, I.tok _, ⟨_, rfl⟩, q _ (by rw [show k.toNat = 0 by omega]; rfl)⟩
    · rw [if_neg hk]
      by_cases hb : (k == 1 || z.length == 0) = true
      · rw [if_pos hb]
        refine ⟨.str z, H, I, ⟨_, rfl⟩, q _ ?_⟩
        rw [Bool.or_eq_true] at hb
        rcases hb with e | e
        · have : k = 1 := by simpa using e
          subst this; simp [rep]
        · have e : z.length = 0 := by simpa using e
          rw [tl_len] at e
          have : tl z = [] := List.length_eq_zero_iff.mp e
          rw [this]
          exact (List.length_eq_zero_iff.mp (by rw [rep_len]; rfl)).symm
      · rw [if_neg hb]
        have hr : tl (⟨(List.replicate k.toNat z.cps).foldl (· ++ ·) #[]⟩ : Str) = rep k.toNat (tl z) := by
          show ((List.replicate k.toNat z.cps).foldl (· ++ ·) #[]).toList = _
          rw [rep_fold]; simp [tl]
        refine ⟨?_, ?_⟩
        · rw [tl_len, hr, rep_len, Nat.mul_comm]
          exact Nat.le_trans hz (by decide)
        · exact ⟨.str _, H, I.tok _, ⟨_, rfl⟩, q _ hr⟩
end
section
variable {X : Cx} {K : PySem.W.Frag}
/-- t + u, of tuples -/
theorem op_cat (hK : X.K = K) : OpR X (binaryOp .Add) (fun x y H Q => ∃ a b xs ys, x = .ref a ∧ y = .ref b ∧ SqT K H a xs ∧ SqT K H b ys ∧ xs.length + ys.length ≤ sizeLine ∧
    ∀ p H', Same H H' → SqT K H' p (xs ++ ys) → Q (.ref p) H') := by
  subst hK
  intro pins s σ H x y v u Q I rx ry h
  obtain ⟨a, b, xs, ys, e1, e2, ha, hb, hz, q⟩ := h
  refine op_catA pins s σ H x y v u Q I rx ry ⟨a, b, xs, ys, e1, e2, ha, hb, hz, fun e => ?_, fun _ e => ?_, fun _ _ p hp => q p _ (same_new hp) (SqT.of upd_same)⟩
  · subst e; exact q b H (Same.refl _) hb
  · subst e; exact q a H (Same.refl _) (by rw [List.append_nil]; exact ha)
/-- t[lo:hi] of a tuple -/
theorem sl_tupS (hK : X.K = K) : SlR X (fun x lo hi H Q => ∃ a xs, x = .ref a ∧ SqT K H a xs ∧ ∀ p H', Same H H' → SqT K H' p (cutV xs lo hi) → Q (.ref p) H') := by
  subst hK
  intro pins s σ H x v vl vu lo hi sl Q I rx hs pl pu h
  obtain ⟨a, xs, e, hx, q⟩ := h
  refine sl_tupA pins s σ H x v vl vu lo hi sl Q I rx hs pl pu ⟨a, xs, e, hx, fun hw => q a H (Same.refl _) ?_, fun _ p hp => q p _ (same_new hp) (SqT.of upd_same)⟩
  have : cutV xs lo hi = xs := by
    show (xs.drop (HT.sIx xs.length 0 lo)).take (HT.sIx xs.length xs.length hi - HT.sIx xs.length 0 lo) = xs
    rw [hw.1, hw.2, List.drop_zero, Nat.sub_zero, List.take_length]
  rw [this]; exact hx
end
theorem _root_.L2.Same.tup {K : PySem.W.Frag} {H H' : Hp} {a : Addr} {xs : List V} (e : Same H H') (h : SqT K H a xs) : SqT K H' a xs := by
  rcases h with (h | ⟨o, h⟩) | h
  · exact .inl (.inl (e _ _ h))
  · exact .inl (.inr ⟨o, e _ _ h⟩)
  · exact .inr h

/-- a comprehension over a range that makes texts by draws (at most d of them for each) -/
theorem lc_strs {j n d : Nat} {te : TE} {vs : List Nat} {σ : St} {H : Hp} {D s a : Addr} {c : Nat} {Qd : Hp → Prop} (p : Str → Prop) (hD : H D = none) (hS : Src H s a (c + n * d)) (hn : n ≤ 100000)
    (hw : ∀ i : Nat, wipe ((wipe σ vs).set j (some (.int (0 + (i : Int))))) vs = wipe σ vs)
    (hs : ∀ (i c' : Nat) (H1 : Hp) (R : VK), i < n → Ext s H H1 → Src H1 s a (c' + d) → (∀ (x : Str) (H2 : Hp), p x → Ext s H1 H2 → Src H2 s a c' → R (.str x) H2) → te ((wipe σ vs).set j (some (.int (0 + (i : Int))))) H1 R)
    (hd : ∀ (xs : List Str) (H' : Hp), H' D = some (.lst (xs.map V.str)) → xs.length = n → (∀ x ∈ xs, p x) → Ext s H H' → Src H' s a c → Qd H') :
    ∃ W : Nat → Nat → Hp → Prop, (∃ m, W 0 m (upd H D (.lst []))) ∧ ∀ i m H, W i m H →
      ((Itr 0 n).stop i H ∧ Qd H) ∨ ((Itr 0 n).go i H ∧ ∃ Nx : Hp → Prop, (∀ H', Nx H' → ∃ m', m' < m ∧ W (i + 1) m' H') ∧ ∀ x H', (Itr 0 n).yld i H x H' → gName j x (wipe σ vs) H' fun σ2 H2 => wipe σ2 vs = wipe σ vs ∧ tYes σ2 H2 fun b H3 =>
        if b = true then te σ2 H3 fun y H4 => ∃ acc, H4 D = some (.lst acc) ∧ acc.length < sizeLine ∧ Nx (upd H4 D (.lst (acc ++ [y]))) else Nx H3) := by
  have Ds : D ≠ s := hS.ne hD
  have Da : D ≠ a := hS.nea hD
  refine lc_range (lo := 0) (n := n) (fun i H' => ∃ xs : List Str, H' D = some (.lst (xs.map V.str)) ∧ xs.length = i ∧ (∀ x ∈ xs, p x) ∧ Ext s H H' ∧ Src H' s a (c + (n - i) * d)) ?_ ?_ ?_
  · exact ⟨[], upd_same, rfl, (fun _ h => by cases h), Ext.new hD, (hS.new hD).mono (by simp)⟩
  · rintro i H' hi ⟨xs, hx, hl, hA, hE, hS'⟩
    refine ⟨hw i, ?_⟩
    show te _ H' _
    have e : c + (n - i) * d = c + (n - (i + 1)) * d + d := by
      rw [show n - i = n - (i + 1) + 1 by omega, Nat.succ_mul]; omega
    refine hs i (c + (n - (i + 1)) * d) H' _ hi hE (by rw [← e]; exact hS') (fun x H2 hp hE2 hS2 => ?_)
    refine ⟨xs.map V.str, hE2 _ _ Ds hx, ?_, xs ++ [x], by rw [upd_same, List.map_append]; rfl, by rw [List.length_append]; simp [hl], fun y hy => ?_, ?_, hS2.put Ds Da⟩
    · rw [List.length_map]; exact Nat.lt_of_lt_of_le (show xs.length < 100000 by omega) (by decide)
    · rcases List.mem_append.mp hy with h | h
      · exact hA y h
      · rw [List.mem_singleton.mp h]; exact hp
    · intro b o hb hH
      rw [upd_ne (ne_of_none hH hD)]; exact hE2 _ _ hb (hE _ _ hb hH)
  · rintro H' ⟨xs, hx, hl, hA, hE, hS'⟩
    exact hd xs H' hx hl hA hE (hS'.mono (by omega))
theorem atI_pos {α : Type} {xs : List α} {v : Int} {x : α} (h0 : 0 ≤ v) (h : xs[v.toNat]? = some x) : atI xs v = some x := by
  have e : v = (v.toNat : Int) := by omega
  rw [e]; exact atI_nat h
/-- any item of a list of texts -/
def sp__law_pick (K : PySem.W.Frag) : Sp := fun vs H Q _ =>
  (∃ (s a r : Addr) (xs : List V) (c : Nat), vs = [.ref s, .ref r] ∧ SqL K H r xs ∧ r ≠ s ∧ xs ≠ [] ∧ xs.length ≤ 100000 ∧ Src H s a (c + 1) ∧ ∀ (v : V) (H' : Hp), v ∈ xs → Ext s H H' → Src H' s a c → Q v H') ∨
  (∃ (s a : Addr) (x : Str) (c : Nat), vs = [.ref s, .str x] ∧ tl x ≠ [] ∧ (tl x).length ≤ 100000 ∧ Src H s a (c + 1) ∧ ∀ (ch : Nat) (H' : Hp), ch ∈ tl x → Ext s H H' → Src H' s a c → Q (.str (S [ch])) H')
def sp__law_once_in : Sp := fun vs H Q _ => ∃ (s a : Addr) (m : Int) (c : Nat), vs = [.ref s, .int m] ∧ 0 < m ∧ m < 1073741824 ∧ Src H s a (c + 1) ∧ ∀ (b : Bool) (H' : Hp), Ext s H H' → Src H' s a c → Q (.bl b) H'
end Z
namespace Z
open PySem L2
/-! ### own errors: raised, caught, asked -/
section
variable (P : Program) (w : World) (K : PySem.W.Frag) (mg : Str → Option Value) (base : Heap)
/-- a def that may raise, as callers use it -/
def CalX (x : Str) (ps : List Str) (k : Nat) (sp : Sp) : Prop := ∃ (f : Addr) (fd : FuncData), FnOk P w K mg base (L2.CX P w) k f fd ps sp ∧ mg x = some (.ref f) ∧ PySem.W.keepIn K (.ref f) = true ∧ Binds K fd ps []
end
/-- an own error class with an __init__ of its own (at fI) -/
structure XOk (K : PySem.W.Frag) (mg : Str → Option Value) (x : Str) (C : Addr) : Prop where
  g : mg x = some (.ref C)
  o : OexC K C
  e : ExcC K C
theorem XOk.xf {K : PySem.W.Frag} {mg : Str → Option Value} {x : Str} {C : Addr} (T : XOk K mg x C) : XfC K C := ⟨T.e.hg, T.e.hk, T.e.hs, T.e.hd⟩
/-- the class's __init__(self, f): self.f = f -/
def sp_init (K : PySem.W.Frag) (C : Addr) (f : Str) : Sp := fun vs H Q _ => ∃ (a : Addr) (v : V), vs = [.ref a, v] ∧ OexC K C ∧ PySem.W.findIn K (.ref C) f = some none ∧ H a = some (exo a C none) ∧
  ∀ dx, H dx = none → dx ≠ a → Q .non (upd (upd H dx (exd dx [(f, v)])) a (exo a C (some dx)))
/-- isinstance(e, c), e the caught error at a -/
def rIsX (K : PySem.W.Frag) (cls : Value) (d : Option Addr) (a : Addr) : List V → Hp → VK → Prop := fun xs H Q => ∃ (D dd : Addr) (c : V) (cv : Value) (b : Bool) (fs : List (Str × V)), cls = .ref D ∧ d = some dd ∧ ExcC K D ∧ xs = [.ref a, c] ∧ H dd = some (.xd fs) ∧ ClsV c cv ∧
  PySem.W.kitOne K cls cv = some b ∧ Q (.bl b) H
def rIsXT (K : PySem.W.Frag) (cls : Value) (d : Option Addr) (a : Addr) : List V → Hp → VK → Prop := fun xs H Q => ∃ (D dd tp : Addr) (cs : List V) (us : List Value) (b : Bool) (fs : List (Str × V)), cls = .ref D ∧ d = some dd ∧ ExcC K D ∧ xs = [.ref a, .ref tp] ∧ H dd = some (.xd fs) ∧
  H tp = some (.tup cs) ∧ Paired ClsV cs us ∧ PySem.W.kitAny K cls us = some b ∧ Q (.bl b) H
section
variable {X : Cx} {a : Addr} {oe : Obj} {cls : Value} {d : Option Addr} {pn : List (Addr × Obj)}
theorem inst_at {pins : List (Addr × Obj)} {σ : St} {H : Hp} {s : Shared} {D dd : Addr} {fs : List (Str × V)} (I : Inv (X.suite a ((a, oe) :: pn)) pins σ H s) (hz : Zc (.ref D) (some dd) oe) (hf : ∃ vs, oe.data = .fields vs) (hd : H dd = some (.xd fs)) :
    ∃ od, PySem.W.InstAt s.heap a oe D (some od) := by
  obtain ⟨hget, _⟩ := I.pin (a, oe) (List.mem_append.mpr (.inl List.mem_cons_self))
  obtain ⟨vs, hv⟩ := hf
  have hx : ObjOk X.prog X.w H s.heap dd (.xd fs) := I.hok dd _ hd
  obtain ⟨mA, hns, hr⟩ := hx
  obtain ⟨od, ho, hl⟩ := lookIn_ns hns
  exact ⟨od, ⟨hget, hz.1, by unfold PySem.W.notCls; rw [hv] <;> rfl, by rw [hz.2]; exact ho⟩⟩
theorem kitx_D {K : PySem.W.Frag} {D x : Addr} {ox : Obj} {od : Option Obj} (C : ExcC K D) : PySem.W.KitX K (.ref x) (.ref D) (fun h => PySem.W.InstAt h x ox D od) := by
  refine PySem.W.kitx_exc ?_ C.hg C.hk C.hs C.ha C.hn C.ht C.hm
  have h := C.hd
  obtain ⟨cd, hc, _⟩ := PySem.W.any_some h
  rw [hc]; rfl
theorem call_isX (hz : Zc cls d oe) (hf : ∃ vs, oe.data = .fields vs) : CallR (X.suite a ((a, oe) :: pn)) (.builtin "isinstance") (rIsX X.K cls d a) := by
  intro pins s σ H xs us Q I r h
  obtain ⟨D, dd, c, cv, b, fs, rfl, rfl, C, rfl, hd, k, e, q⟩ := h
  obtain ⟨u1, u2, rfl, r1, r2⟩ := vals2 r
  have e2 := k.eq r2
  subst e2
  obtain rfl : u1 = Value.ref a := r1
  obtain ⟨od, J⟩ := inst_at I hz hf hd
  exact PySem.W.kia_one (kitx_D C) I.kIn J e (fun z => nomatch z) fun tk => ⟨.bl b, H, I.kept (t' := tk) fun _ _ z => z, rfl, q⟩
theorem call_isXT (hz : Zc cls d oe) (hf : ∃ vs, oe.data = .fields vs) : CallR (X.suite a ((a, oe) :: pn)) (.builtin "isinstance") (rIsXT X.K cls d a) := by
  intro pins s σ H xs us Q I r h
  obtain ⟨D, dd, tp, cs, ws, b, fs, rfl, rfl, C, rfl, hd, hT, k, e, q⟩ := h
  obtain ⟨u1, u2, rfl, r1, r2⟩ := vals2 r
  obtain rfl : u2 = Value.ref tp := r2
  obtain rfl : u1 = Value.ref a := r1
  obtain ⟨od, J⟩ := inst_at I hz hf hd
  obtain ⟨_, its, rv, o, h1, h2, n, h3⟩ := (show ObjOk X.prog X.w H s.heap tp (.tup cs) from I.hok tp _ hT)
  have e3 := ClsV.all k rv
  subst e3
  obtain ⟨oc, od', dt, sl⟩ := o
  simp only at h2 h3
  subst h2 h3
  exact PySem.W.kia_tup (kitx_D C) I.kIn J h1 e (fun z => nomatch z) fun tk => ⟨.bl b, H, I.kept (t' := tk) fun _ _ z => z, rfl, q⟩
end
/-- the heap behind a made error -/
theorem made_same {H : Hp} {a dx : Addr} {o1 o2 o3 o4 : HO} (ha : H a = none) (hd : H dx = none) : Same H (upd (del (upd (upd (upd H a o1) dx o2) a o3) a) dx o4) := fun b u h => by
  rw [upd_ne (ne_of_none h hd), del_ne (ne_of_none h ha), upd_ne (ne_of_none h ha), upd_ne (ne_of_none h hd), upd_ne (ne_of_none h ha)]; exact h
/-- what a raised error tells: behind it all stands that stood -/
theorem paired1 {c : V} {u : Value} (k : ClsV c u) : Paired ClsV [c] [u] := .cons k .nil
end Z
namespace Z
open PySem L2 SX
open PySem.Builtin.Str (occurrences lastOccurrence subAt)
theorem at_one {x : Str} {c hi k : Nat} (h : hi ≤ (tl x).length) : StrLaws.At x (S [c]) hi k ↔ k < hi ∧ (tl x)[k]? = some c := by
  have e := StrLaws.subAt_one x c k
  have l1 : (S [c]).length = 1 := rfl
  unfold StrLaws.At
  constructor
  · rintro ⟨h1, h2⟩
    rw [l1] at h1
    refine ⟨by omega, e.mp ⟨?_, h2⟩⟩
    show k + 1 ≤ x.length
    rw [tl_len]; omega
  · rintro ⟨h1, h2⟩
    have h3 := e.mpr h2
    exact ⟨by rw [l1]; omega, h3.2⟩
theorem find_from (x : Str) (c : Nat) {i : Int} (h : 0 ≤ i) :
    (Txt.find3 x (S [c]) i = -1 ∧ ∀ k : Nat, i ≤ (k : Int) → (tl x)[k]? ≠ some c) ∨ ∃ k : Nat, Txt.find3 x (S [c]) i = (k : Int) ∧ i ≤ (k : Int) ∧ (tl x)[k]? = some c ∧ ∀ j : Nat, i ≤ (j : Int) → j < k → (tl x)[j]? ≠ some c := by
  obtain ⟨n, rfl⟩ := Int.eq_ofNat_of_zero_le h
  have hf : fromIndex x.length (n : Int) = n := by
    unfold fromIndex
    rw [if_neg (by omega), Int.max_eq_right (by omega)]; rfl
  unfold Txt.find3
  rw [hf, StrLaws.occ_eq]
  have hx : x.length = (tl x).length := tl_len x
  rcases StrLaws.occ_first x (S [c]) x.length 1 (Nat.le_refl _) (List.range' n (x.length + 1 - n)) n (fun i hi => (List.mem_range'_1.mp hi).1) with ⟨h0, hn⟩ | ⟨pre, a, post, e, h0, ha, hn⟩
  · refine .inl ⟨by rw [h0], fun k hk hc => ?_⟩
    have hlt := (List.getElem?_eq_some_iff.mp hc).1
    exact hn k (List.mem_range'_1.mpr ⟨by omega, by omega⟩) ((at_one (by omega)).mpr ⟨by omega, hc⟩)
  · have h1 := (at_one (by omega)).mp ha
    have hm : a ∈ List.range' n (x.length + 1 - n) := by rw [e]; simp
    refine .inr ⟨a, ?_, by have := (List.mem_range'_1.mp hm).1; omega, h1.2, fun j hj hl hc => ?_⟩
    · cases hq : (forIn (List.range' n (x.length + 1 - n)) ((#[] : Array Nat), n) (StrLaws.occBody x (S [c]) x.length 1)).run.fst.toList with
      | nil =>
        have : (forIn (List.range' n (x.length + 1 - n)) ((#[] : Array Nat), n) (StrLaws.occBody x (S [c]) x.length 1)).run.fst = #[] := Array.toList_eq_nil_iff.mp hq
        rw [this] at h0; simp at h0
      | cons b r =>
        have hb : (forIn (List.range' n (x.length + 1 - n)) ((#[] : Array Nat), n) (StrLaws.occBody x (S [c]) x.length 1)).run.fst[0]? = some b := by
          rw [← Array.getElem?_toList, hq]; rfl
        rw [hb] at h0
        cases h0; rfl
    · have hjm : j ∈ pre := by
        have hlt := (List.getElem?_eq_some_iff.mp hc).1
        have hjr : j ∈ List.range' n (x.length + 1 - n) := List.mem_range'_1.mpr ⟨by omega, by omega⟩
        have hp : (pre ++ a :: post).Pairwise (· < ·) := by rw [← e]; exact List.pairwise_lt_range'
        rw [e] at hjr
        rcases List.mem_append.mp hjr with q | q
        · exact q
        · rcases List.mem_cons.mp q with q | q
          · omega
          · have := (List.pairwise_cons.mp (List.pairwise_append.mp hp).2.1).1 j q
            omega
      exact hn j hjm ((at_one (by omega)).mpr ⟨by have := (List.getElem?_eq_some_iff.mp hc).1; omega, hc⟩)
theorem rfind_in (x : Str) (c : Nat) {i m : Int} (h : 0 ≤ i) (hm : 0 ≤ m) :
    (Txt.rfindIn x (S [c]) i m = -1 ∧ ∀ k : Nat, i ≤ (k : Int) → (k : Int) < m → (tl x)[k]? ≠ some c) ∨ ∃ k : Nat, Txt.rfindIn x (S [c]) i m = (k : Int) ∧ i ≤ (k : Int) ∧ (k : Int) < m ∧ (tl x)[k]? = some c ∧ ∀ j : Nat, k < j → (j : Int) < m → (tl x)[j]? ≠ some c := by
  obtain ⟨n, rfl⟩ := Int.eq_ofNat_of_zero_le h
  obtain ⟨e, rfl⟩ := Int.eq_ofNat_of_zero_le hm
  have hf : fromIndex x.length (n : Int) = n := by
    unfold fromIndex
    rw [if_neg (by omega), Int.max_eq_right (by omega)]; rfl
  have ht : toIndexW x.length (e : Int) = min e x.length := by
    unfold toIndexW
    rw [if_neg (by omega), Int.max_eq_right (by omega)]; rfl
  have hx : x.length = (tl x).length := tl_len x
  unfold Txt.rfindIn
  rw [hf, ht, StrLaws.last_eq]
  have key := StrLaws.last_run x (S [c]) (min e x.length) (List.range' n (min e x.length + 1 - n)) [] none (fun _ h => nomatch h) (fun _ h => nomatch h) List.pairwise_lt_range'
  rw [List.nil_append] at key
  cases hq : (forIn (List.range' n (min e x.length + 1 - n)) none (StrLaws.lastBody x (S [c]) (min e x.length))).run with
  | none =>
    rw [hq] at key
    refine .inl ⟨rfl, fun k hk hk2 hc => ?_⟩
    have hlt := (List.getElem?_eq_some_iff.mp hc).1
    exact key k (List.mem_range'_1.mpr ⟨by omega, by omega⟩) ((at_one (by omega)).mpr ⟨by omega, hc⟩)
  | some a =>
    rw [hq] at key
    obtain ⟨ha, hl⟩ := key
    have h1 := (at_one (by omega)).mp ha
    have hr : n ≤ a := by
      -- the last place is one of those that were looked at
      have : ∀ (l : List Nat) (st : Option Nat) (b : Nat), (forIn l st (StrLaws.lastBody x (S [c]) (min e x.length))).run = some b → st = some b ∨ b ∈ l := by
        intro l
        induction l with
        | nil => intro st b hb; exact .inl hb
        | cons d l ih =>
          intro st b hb
          rw [List.forIn_cons] at hb
          unfold StrLaws.lastBody at hb
          split at hb
          · rcases ih _ _ hb with q | q
            · exact .inr (by cases q; exact List.mem_cons_self)
            · exact .inr (List.mem_cons_of_mem _ q)
          · rcases ih _ _ hb with q | q
            · exact .inl q
            · exact .inr (List.mem_cons_of_mem _ q)
      rcases this _ _ _ hq with q | q
      · cases q
      · exact (List.mem_range'_1.mp q).1
    refine .inr ⟨a, rfl, by omega, by omega, h1.2, fun j hj hj2 hc => ?_⟩
    have hlt := (List.getElem?_eq_some_iff.mp hc).1
    exact hl j (List.mem_range'_1.mpr ⟨by omega, by omega⟩) hj ((at_one (by omega)).mpr ⟨by omega, hc⟩)

theorem tl_inj : ∀ {a b : List Str}, a.map tl = b.map tl → a = b
  | [], [], _ => rfl
  | [], _ :: _, h => by cases h
  | _ :: _, [], h => by cases h
  | x :: a, y :: b, h => by
    rw [List.map_cons, List.map_cons] at h
    obtain ⟨h1, h2⟩ := List.cons.inj h
    rw [tl_ext h1, tl_inj h2]
theorem DV.strsT {K : PySem.W.Frag} {H : Hp} {p : Addr} {xs : List Str} (h : SqT K H p (xs.map V.str)) : DV K H (.tup (xs.map D.str)) (.ref p) := by
  unfold DV
  exact ⟨p, _, rfl, h, DVs.strs xs⟩
end Z
namespace Z
open PySem PySem.Spec PyProof.Rows L2
/-! ### a table of the module: texts to tuples of texts -/
def entW (e : DictEntry) : Option (Str × Addr) := match e.key, e.val with
  | .str x _, .ref t => some (x, t)
  | _, _ => none
/-- the table's keys and values, as they are written -/
def tabW (K : PySem.W.Frag) (a : Addr) : Option (List (Str × Addr)) := match K.lookup a with
  | some ⟨_, _, .dict es _, _⟩ => es.toList.mapM entW
  | _ => none
def strW : Value → Option Str
  | .str x _ => some x
  | _ => none
def tupW (K : PySem.W.Frag) (t : Addr) : Option (List Str) := match K.lookup t with
  | some ⟨.type c, _, .seq its _, _⟩ => if c = "tuple" ∧ its.size ≤ 100 then its.toList.mapM strW else none
  | _ => none
/-- the row of a key -/
def rowOf (tb : List (Str × List Str)) (z : Str) : Option (List Str) := (tb.find? fun p => decide (p.1 = z)).map (·.2)
structure TabAt (K : PySem.W.Frag) (w : World) (a : Addr) (tb : List (Str × List Str)) : Prop where
  kd : ∃ es n, KDict K w a es n
  hit : ∀ (z : Str) (xs : List Str), rowOf tb z = some xs → ∃ t, PySem.W.nsIn K a z = some (some (.ref t)) ∧ ∀ H, SqT K H t (xs.map V.str)
  miss : ∀ z : Str, rowOf tb z = none → PySem.W.nsIn K a z = some none
theorem mapM_mem {α β : Type} {f : α → Option β} : ∀ {l : List α} {r : List β}, l.mapM f = some r → ∀ i : Nat, (∀ x, l[i]? = some x → ∃ y, f x = some y ∧ r[i]? = some y) ∧ (l[i]? = none → r[i]? = none)
  | [], r, h, i => by
    have : r = [] := by simpa using h.symm
    subst this; simp
  | x :: l, r, h, i => by
    rw [List.mapM_cons] at h
    cases hx : f x with
    | none => rw [hx] at h; cases h
    | some y =>
      rw [hx] at h
      cases hl : l.mapM f with
      | none => rw [hl] at h; cases h
      | some t =>
        rw [hl] at h
        have e : y :: t = r := Option.some.inj h
        subst e
        cases i with
        | zero => exact ⟨fun x' e => by cases e; exact ⟨y, hx, rfl⟩, fun e => by cases e⟩
        | succ i => exact mapM_mem hl i
theorem tup_ok {K : PySem.W.Frag} {t : Addr} {xs : List Str} (h : tupW K t = some xs) (H : Hp) : SqT K H t (xs.map V.str) := by
  unfold tupW at h
  split at h
  · rename_i c od its n sl q
    split at h
    · rename_i hc
      obtain ⟨rfl, hs⟩ := hc
      refine .inr ⟨_, its, n, q, rfl, rfl, Nat.le_trans hs (by decide), ?_⟩
      have key : ∀ (l : List Value) (r : List Str), l.mapM strW = some r → Vals (r.map V.str) l := by
        intro l
        induction l with
        | nil => intro r h; have : r = [] := by simpa using h.symm
                 subst this; exact .nil
        | cons x l ih =>
          intro r h
          rw [List.mapM_cons] at h
          cases hx : strW x with
          | none => rw [hx] at h; cases h
          | some y =>
            rw [hx] at h
            cases hl : l.mapM strW with
            | none => rw [hl] at h; cases h
            | some t =>
              rw [hl] at h
              have e : y :: t = r := Option.some.inj h
              subst e
              refine .cons ?_ (ih t hl)
              unfold strW at hx
              split at hx
              · rename_i z tk
                cases hx
                exact ⟨tk, rfl⟩
              · cases hx
      exact key _ _ h
    · cases h
  · cases h
theorem entW_is {e : DictEntry} {p : Str × Addr} (h : entW e = some p) : (∃ k, e.key = .str p.1 k) ∧ e.val = .ref p.2 := by
  unfold entW at h
  split at h
  · rename_i x k t h1 h2
    cases h
    exact ⟨⟨k, h1⟩, h2⟩
  · cases h
theorem find_tab (z : Str) : ∀ {es : List DictEntry} {ps : List (Str × Addr)}, es.mapM entW = some ps → (es.find? fun e => e.key.isStr z).map (·.val) = (ps.find? fun p => decide (p.1 = z)).map (fun p => Value.ref p.2) ∧ (es.any fun e => e.refKey) = false
  | [], ps, h => by
    have : ps = [] := by simpa using h.symm
    subst this; exact ⟨rfl, rfl⟩
  | e :: es, ps, h => by
    rw [List.mapM_cons] at h
    cases hx : entW e with
    | none => rw [hx] at h; cases h
    | some p =>
      rw [hx] at h
      cases hl : es.mapM entW with
      | none => rw [hl] at h; cases h
      | some t =>
        rw [hl] at h
        have eq : p :: t = ps := Option.some.inj h
        subst eq
        obtain ⟨⟨k, e1⟩, e2⟩ := entW_is hx
        obtain ⟨i1, i2⟩ := find_tab z hl
        have ek : e.key.isStr z = decide (p.1 = z) := by
          rw [e1]
          show (p.1 == z) = decide (p.1 = z)
          by_cases q : p.1 = z
          · rw [decide_eq_true q, q]; simp
          · rw [decide_eq_false q]; simpa using q
        refine ⟨?_, ?_⟩
        · by_cases q : p.1 = z
          · rw [List.find?_cons_of_pos (by rw [ek]; exact decide_eq_true q), List.find?_cons_of_pos (by exact decide_eq_true q)]
            show some e.val = some _
            rw [e2]
          · rw [List.find?_cons_of_neg (by rw [ek]; simpa using q), List.find?_cons_of_neg (by simpa using q)]
            exact i1
        · rw [List.any_cons, i2, Bool.or_false]
          unfold DictEntry.refKey
          rw [e1]
theorem tab_ok {K : PySem.W.Frag} {w : World} {a : Addr} {ps : List (Str × Addr)} {tb : List (Str × List Str)} {ks : List Str} (h1 : He.dicW K a = some (He.keysIn w.params ks)) (h2 : tabW K a = some ps) (h3 : ps.map (fun p => (p.1, tupW K p.2)) = tb.map fun p => (p.1, some p.2)) : TabAt K w a tb := by
  have key : ∀ z, PySem.W.nsIn K a z = some ((ps.find? fun p => decide (p.1 = z)).map fun p => Value.ref p.2) := fun z => by
    unfold tabW at h2
    unfold PySem.W.nsIn
    split at h2
    · rename_i c od es n sl q
      rw [q]
      obtain ⟨i1, i2⟩ := find_tab z (es := es.toList) h2
      show (match es.toList.find? (·.key.isStr z) with
        | some e => some (some e.val)
        | none => if es.toList.any (·.refKey) then none else some none) = _
      cases hf : es.toList.find? (·.key.isStr z) with
      | none =>
        rw [hf] at i1
        show (if es.toList.any (·.refKey) then none else some none) = _
        rw [i2]
        exact congrArg some i1
      | some e =>
        rw [hf] at i1
        exact congrArg some i1
    · cases h2
  have row : ∀ z : Str, rowOf tb z = (ps.find? fun p => decide (p.1 = z)).bind fun p => tupW K p.2 := fun z => by
    unfold rowOf
    clear key h2 h1
    induction ps generalizing tb with
    | nil =>
      cases tb with
      | nil => rfl
      | cons _ _ => cases h3
    | cons p ps ih =>
      cases tb with
      | nil => cases h3
      | cons q tb =>
        rw [List.map_cons, List.map_cons] at h3
        obtain ⟨e1, e2⟩ := List.cons.inj h3
        obtain ⟨e3, e4⟩ := Prod.mk.inj e1
        by_cases hz : p.1 = z
        · rw [List.find?_cons_of_pos (by rw [← e3]; exact decide_eq_true hz), List.find?_cons_of_pos (by exact decide_eq_true hz)]
          exact e4.symm
        · rw [List.find?_cons_of_neg (by rw [← e3]; simpa using hz), List.find?_cons_of_neg (by simpa using hz)]
          exact ih e2
  refine ⟨He.dicW_ok h1, fun z xs h => ?_, fun z h => ?_⟩
  · rw [row z] at h
    cases hf : ps.find? fun p => decide (p.1 = z) with
    | none => rw [hf] at h; cases h
    | some p =>
      rw [hf] at h
      exact ⟨p.2, by rw [key z, hf]; rfl, fun H => tup_ok h H⟩
  · rw [row z] at h
    rw [key z]
    cases hf : ps.find? fun p => decide (p.1 = z) with
    | none => rfl
    | some p =>
      rw [hf] at h
      exfalso
      have hp := List.mem_of_find?_eq_some hf
      have : (p.1, tupW K p.2) ∈ tb.map fun p => (p.1, some p.2) := by rw [← h3]; exact List.mem_map_of_mem (f := fun p : Str × Addr => (p.1, tupW K p.2)) hp
      obtain ⟨q, _, e⟩ := List.mem_map.mp this
      have e2 := (Prod.mk.inj e).2
      have h' : tupW K p.2 = none := h
      rw [h'] at e2
      cases e2
def tabQ (K : PySem.W.Frag) (a : Addr) : Option (List (Str × List Str)) := (tabW K a).bind fun ps => ps.mapM fun p => (tupW K p.2).map fun xs => (p.1, xs)
theorem tabQ_ok {K : PySem.W.Frag} {a : Addr} {tb : List (Str × List Str)} (h : tabQ K a = some tb) : ∃ ps, tabW K a = some ps ∧ ps.map (fun p => (p.1, tupW K p.2)) = tb.map fun p => (p.1, some p.2) := by
  unfold tabQ at h
  cases e : tabW K a with
  | none => rw [e] at h; cases h
  | some ps =>
    rw [e] at h
    have h' : (ps.mapM fun p => (tupW K p.2).map fun xs => (p.1, xs)) = some tb := h
    refine ⟨ps, rfl, ?_⟩
    clear e h
    induction ps generalizing tb with
    | nil =>
      have : tb = [] := by simpa using h'.symm
      subst this; rfl
    | cons p ps ih =>
      rw [List.mapM_cons] at h'
      cases hx : tupW K p.2 with
      | none => rw [hx] at h'; cases h'
      | some xs =>
        rw [hx] at h'
        cases hl : (ps.mapM fun p => (tupW K p.2).map fun xs => (p.1, xs)) with
        | none => rw [hl] at h'; cases h'
        | some t =>
          rw [hl] at h'
          have eq : (p.1, xs) :: t = tb := Option.some.inj h'
          subst eq
          rw [List.map_cons, List.map_cons, ih hl, hx]
theorem tab_ok2 {K : PySem.W.Frag} {w : World} {a : Addr} {tb : List (Str × List Str)} {ks : List Str} (h1 : He.dicW K a = some (He.keysIn w.params ks)) (h2 : tabQ K a = some tb) : TabAt K w a tb := by
  obtain ⟨ps, e1, e2⟩ := tabQ_ok h2
  exact tab_ok h1 e1 e2
section
variable {X : Cx} {tb : List (Str × List Str)} {d : Addr}
/-- d.get(k), d such a table -/
def tTGet (K : PySem.W.Frag) (d : Addr) (tb : List (Str × List Str)) (td ty : TE) : TE := fun σ H Q => td σ H fun x H1 => x = .ref d ∧ ty σ H1 fun y H2 => ∃ z, y = .str z ∧ (rowOf tb z = none → Q .non H2) ∧ ∀ xs t, rowOf tb z = some xs → SqT K H2 t (xs.map V.str) → Q (.ref t) H2
theorem pe_tget {o e : Expr} {apos cpos : Pos} {td ty : TE} (T : TabAt X.K X.w d tb) (ho : PE X o td) (he : PE X e ty) (m : M1 X o "get" apos e cpos) : PE X (.Call (.Attribute o "get" apos) [e] [] cpos) (tTGet X.K d tb td ty) := by
  refine ⟨fun pins s σ H Q I h => ?_⟩
  obtain ⟨es, n, D⟩ := T.kd
  refine wpAny_Call_method m.base m.few m.line PySem.F.plainAttrs_dict PySem.F.slot_dict_get PySem.F.type_dict_get (thn (ho.run pins s σ H _ I h) fun u s1 ⟨x, H1, I1, rx, ex, q1⟩ => ?_)
  subst ex
  obtain rfl : u = Value.ref d := rx
  have hm := PySem.W.mapOf_K (prog := X.prog) (w := X.w) I1.kIn D.at_ D.lit
  refine ⟨hm.typeIs, fun b q => ?_, ?_⟩
  · cases q
    exact ⟨_, I1.kIn _ _ D.at_, rfl⟩
  rw [m.trees]
  refine Calls.callWith_builtin rfl (Calls.evalArgs_plain (Calls.spliced_cons (thn (he.run pins s1 σ H1 _ I1 q1) fun iv s2 ⟨y, H2, I2, ry, z, ey, q2, q3⟩ => Calls.spliced_nil ?_)))
  subst ey
  obtain ⟨t, rfl⟩ := (show ∃ t, iv = Value.str z t from ry)
  have hm2 := PySem.W.mapOf_K (prog := X.prog) (w := X.w) I2.kIn D.at_ D.lit
  refine call_meetsIn PySem.F.slot_dict_get hm2.typeIs PySem.F.entry_dict_get (PySem.F.args_dict_get_2 _ _) (meets_dict_get (strKind X.prog X.w) d (PySem.strKind_is X.prog X.w z t) D.low) ⟨_, hm2, ?_⟩
  cases hr : rowOf tb z with
  | none =>
    rw [PySem.W.find_K D.at_ (T.miss z hr)]
    exact ⟨.non, H2, I2.tok _, rfl, q2 hr⟩
  | some xs =>
    obtain ⟨ta, h1, h2⟩ := T.hit z xs hr
    rw [PySem.W.find_K D.at_ h1]
    exact ⟨.ref ta, H2, I2.tok _, rfl, q3 xs ta hr (h2 H2)⟩
end
end Z
namespace Z
open PySem L2 SX
def top (i : Nat) : Stmt := PySem.Challenge.pw_criermoot_k39_words_read.main.body.getD i (.Pass ⟨0, 0, 0, 0⟩)
abbrev s_is_row : Stmt := top 9
abbrev N_is_row : List Str := ["text", "longest", "sign"]
theorem sc_is_row : FnScope ["text", "longest", "sign"] ["text", "longest"] (defScope s_is_row) := ⟨rfl, rfl, rfl, by decide +kernel, rfl, by decide +kernel, by decide +kernel⟩
abbrev s_number_of : Stmt := top 10
abbrev N_number_of : List Str := ["text", "longest", "sign"]
theorem sc_number_of : FnScope ["text", "longest", "sign"] ["text", "longest"] (defScope s_number_of) := ⟨rfl, rfl, rfl, by decide +kernel, rfl, by decide +kernel, by decide +kernel⟩
abbrev s_is_word : Stmt := top 13
abbrev N_is_word : List Str := ["text", "sign"]
theorem sc_is_word : FnScope ["text", "sign"] ["text"] (defScope s_is_word) := ⟨rfl, rfl, rfl, by decide +kernel, rfl, by decide +kernel, by decide +kernel⟩
abbrev s_is_name : Stmt := top 14
abbrev N_is_name : List Str := ["text"]
theorem sc_is_name : FnScope ["text"] ["text"] (defScope s_is_name) := ⟨rfl, rfl, rfl, by decide +kernel, rfl, by decide +kernel, by decide +kernel⟩
abbrev s_is_key : Stmt := top 20
abbrev N_is_key : List Str := ["text"]
theorem sc_is_key : FnScope ["text"] ["text"] (defScope s_is_key) := ⟨rfl, rfl, rfl, by decide +kernel, rfl, by decide +kernel, by decide +kernel⟩
abbrev s_read_part : Stmt := top 21
abbrev N_read_part : List Str := ["form", "text"]
theorem sc_read_part : FnScope ["form", "text"] ["form", "text"] (defScope s_read_part) := ⟨rfl, rfl, rfl, by decide +kernel, rfl, by decide +kernel, by decide +kernel⟩
abbrev s_read_word : Stmt := top 22
abbrev N_read_word : List Str := ["word", "texts", "forms", "found", "form", "text"]
theorem sc_read_word : FnScope ["word", "texts", "forms", "found", "form", "text"] ["word"] (defScope s_read_word) := ⟨rfl, rfl, rfl, by decide +kernel, rfl, by decide +kernel, by decide +kernel⟩
abbrev s_write_word : Stmt := top 23
abbrev N_write_word : List Str := ["parts", "part"]
theorem sc_write_word : FnScope ["parts", "part"] ["parts"] (defScope s_write_word) := ⟨rfl, rfl, rfl, by decide +kernel, rfl, by decide +kernel, by decide +kernel⟩
abbrev s_stuffed : Stmt := top 24
abbrev N_stuffed : List Str := ["row"]
theorem sc_stuffed : FnScope ["row"] ["row"] (defScope s_stuffed) := ⟨rfl, rfl, rfl, by decide +kernel, rfl, by decide +kernel, by decide +kernel⟩
abbrev s_unstuffed : Stmt := top 25
abbrev N_unstuffed : List Str := ["word"]
theorem sc_unstuffed : FnScope ["word"] ["word"] (defScope s_unstuffed) := ⟨rfl, rfl, rfl, by decide +kernel, rfl, by decide +kernel, by decide +kernel⟩
abbrev s__law_mix : Stmt := top 27
abbrev N__law_mix : List Str := ["seed", "turn", "number"]
theorem sc__law_mix : FnScope ["seed", "turn", "number"] ["seed", "turn"] (defScope s__law_mix) := ⟨rfl, rfl, rfl, by decide +kernel, rfl, by decide +kernel, by decide +kernel⟩
abbrev s__law_source : Stmt := top 28
abbrev N__law_source : List Str := ["script", "seed", "k"]
theorem sc__law_source : FnScope ["script", "seed", "k"] ["script"] (defScope s__law_source) := ⟨rfl, rfl, rfl, by decide +kernel, rfl, by decide +kernel, by decide +kernel⟩
abbrev s__law_draw : Stmt := top 29
abbrev N__law_draw : List Str := ["source", "many", "cell", "value"]
theorem sc__law_draw : FnScope ["source", "many", "cell", "value"] ["source", "many"] (defScope s__law_draw) := ⟨rfl, rfl, rfl, by decide +kernel, rfl, by decide +kernel, by decide +kernel⟩
abbrev s__law_pick : Stmt := top 30
abbrev N__law_pick : List Str := ["source", "row"]
theorem sc__law_pick : FnScope ["source", "row"] ["source", "row"] (defScope s__law_pick) := ⟨rfl, rfl, rfl, by decide +kernel, rfl, by decide +kernel, by decide +kernel⟩
abbrev s__law_new_name : Stmt := top 31
abbrev N__law_new_name : List Str := ["source", "used", "letters", "size", "name", "k", "tried"]
theorem sc__law_new_name : FnScope ["source", "used", "letters", "size", "name", "k", "tried"] ["source", "used"] (defScope s__law_new_name) := ⟨rfl, rfl, rfl, by decide +kernel, rfl, by decide +kernel, by decide +kernel⟩
abbrev s__law_row : Stmt := top 32
abbrev N__law_row : List Str := ["source", "size", "signs", "k"]
theorem sc__law_row : FnScope ["source", "size", "signs", "k"] ["source", "size"] (defScope s__law_row) := ⟨rfl, rfl, rfl, by decide +kernel, rfl, by decide +kernel, by decide +kernel⟩
abbrev s__law_is_int : Stmt := top 33
abbrev N__law_is_int : List Str := ["value"]
theorem sc__law_is_int : FnScope ["value"] ["value"] (defScope s__law_is_int) := ⟨rfl, rfl, rfl, by decide +kernel, rfl, by decide +kernel, by decide +kernel⟩
abbrev s__law_same : Stmt := top 34
abbrev N__law_same : List Str := ["actual", "due", "k"]
theorem sc__law_same : FnScope ["actual", "due", "k"] ["actual", "due"] (defScope s__law_same) := ⟨rfl, rfl, rfl, by decide +kernel, rfl, by decide +kernel, by decide +kernel⟩
abbrev s__law_is_name : Stmt := top 35
abbrev N__law_is_name : List Str := ["text", "letters", "sign"]
theorem sc__law_is_name : FnScope ["text", "letters", "sign"] ["text"] (defScope s__law_is_name) := ⟨rfl, rfl, rfl, by decide +kernel, rfl, by decide +kernel, by decide +kernel⟩
abbrev s__law_number : Stmt := top 36
abbrev N__law_number : List Str := ["text", "digits", "sign"]
theorem sc__law_number : FnScope ["text", "digits", "sign"] ["text", "digits"] (defScope s__law_number) := ⟨rfl, rfl, rfl, by decide +kernel, rfl, by decide +kernel, by decide +kernel⟩
abbrev s__law_parts : Stmt := top 37
abbrev N__law_parts : List Str := ["word", "parts", "first", "keyed", "hops", "date"]
theorem sc__law_parts : FnScope ["word", "parts", "first", "keyed", "hops", "date"] ["word"] (defScope s__law_parts) := ⟨rfl, rfl, rfl, by decide +kernel, rfl, by decide +kernel, by decide +kernel⟩
abbrev s__law_key : Stmt := top 38
abbrev N__law_key : List Str := ["source", "number", "key", "way"]
theorem sc__law_key : FnScope ["source", "number", "key", "way"] ["source"] (defScope s__law_key) := ⟨rfl, rfl, rfl, by decide +kernel, rfl, by decide +kernel, by decide +kernel⟩
abbrev s__law_word : Stmt := top 39
abbrev N__law_word : List Str := ["source", "way", "first", "hops", "date", "keyed"]
theorem sc__law_word : FnScope ["source", "way", "first", "hops", "date", "keyed"] ["source"] (defScope s__law_word) := ⟨rfl, rfl, rfl, by decide +kernel, rfl, by decide +kernel, by decide +kernel⟩
abbrev s__law_bent : Stmt := top 40
abbrev N__law_bent : List Str := ["source", "word", "place", "odd", "parts", "way"]
theorem sc__law_bent : FnScope ["source", "word", "place", "odd", "parts", "way"] ["source", "word"] (defScope s__law_bent) := ⟨rfl, rfl, rfl, by decide +kernel, rfl, by decide +kernel, by decide +kernel⟩
abbrev s__law_read_right : Stmt := top 41
abbrev N__law_read_right : List Str := ["word", "due", "parts", "fault"]
theorem sc__law_read_right : FnScope ["word", "due", "parts", "fault"] ["word"] (defScope s__law_read_right) := ⟨rfl, rfl, rfl, by decide +kernel, rfl, by decide +kernel, by decide +kernel⟩
abbrev s__law_row_right : Stmt := top 42
abbrev N__law_row_right : List Str := ["row", "due"]
theorem sc__law_row_right : FnScope ["row", "due"] ["row"] (defScope s__law_row_right) := ⟨rfl, rfl, rfl, by decide +kernel, rfl, by decide +kernel, by decide +kernel⟩
abbrev s_law : Stmt := top 43
abbrev N_law : List Str := ["script", "source", "words", "step", "word", "rows", "row"]
theorem sc_law : FnScope ["script", "source", "words", "step", "word", "rows", "row"] ["script"] (defScope s_law) := ⟨rfl, rfl, rfl, by decide +kernel, rfl, by decide +kernel, by decide +kernel⟩
structure Tx (mg : Str → Option Value) : Prop where
  n_abs : mg "abs" = none
  n_all : mg "all" = none
  n_bool : mg "bool" = none
  n_int : mg "int" = none
  n_isinstance : mg "isinstance" = none
  n_len : mg "len" = none
  n_list : mg "list" = none
  n_range : mg "range" = none
  n_str : mg "str" = none
  n_tuple : mg "tuple" = none
  n_zip : mg "zip" = none
  c_LETTERS : ∃ t, mg "LETTERS" = some (.str ("abcdefghijklmnopqrstuvwxyz") t)
  c_DIGITS : ∃ t, mg "DIGITS" = some (.str ("0123456789") t)
  c_CHARACTERS : ∃ t, mg "CHARACTERS" = some (.str (" !\"#$&'()*+,-./0123456789:;<=>?@ABCDEFGHIJKLMNOPQRSTUVWXYZ[\\]^_`abcdefghijklmnopqrstuvwxyz{|}~") t)
  c_LONGEST_NAME : ∃ t, mg "LONGEST_NAME" = some (.int 8 t)
  c_LONGEST_KEY : ∃ t, mg "LONGEST_KEY" = some (.int 60 t)
  c_LONGEST_HOPS : ∃ t, mg "LONGEST_HOPS" = some (.int 3 t)
  c_LONGEST_DATE : ∃ t, mg "LONGEST_DATE" = some (.int 7 t)
def tab_FORMS : List (Str × List Str) := [("open", ["name", "name"]), ("offer", ["key", "hops", "date"]), ("bring", ["key"]), ("body", ["key"]), (".", []), ("clear", ["key"]), ("close", []), ("ready", []), ("want", ["key"]), ("have", ["key"]), ("old", ["key"]), ("took", ["key"]), ("spoilt", ["key"]), ("cleared", ["key"]), ("closed", [])]
structure Tw (K : PySem.W.Frag) (w : World) (mg : Str → Option Value) (A_FORMS : Addr) : Prop where
  g_FORMS : mg "FORMS" = some (.ref A_FORMS)
  t_FORMS : TabAt K w A_FORMS tab_FORMS
abbrev s_init_BadWord : Stmt := inClass (top 4) 0
theorem sc_init_BadWord : FnScope ["self", "word"] ["self", "word"] (defScope s_init_BadWord) := ⟨rfl, rfl, rfl, by decide +kernel, rfl, by decide +kernel, by decide +kernel⟩
section
variable {P : Program} {w : World} {K : PySem.W.Frag} {mg : Str → Option Value} {base : Heap}
theorem ok_init_BadWord {C f : Addr} {fd : FuncData} (F : Fun K "__init__" "BadWord.__init__" s_init_BadWord f fd) : FnOk P w K mg base CX0 1 f fd ["self", "word"] (sp_init K C "word") := by
  refine F.ok sc_init_BadWord (fun vs H Q E h => ?_) (fun cdv A outer s₀ H vs Q E hr h => ?_)
  · obtain ⟨a, v, rfl, _⟩ := h; rfl
  · obtain ⟨a, v, rfl, T, hno, ha, q⟩ := h
    refine ⟨_, (pss_one (ps_ost (pv 0) (pv 1))), ?_⟩
    exact ⟨_, rfl, _, rfl, a, C, rfl, T, hno, .inl ⟨ha, fun dx n ne => q dx n ne⟩⟩
end
structure Tc (K : PySem.W.Frag) (mg : Str → Option Value) (A_MootError A_TextError A_LimitError A_BadWord : Addr) : Prop where
  g_MootError : mg "MootError" = some (.ref A_MootError)
  g_TextError : mg "TextError" = some (.ref A_TextError)
  g_LimitError : mg "LimitError" = some (.ref A_LimitError)
  g_BadWord : mg "BadWord" = some (.ref A_BadWord)
  e_BadWord : XOk K mg "BadWord" A_BadWord
  n_BadWord_word : PySem.W.findIn K (.ref A_BadWord) "word" = some none
  i_BadWord : ∃ (fI : Addr) (fd : FuncData), Fun K "__init__" "BadWord.__init__" s_init_BadWord fI fd ∧ PySem.W.findIn K (.ref A_BadWord) "__init__" = some (some (.ref fI)) ∧ PySem.W.typeIn K (.ref fI) = some (.type "function") ∧ Binds K fd ["self", "word"] []
  m_BadWord_MootError : PySem.W.exmOne K (.ref A_BadWord) (.ref A_MootError) = some true
  k_BadWord_TextError : PySem.W.kitOne K (.ref A_BadWord) ((.ref A_TextError)) = some false
  k_BadWord_BadWord : PySem.W.kitOne K (.ref A_BadWord) ((.ref A_BadWord)) = some true
  k_BadWord_LimitError : PySem.W.kitOne K (.ref A_BadWord) ((.ref A_LimitError)) = some false
end Z
namespace Z
open PySem L2 SX
/-! ### names, boards, ids -/
def ltr (c : Nat) : Bool := decide (c ∈ tl (Str.ofString "abcdefghijklmnopqrstuvwxyz"))
def dgt (c : Nat) : Bool := decide (c ∈ tl (Str.ofString "0123456789"))
theorem ltr_iff (c : Nat) : ltr c = true ↔ 97 ≤ c ∧ c ≤ 122 := by
  have e : tl (Str.ofString "abcdefghijklmnopqrstuvwxyz") = (List.range 26).map (97 + ·) := by rfl
  unfold ltr
  rw [e, decide_eq_true_iff, List.mem_map]
  constructor
  · rintro ⟨k, h, rfl⟩; have := List.mem_range.mp h; omega
  · intro h; exact ⟨c - 97, List.mem_range.mpr (by omega), by omega⟩
theorem dgt_iff (c : Nat) : dgt c = true ↔ 48 ≤ c ∧ c ≤ 57 := by
  have e : tl (Str.ofString "0123456789") = (List.range 10).map (48 + ·) := by rfl
  unfold dgt
  rw [e, decide_eq_true_iff, List.mem_map]
  constructor
  · rintro ⟨k, h, rfl⟩; have := List.mem_range.mp h; omega
  · intro h; exact ⟨c - 48, List.mem_range.mpr (by omega), by omega⟩
def alnum (c : Nat) : Bool := ltr c || dgt c
def plain : List Nat → Bool
  | [] => false
  | c :: r => ltr c && (c :: r).all alnum
def nameB (l : List Nat) : Bool := decide (l.length ≤ 8) && plain l
def addrB (l : List Nat) : Bool := match TL.par [64] [] l with
  | some (p, q) => nameB p && nameB q
  | none => false
def boardB (l : List Nat) : Bool := decide (l.length ≤ 600) && (TL.spl [46] 0 [] l).all plain
def dOk (d : List Nat) : Bool := match d with
  | [] => false
  | c :: r => decide ((c :: r).length ≤ 6) && (decide (c ≠ 48) && (c :: r).all dgt)
def numOk (d : List Nat) : Bool := match d with
  | [] => false
  | c :: r => decide ((c :: r).length ≤ 6) && ((c :: r).all dgt && !(decide (c = 48) && decide (c :: r ≠ [48])))
def numV (d : List Nat) : V := if numOk d = true then .int (NumText.digitsVal d : Nat) else .non
def identD (l : List Nat) : D := match TL.par [64] [] l with
  | some (d, p) => if (dOk d && nameB p) = true then .tup [.str (S p), .int (NumText.digitsVal d : Nat)] else .non
  | none => .non
theorem plain_all {l : List Nat} (h : plain l = true) : ∀ c ∈ l, alnum c = true := by
  cases l with
  | nil => cases h
  | cons c r => exact List.all_eq_true.mp (Bool.and_eq_true_iff.mp h).2
theorem name_free {l : List Nat} (h : nameB l = true) : 64 ∉ l := fun m => by
  have := plain_all (Bool.and_eq_true_iff.mp h).2 64 m
  revert this; decide +kernel
theorem spl_free1 {s : Nat} : ∀ {l acc : List Nat}, s ∉ l → TL.spl [s] 0 acc l = [acc ++ l]
  | [], acc, _ => by rw [TL.spl_nil, List.append_nil]
  | c :: r, acc, h => by
    have hc : ¬ c = s := fun e => h (by rw [e]; exact List.mem_cons_self ..)
    rw [TL.spl_miss (show TL.pre [s] (c :: r) = false from ?_), spl_free1 (fun m => h (List.mem_cons_of_mem _ m)), List.append_assoc]; rfl
    show ([c] == [s]) = false
    simp [hc]
theorem spl_par {s : Nat} : ∀ (l acc : List Nat), TL.spl [s] 0 acc l = (match TL.par [s] acc l with
  | some (p, q) => p :: TL.spl [s] 0 [] q
  | none => [acc ++ l])
  | [], acc => by rw [TL.spl_nil, List.append_nil]; rfl
  | c :: r, acc => by
    show (if TL.pre [s] (c :: r) = true then acc :: TL.spl [s] 0 [] r else TL.spl [s] 0 (acc ++ [c]) r) = (match (if TL.pre [s] (c :: r) = true then some (acc, r) else TL.par [s] (acc ++ [c]) r) with
      | some (p, q) => p :: TL.spl [s] 0 [] q
      | none => [acc ++ c :: r])
    by_cases h : TL.pre [s] (c :: r) = true
    · rw [if_pos h, if_pos h]
    · rw [if_neg h, if_neg h, spl_par r (acc ++ [c])]
      cases TL.par [s] (acc ++ [c]) r with
      | none => show [(acc ++ [c]) ++ r] = [acc ++ c :: r]; rw [List.append_assoc]; rfl
      | some pq => rfl
theorem par_some {s : Nat} : ∀ {l acc : List Nat} {p q : List Nat}, TL.par [s] acc l = some (p, q) → acc ++ l = p ++ s :: q
  | [], acc, p, q, h => by cases h
  | c :: r, acc, p, q, h => by
    have h' : (if TL.pre [s] (c :: r) = true then some (acc, r) else TL.par [s] (acc ++ [c]) r) = some (p, q) := h
    by_cases k : TL.pre [s] (c :: r) = true
    · rw [if_pos k] at h'
      have e : c = s := by
        have : ([c] == [s]) = true := k
        simpa using this
      cases h'; rw [e]
    · rw [if_neg k] at h'
      have := par_some h'
      rw [← this, List.append_assoc]; rfl
theorem dval_aux : ∀ (d : List Nat) (a : Nat), d.all dgt = true → d.foldl (fun acc c => acc * 10 + (c - 48)) a < (a + 1) * 10 ^ d.length
  | [], a, _ => by simp
  | c :: r, a, h => by
    obtain ⟨h1, h2⟩ := Bool.and_eq_true_iff.mp (show (dgt c && r.all dgt) = true from h)
    have h3 := (dgt_iff c).mp h1
    have ih := dval_aux r (a * 10 + (c - 48)) h2
    show r.foldl (fun acc c => acc * 10 + (c - 48)) (a * 10 + (c - 48)) < (a + 1) * 10 ^ (r.length + 1)
    refine Nat.lt_of_lt_of_le ih ?_
    rw [Nat.pow_succ, show (a + 1) * (10 ^ r.length * 10) = ((a + 1) * 10) * 10 ^ r.length by rw [Nat.mul_comm (10 ^ r.length) 10, Nat.mul_assoc]]
    exact Nat.mul_le_mul_right _ (by omega)
theorem dval_le (d : List Nat) (h : d.all dgt = true) : NumText.digitsVal d < 10 ^ d.length := by
  have := dval_aux d 0 h
  rw [Nat.zero_add, Nat.one_mul] at this
  exact this
theorem dOk_num {d : List Nat} (h : dOk d = true) : numOk d = true ∧ 1 ≤ NumText.digitsVal d ∧ NumText.digitsVal d ≤ 999999 := by
  cases d with
  | nil => cases h
  | cons c r =>
    obtain ⟨h1, h2⟩ := Bool.and_eq_true_iff.mp h
    obtain ⟨h3, h4⟩ := Bool.and_eq_true_iff.mp h2
    have c48 : c ≠ 48 := of_decide_eq_true h3
    have hc := (dgt_iff c).mp (List.all_eq_true.mp h4 c (List.mem_cons_self ..))
    have l6 : (c :: r).length ≤ 6 := of_decide_eq_true h1
    refine ⟨?_, NumText.digitsVal_pos (by omega), ?_⟩
    · show (decide _ && (_ && !(decide (c = 48) && _))) = true
      rw [h1, h4, decide_eq_false c48]; rfl
    · have := dval_le _ h4
      have k : 10 ^ (c :: r).length ≤ 10 ^ 6 := Nat.pow_le_pow_right (by decide) l6
      have : (10 : Nat) ^ 6 = 1000000 := by decide
      omega
theorem num_zero {d : List Nat} (h : numOk d = true) (n : dOk d = false) : NumText.digitsVal d = 0 := by
  cases d with
  | nil => cases h
  | cons c r =>
    obtain ⟨h1, h2⟩ := Bool.and_eq_true_iff.mp h
    obtain ⟨h3, h4⟩ := Bool.and_eq_true_iff.mp h2
    have n' : (decide ((c :: r).length ≤ 6) && (decide (c ≠ 48) && (c :: r).all dgt)) = false := n
    rw [h1, h3] at n'
    have e : c = 48 := by simpa using n'
    rw [decide_eq_true e] at h4
    have : c :: r = [48] := by simpa using h4
    rw [this]; decide
theorem isint {d : List Nat} (h : d.all dgt = true) (hne : d ≠ []) (hl : d.length ≤ 4300) : PySem.intText? (S d) = some ((NumText.digitsVal d : Nat) : Int) := by
  refine int_S (List.all_eq_true.mpr fun c m => ?_) hne hl
  have := (dgt_iff c).mp (List.all_eq_true.mp h c m)
  rw [decide_eq_true this.1, decide_eq_true this.2]; rfl
/-- the parts of a text at @ -/
theorem split_at (x : Str) : Txt.split x (Str.ofString "@") = (TL.spl [64] 0 [] (tl x)).map S := split_S (a := tl x) (b := [64]) (by decide) (by decide)
theorem split_dot (x : Str) : Txt.split x (Str.ofString ".") = (TL.spl [46] 0 [] (tl x)).map S := split_S (a := tl x) (b := [46]) (by decide) (by decide)
theorem part_some {x : Str} {p q : List Nat} (h : TL.par [64] [] (tl x) = some (p, q)) : Txt.partition x (Str.ofString "@") = (S p, Str.ofString "@", S q) := partition_some (a := tl x) (b := [64]) (by decide) h
theorem part_none {x : Str} (h : TL.par [64] [] (tl x) = none) : Txt.partition x (Str.ofString "@") = (x, S [], S []) := partition_none (a := tl x) (b := [64]) (by decide) h

def sp_number_of : Sp := fun vs H Q _ => ∃ (x : Str), vs = [.str x, .int 6] ∧ (tl x).length ≤ 2000 ∧ ∀ H', Same H H' → Q (numV (tl x)) H'
def sp_is_word : Sp := fun vs H Q _ => ∃ (x : Str), vs = [.str x] ∧ (tl x).length ≤ 2000 ∧ ∀ H', Same H H' → Q (.bl (plain (tl x))) H'
def sp_is_name : Sp := fun vs H Q _ => ∃ (x : Str), vs = [.str x] ∧ (tl x).length ≤ 2000 ∧ ∀ H', Same H H' → Q (.bl (nameB (tl x))) H'
def sp_is_address : Sp := fun vs H Q _ => ∃ (x : Str), vs = [.str x] ∧ (tl x).length ≤ 2000 ∧ ∀ H', Same H H' → Q (.bl (addrB (tl x))) H'
def sp_is_board : Sp := fun vs H Q _ => ∃ (x : Str), vs = [.str x] ∧ (tl x).length ≤ 2000 ∧ ∀ H', Same H H' → Q (.bl (boardB (tl x))) H'
def sp_is_id (K : PySem.W.Frag) : Sp := fun vs H Q _ => ∃ (a : Addr) (x : Str) (n : Int), vs = [.ref a] ∧ SqT K H a [.str x, .int n] ∧ (tl x).length ≤ 2000 ∧ ∀ H', Same H H' → Q (.bl (nameB (tl x) && (decide (1 ≤ n) && decide (n ≤ 999999)))) H'
def sp_id_text (K : PySem.W.Frag) : Sp := fun vs H Q _ => ∃ (a : Addr) (x : Str) (n : Nat), vs = [.ref a] ∧ SqT K H a [.str x, .int (n : Int)] ∧ (tl x).length ≤ 2000 ∧ n ≤ 999999 ∧ ∀ y : Str, tl y = TL.numL n ++ 64 :: tl x → Q (.str y) H
def sp_id_of (K : PySem.W.Frag) : Sp := fun vs H Q _ => ∃ (x : Str), vs = [.str x] ∧ (tl x).length ≤ 2000 ∧ ∀ v H', Same H H' → DV K H' (identD (tl x)) v → Q v H'
def sp_split_address (K : PySem.W.Frag) : Sp := fun vs H Q _ => ∃ (x : Str) (p q : List Nat), vs = [.str x] ∧ (tl x).length ≤ 2000 ∧ TL.par [64] [] (tl x) = some (p, q) ∧ ∀ v H', Same H H' → DV K H' (.tup [.str (S p), .str (S q)]) v → Q v H'
def sp__law_bent : Sp := fun vs H Q _ => ∃ (s a : Addr) (x : Str) (c : Nat), vs = [.ref s, .str x] ∧ (tl x).length ≤ 1900 ∧ Src H s a (c + 10) ∧ ∀ (y : Str) (H' : Hp), (tl y).length ≤ (tl x).length + 10 → Ext s H H' → Src H' s a c → Q (.str y) H'
def sp__law_strings : Sp := fun vs H Q _ => ∃ (s a : Addr) (c : Nat), vs = [.ref s] ∧ Src H s a (c + 500) ∧ ∀ (u : Addr) (us : List Str) (H' : Hp), H u = none → H' u = some (.lst (us.map V.str)) → us.length ≤ 20 → (∀ x ∈ us, (tl x).length ≤ 1000) → Ext s H H' → Src H' s a c → Q (.ref u) H'
theorem eqL {x y : Str} : V.str x = V.str y ↔ tl x = tl y := ⟨fun h => by injection h with h; rw [h], fun h => by rw [tl_ext h]⟩
theorem numOk_iff (l : List Nat) : numOk l = true ↔ l ≠ [] ∧ l.length ≤ 6 ∧ l.all dgt = true ∧ ¬ (l.head? = some 48 ∧ l ≠ [48]) := by
  cases l with
  | nil => exact ⟨fun h => (by cases h), fun h => absurd rfl h.1⟩
  | cons c r =>
    show (decide _ && (_ && !(decide (c = 48) && decide _))) = true ↔ _
    simp only [Bool.and_eq_true, decide_eq_true_eq, Bool.not_eq_true', Bool.and_eq_false_iff, decide_eq_false_iff_not, List.head?_cons, Option.some.injEq]
    constructor
    · rintro ⟨a, b, c⟩; exact ⟨by simp, a, b, fun h => c.elim (fun k => k h.1) (fun k => k h.2)⟩
    · rintro ⟨_, a, b, k0⟩
      refine ⟨a, b, ?_⟩
      by_cases k : c = 48
      · exact .inr fun e => k0 ⟨k, e⟩
      · exact .inl k
theorem plain_iff (l : List Nat) : plain l = true ↔ ∃ c, l.head? = some c ∧ ltr c = true ∧ l.all alnum = true := by
  cases l with
  | nil => exact ⟨fun h => (by cases h), fun ⟨c, h, _⟩ => (by cases h)⟩
  | cons c r =>
    show (ltr c && _) = true ↔ _
    rw [Bool.and_eq_true]
    exact ⟨fun h => ⟨c, rfl, h⟩, fun ⟨d, e, h⟩ => by cases e; exact h⟩
theorem head_at {x : Str} (h : tl x ≠ []) : ∃ c, x.cps[(0 : Int).toNat]? = some c ∧ (tl x).head? = some c := by
  have h1 : (0 : Int) < (x.length : Int) := by
    have := List.length_pos_iff.mpr h
    rw [tl_len]; omega
  obtain ⟨c, e1, e2, _⟩ := at_str (Int.le_refl 0) h1
  refine ⟨c, e1, ?_⟩
  rw [List.head?_eq_getElem?]; exact e2
theorem spl_bound (c0 : Nat) : ∀ (l acc : List Nat), (∀ q ∈ TL.spl [c0] 0 acc l, q.length ≤ acc.length + l.length) ∧ (TL.spl [c0] 0 acc l).length ≤ l.length + 1
  | [], acc => by
    rw [TL.spl_nil]
    exact ⟨fun q h => by rw [List.mem_singleton.mp h]; exact Nat.le_refl _, Nat.le_refl _⟩
  | c :: r, acc => by
    cases h : TL.pre [c0] (c :: r) with
    | true =>
      rw [TL.spl_hit h]
      have ih := spl_bound c0 r []
      refine ⟨fun q hq => ?_, ?_⟩
      · rcases List.mem_cons.mp hq with e | e
        · subst e; omega
        · have := ih.1 q e; rw [List.length_nil] at this; rw [List.length_cons]; omega
      · have := ih.2; show (TL.spl [c0] 0 [] r).length + 1 ≤ r.length + 1 + 1; omega
    | false =>
      rw [TL.spl_miss h]
      have ih := spl_bound c0 r (acc ++ [c])
      refine ⟨fun q hq => ?_, ?_⟩
      · have := ih.1 q hq; rw [List.length_append] at this; rw [List.length_cons]; simp at this; omega
      · rw [List.length_cons]; have := ih.2; omega
theorem spl_ne {s : Nat} (l acc : List Nat) : TL.spl [s] 0 acc l ≠ [] := by
  rw [spl_par]
  cases TL.par [s] acc l with
  | none => exact fun h => (by cases h)
  | some pq => exact fun h => (by cases h)
theorem at_two (l : List Nat) : (∃ p r, TL.par [64] [] l = some (p, r) ∧ TL.spl [64] 0 [] l = [p, r]) ∨ ((TL.spl [64] 0 [] l).length ≠ 2 ∧ ∀ p r, TL.par [64] [] l = some (p, r) → nameB r = false) := by
  cases hp : TL.par [64] [] l with
  | none =>
    refine .inr ⟨?_, fun p r h => (by cases h)⟩
    rw [spl_par, hp]; exact fun h => (by cases h)
  | some pr =>
    obtain ⟨p, r⟩ := pr
    have e : TL.spl [64] 0 [] l = p :: TL.spl [64] 0 [] r := by rw [spl_par, hp]
    cases hr : TL.par [64] [] r with
    | none => exact .inl ⟨p, r, rfl, by rw [e, spl_par r [], hr]; rfl⟩
    | some pq =>
      obtain ⟨p', q'⟩ := pq
      have e2 : TL.spl [64] 0 [] r = p' :: TL.spl [64] 0 [] q' := by rw [spl_par r [], hr]
      refine .inr ⟨?_, fun p0 r0 h => ?_⟩
      · rw [e, e2]
        have := List.length_pos_iff.mpr (spl_ne (s := 64) q' [])
        show (_ + 1) + 1 ≠ 2
        omega
      · cases h
        have := par_some hr
        rw [List.nil_append] at this
        cases k : nameB r with
        | false => rfl
        | true => exact absurd (by rw [this]; simp) (name_free k)
theorem addr_false {l : List Nat} (hn : ∀ p r, TL.par [64] [] l = some (p, r) → nameB r = false) : addrB l = false := by
  unfold addrB
  cases hp : TL.par [64] [] l with
  | none => rfl
  | some pr => obtain ⟨p, r⟩ := pr; show (nameB p && nameB r) = false; rw [hn p r hp, Bool.and_false]
theorem ident_non {l : List Nat} (hn : ∀ p r, TL.par [64] [] l = some (p, r) → (dOk p && nameB r) = false) : identD l = .non := by
  unfold identD
  cases hp : TL.par [64] [] l with
  | none => rfl
  | some pr => obtain ⟨p, r⟩ := pr; show (if (dOk p && nameB r) = true then _ else _) = _; rw [hn p r hp]; rfl
theorem cut_le (x : Str) (i j : Option Int) : (tl (cutS x i j)).length ≤ (tl x).length := by
  show ((List.drop _ (tl x)).take _).length ≤ _
  rw [List.length_take, List.length_drop]; omega
theorem ext_free {H H1 : Hp} {s a u : Addr} {c : Nat} (x : Ext s H H1) (S : Src H1 s a c) (h : H1 u = none) : H u = none := by
  cases e : H u with
  | none => rfl
  | some o =>
    by_cases q : u = s
    · subst q
      obtain ⟨xs, e2⟩ := S.lst
      rw [h] at e2; cases e2
    · have := x _ _ q e
      rw [h] at this; cases this
theorem joinL_len {s : List Nat} {n : Nat} : ∀ {ls : List (List Nat)}, (∀ l ∈ ls, l.length ≤ n) → (TL.joinL s ls).length ≤ ls.length * (n + s.length)
  | [], _ => by simp [TL.joinL]
  | [x], h => by have := h x (by simp); show x.length ≤ 1 * (n + s.length); omega
  | x :: y :: r, h => by
    have ih := joinL_len (s := s) (ls := y :: r) (fun l m => h l (List.mem_cons_of_mem _ m))
    have := h x (by simp)
    show (x ++ (s ++ TL.joinL s (y :: r))).length ≤ ((y :: r).length + 1) * (n + s.length)
    rw [List.length_append, List.length_append, Nat.succ_mul]
    omega
theorem tl_joinS (s : Str) (xs : List Str) : tl (Txt.join s xs) = TL.joinL (tl s) (xs.map tl) := by
  have h := join_S (tl s) (xs.map tl)
  rw [tl_mapS] at h
  exact congrArg tl h
theorem sum_len {n : Nat} : ∀ {xs : List Str}, (∀ x ∈ xs, (tl x).length ≤ n) → (xs.map (·.length)).sum ≤ xs.length * n
  | [], _ => by simp
  | x :: xs, h => by
    have := h x (by simp)
    have ih := sum_len (n := n) (xs := xs) (fun y m => h y (List.mem_cons_of_mem _ m))
    rw [List.map_cons, List.sum_cons, List.length_cons, Nat.succ_mul, tl_len]; omega
def sp8__law_new_name (K : PySem.W.Frag) : Sp := fun vs H Q _ => ∃ (s a u : Addr) (us : List Str) (c : Nat), vs = [.ref s, .ref u] ∧ SqL K H u (us.map V.str) ∧ u ≠ s ∧ us.length ≤ 9 ∧ Src H s a (c + 8) ∧
  ∀ (x : Str) (H' : Hp), Nm (tl x) → (tl x).length ≤ 8 → Ext s H H' → Src H' s a c → Q (.str x) H'
def sp8__law_names (K : PySem.W.Frag) : Sp := fun vs H Q _ => ∃ (s a : Addr) (m c : Nat), vs = [.ref s, .int m] ∧ m ≤ 9 ∧ Src H s a (c + 8 * m) ∧
  ∀ (u : Addr) (us : List Str) (H' : Hp), H u = none → H' u = some (.lst (us.map V.str)) → us.length = m → (∀ x ∈ us, Nm (tl x) ∧ (tl x).length ≤ 8) → Ext s H H' → Src H' s a c → Q (.ref u) H'
theorem numL_lead : ∀ m : Nat, 1 ≤ m → ∃ c r, TL.numL m = c :: r ∧ 49 ≤ c ∧ c ≤ 57 := by
  intro m
  induction m using Nat.strongRecOn with
  | ind m ih =>
    intro h
    by_cases k : m < 10
    · rw [TL.numL_lt k]; exact ⟨48 + m, [], rfl, by omega, by omega⟩
    · obtain ⟨c, r, e, h1⟩ := ih (m / 10) (by omega) (by omega)
      rw [TL.numL_step (by omega), e]; exact ⟨c, _, rfl, h1⟩
theorem num_dOk {m : Nat} (h1 : 1 ≤ m) (h2 : m ≤ 999999) : dOk (TL.numL m) = true := by
  obtain ⟨c, r, e, h3, h4⟩ := numL_lead m h1
  have l6 := TL.numL_len (n := m) (k := 6) (by decide) (by omega)
  have ad : (TL.numL m).all dgt = true := List.all_eq_true.mpr fun d hd => (dgt_iff d).mpr (by have := TL.numL_digits m d hd; omega)
  rw [e] at l6 ad ⊢
  show (decide _ && (decide (c ≠ 48) && _)) = true
  rw [decide_eq_true l6, decide_eq_true (show c ≠ 48 by omega), ad]; rfl
theorem par_free1 {s : Nat} {q : List Nat} : ∀ {p acc : List Nat}, s ∉ p → TL.par [s] acc (p ++ s :: q) = some (acc ++ p, q)
  | [], acc, _ => by
    show (if TL.pre [s] (s :: q) = true then some (acc, q) else _) = _
    rw [if_pos (by show ([s] == [s]) = true; simp), List.append_nil]
  | c :: r, acc, h => by
    have hc : ¬ c = s := fun e => h (by rw [e]; exact List.mem_cons_self ..)
    show (if TL.pre [s] (c :: (r ++ s :: q)) = true then _ else TL.par [s] (acc ++ [c]) (r ++ s :: q)) = _
    rw [if_neg (by show ¬ ([c] == [s]) = true; simp [hc]), par_free1 (fun m => h (List.mem_cons_of_mem _ m)), List.append_assoc]; rfl
theorem Nm.name {l : List Nat} (h : Nm l) (h8 : l.length ≤ 8) : nameB l = true := by
  obtain ⟨⟨c, r, e, h1⟩, h2⟩ := h
  unfold nameB
  rw [decide_eq_true h8, (plain_iff l).mpr ⟨c, by rw [e]; rfl, (ltr_iff c).mpr h1, List.all_eq_true.mpr fun d hd => ?_⟩]; rfl
  unfold alnum
  rcases h2 d hd with k | k
  · rw [(ltr_iff d).mpr k]; rfl
  · rw [(dgt_iff d).mpr k, Bool.or_true]
theorem ident_text {m : Nat} {x : Str} (h1 : 1 ≤ m) (h2 : m ≤ 999999) (hx : Nm (tl x)) (h8 : (tl x).length ≤ 8) : identD (TL.numL m ++ 64 :: tl x) = .tup [.str x, .int (m : Int)] := by
  unfold identD
  rw [par_free1 (s := 64) (acc := []) (TL.numL_free (.inr (by decide)))]
  show (if (dOk ([] ++ TL.numL m) && nameB (tl x)) = true then _ else _) = _
  rw [List.nil_append, num_dOk h1 h2, hx.name h8, TL.numL_val]; rfl
theorem identDL (l : List Nat) : DL 2 (identD l) := by
  unfold identD
  cases TL.par [64] [] l with
  | none => exact True.intro
  | some pr =>
    obtain ⟨p, r⟩ := pr
    show DL 2 (if (dOk p && nameB r) = true then _ else _)
    split
    · refine ⟨by show 2 ≤ _; decide, fun x hx => ?_⟩
      simp only [List.mem_cons, List.not_mem_nil, or_false] at hx
      rcases hx with e | e <;> subst e <;> exact True.intro
    · exact True.intro
theorem DV.same {K : PySem.W.Frag} {H H' : Hp} (m : Same H H') {d : D} {v : V} (h : DV K H d v) : DV K H' d v := DV.ext (fun _ _ q => m.tup q) h
end Z
namespace Z
open PySem PySem.Spec PyProof.Rows L2
/-! ### zip of a tuple and a list -/
section
variable {prog : Program} {w : World} {A : Around} {E : Value → Shared → Prop} {s : Shared}
/-- up to the first of the two: what stands when it is asked -/
theorem zipM_head {z TI TO i1 i2 : Addr} {a b : Value} {Q : Fin → Shared → Prop} (hz : IsZip s.heap z TI TO .none) (hTI : IsPair s.heap TI (.ref i1) (.ref i2)) (hTO : IsPair s.heap TO a b)
    {l1 l2 : Addr} {k1 k2 : Nat} {xs ys : Array Value} (D : ZipApart z TI TO i1 i2 l1 l2) (h1 : s.heap.IsTupleIter i1 l1 k1) (h2 : s.heap.IsListIter i2 l2 k2) (hl1 : s.heap.IsTuple l1 xs) (hl2 : s.heap.IsList l2 ys)
    (hitem : ∀ x y, xs[k1]? = some x → ys[k2]? = some y → ∀ h', IsZip h' z TI TO (rawInt s.heap.objs.size) → IsPair h' TO x y → h'.IsTupleIter i1 l1 (k1 + 1) → h'.IsListIter i2 l2 (k2 + 1) → IsPair h' s.heap.objs.size x y → h'.objs.size = s.heap.objs.size + 1 →
      (∀ c o, c ≠ z → c ≠ TO → c ≠ i1 → c ≠ i2 → s.heap.get? c = some o → h'.get? c = some o) → Q (.done (.ret (.ref s.heap.objs.size))) { s with heap := h' })
    (hgo : (∃ x y, xs[k1]? = some x ∧ ys[k2]? = some y) ∨ (xs[k1]? = none ∧ A.handled = none ∧ ∀ h' e, (∀ c o, c ≠ z → c ≠ TO → c ≠ i1 → c ≠ i2 → s.heap.get? c = some o → h'.get? c = some o) → (∃ o, h'.get? e = some o ∧ o.cls = .type "StopIteration") → E (.ref e) { s with heap := h' })) :
    wpAny (model prog w) A (Builtin.«zip.__next__» ⟨[.ref z], []⟩) Q E s := by
  show wpAny _ _ (field (.ref z) 2 >>= _) _ _ _
  refine wpAny_bind (wpAny_field hz rfl (x := .bool false) rfl ?_)
  show wpAny _ _ (field (.ref z) 3 >>= _) _ _ _
  refine wpAny_bind (wpAny_field hz rfl (x := .ref TI) rfl ?_)
  refine wpAny_bind (wpAny_seqItems hTI rfl ?_)
  show wpAny _ _ (Builtin.SmallTypes.ownedTupleIsFree (.ref z) >>= _) _ _ _
  refine wpAny_bind ?_
  unfold Builtin.SmallTypes.ownedTupleIsFree
  refine wpAny_bind (wpAny_field hz rfl (x := .none) rfl (wpAny_pure ?_))
  simp only [if_true]
  refine wpAny_bind (wpAny_rule ?_)
  refine wpAny_bind (wpAny_field hz rfl (x := .ref TO) rfl ?_)
  refine wpAny_bind (wpAny_setField_rec hz (by simp) fun g1 z1 b1 => ?_)
  replace z1 : IsZip g1 z TI TO .ellipsis := z1
  have t1 := hl1.extBut b1.extBut D.l1z
  have u1 := h1.extBut b1.extBut D.i1z
  have p1 : IsPair g1 TO a b := b1.extBut _ _ D.TOz hTO
  refine wpAny_bind ?_
  simp only [List.zipIdx_cons, List.zipIdx_nil, List.forIn_cons, List.forIn_nil]
  refine wpAny_bind (wpAny_bind (wpAny_onRaise ?_))
  show wpAny _ _ (Builtin.SmallTypes.nextOf (.ref i1) >>= _) _ _ _
  rcases hgo with ⟨x, y, hx, hy⟩ | ⟨hx, hh, hE⟩
  · refine wpAny_bind (wpAny_nextOf_tuple_item u1 t1 hx fun g2 u2 b2 => wpAny_pure ?_)
    have p2 : IsPair g2 TO a b := b2.extBut _ _ D.TOi1 p1
    refine wpAny_bind (wpAny_seqItems p2 rfl ?_)
    refine wpAny_bind (wpAny_updateSeq_pair p2 fun g3 p3 b3 => ?_)
    replace p3 : IsPair g3 TO x b := p3
    refine wpAny_bind (wpAny_letGo (wpAny_pure ?_))
    have all3 : ∀ c o, c ≠ z → c ≠ TO → c ≠ i1 → s.heap.get? c = some o → g3.get? c = some o := fun c o c1 c2 c3 e => b3.extBut _ _ c2 (b2.extBut _ _ c3 (b1.extBut _ _ c1 e))
    obtain ⟨ol, e1, e2⟩ := id hl2
    obtain ⟨oi, e3, e4⟩ := id h2
    have l3 : g3.IsList l2 ys := ⟨ol, all3 _ _ D.l2z D.l2TO D.l2i1 e1, e2⟩
    have i3 : g3.IsListIter i2 l2 k2 := ⟨oi, all3 _ _ D.i2z D.TOi2.symm D.i12.symm e3, e4⟩
    refine wpAny_bind (wpAny_bind (wpAny_onRaise ?_))
    show wpAny _ _ (Builtin.SmallTypes.nextOf (.ref i2) >>= _) _ _ _
    refine wpAny_bind (wpAny_nextOf_list_item i3 l3 hy fun g4 i4 b4 => wpAny_pure ?_)
    have p4 : IsPair g4 TO x b := b4.extBut _ _ D.TOi2 p3
    refine wpAny_bind (wpAny_seqItems p4 rfl ?_)
    refine wpAny_bind (wpAny_updateSeq_pair p4 fun g5 p5 b5 => ?_)
    replace p5 : IsPair g5 TO x y := p5
    refine wpAny_bind (wpAny_letGo (wpAny_pure (wpAny_pure ?_)))
    refine wpAny_bind (wpAny_seqItems p5 rfl ?_)
    refine wpAny_bind (wpAny_newTuple ?_)
    have sz : g5.objs.size = s.heap.objs.size := by rw [b5.1, b4.1, b3.1, b2.1, b1.1]
    have z5 : IsZip g5 z TI TO .ellipsis := b5.extBut _ _ D.TOz.symm (b4.extBut _ _ D.i2z.symm (b3.extBut _ _ D.TOz.symm (b2.extBut _ _ D.i1z.symm z1)))
    have all5 : ∀ c o, c ≠ z → c ≠ TO → c ≠ i1 → c ≠ i2 → s.heap.get? c = some o → g5.get? c = some o := fun c o c1 c2 c3 c4 e => b5.extBut _ _ c2 (b4.extBut _ _ c4 (all3 c o c1 c2 c3 e))
    have u5 : g5.IsTupleIter i1 l1 (k1 + 1) := ((u2.extBut b3.extBut D.TOi1.symm).extBut b4.extBut D.i12).extBut b5.extBut D.TOi1.symm
    have i5 : g5.IsListIter i2 l2 (k2 + 1) := i4.extBut b5.extBut D.TOi2.symm
    have lz : z < g5.objs.size := Heap.lt_size z5
    show wpAny _ _ (Builtin.SmallTypes.ownedTupleHandOut (.ref z) (.ref g5.objs.size) >>= _) _ _ _
    refine wpAny_bind ?_
    unfold Builtin.SmallTypes.ownedTupleHandOut
    have z6 : IsZip (g5.push { cls := .type "tuple", data := .seq #[x, y] }) z TI TO .ellipsis := Heap.get?_push_of_some _ z5
    refine wpAny_bind (wpAny_setField_rec z6 (by simp) fun g7 z7 b7 => ?_)
    replace z7 : IsZip g7 z TI TO (rawInt g5.objs.size) := z7
    refine wpAny_setField_rec z7 (by simp) fun g8 z8 b8 => ?_
    replace z8 : IsZip g8 z TI TO (rawInt g5.objs.size) := z8
    have up : ∀ c o, c ≠ z → g5.get? c = some o → g8.get? c = some o := fun c o c1 e => b8.extBut _ _ c1 (b7.extBut _ _ c1 (Heap.get?_push_of_some _ e))
    have T8 : IsPair g8 g5.objs.size x y := b8.extBut _ _ (Nat.ne_of_gt lz) (b7.extBut _ _ (Nat.ne_of_gt lz) (Heap.get?_push_size _ rfl))
    have s8 : g8.objs.size = g5.objs.size + 1 := by rw [b8.1, b7.1, Heap.size_push]
    rw [sz] at z8 T8 s8
    refine wpAny_pure ?_
    show Q (.done (.ret (.ref g5.objs.size))) _
    rw [sz]
    exact hitem x y hx hy g8 z8 (up _ _ D.TOz p5) (u5.at fun o e => up _ o D.i1z e) (i5.at fun o e => up _ o D.i2z e) T8 s8 fun c o c1 c2 c3 c4 e => up c o c1 (all5 c o c1 c2 c3 c4 e)
  · refine wpAny_bind (wpAny_nextOf_tuple_end hh u1 t1 hx fun g2 e b2 he => ?_)
    obtain ⟨oe, ge, ce⟩ := he
    have z2 : IsZip g2 z TI TO .ellipsis := b2 _ _ D.i1z.symm z1
    have ez : e ≠ z := fun q => by subst q; rw [z2] at ge; cases ge; simp at ce
    exact wpAny_setField_rec z2 (by simp) fun g3 _ b3 => hE g3 e (fun c o c1 _ c3 _ q => b3.extBut _ _ c1 (b2 _ _ c3 (b1.extBut _ _ c1 q))) ⟨oe, b3.extBut _ _ ez ge, ce⟩
theorem zipM_next {z TI TO i1 i2 : Addr} {a b : Value} {Q : Option Value → Shared → Prop} (hz : IsZip s.heap z TI TO .none) (hTI : IsPair s.heap TI (.ref i1) (.ref i2)) (hTO : IsPair s.heap TO a b)
    {l1 l2 : Addr} {k1 k2 : Nat} {xs ys : Array Value} (D : ZipApart z TI TO i1 i2 l1 l2) (h1 : s.heap.IsTupleIter i1 l1 k1) (h2 : s.heap.IsListIter i2 l2 k2) (hl1 : s.heap.IsTuple l1 xs) (hl2 : s.heap.IsList l2 ys)
    (hitem : ∀ x y, xs[k1]? = some x → ys[k2]? = some y → ∀ h', IsZip h' z TI TO (rawInt s.heap.objs.size) → IsPair h' TO x y → h'.IsTupleIter i1 l1 (k1 + 1) → h'.IsListIter i2 l2 (k2 + 1) → IsPair h' s.heap.objs.size x y → h'.objs.size = s.heap.objs.size + 1 →
      (∀ c o, c ≠ z → c ≠ TO → c ≠ i1 → c ≠ i2 → s.heap.get? c = some o → h'.get? c = some o) → Q (some (.ref s.heap.objs.size)) { s with heap := h' })
    (hgo : (∃ x y, xs[k1]? = some x ∧ ys[k2]? = some y) ∨ (xs[k1]? = none ∧ A.handled = none ∧ ∀ h', (∀ c o, c ≠ z → c ≠ TO → c ≠ i1 → c ≠ i2 → s.heap.get? c = some o → h'.get? c = some o) → Q none { s with heap := h' })) :
    wpAny (model prog w) A (pyNext (.ref z)) Q E s := by
  have hT : s.TypeIs (.ref z) "zip" := ⟨_, hz, rfl⟩
  unfold pyNext
  refine wpAny_bind (wpAny_attempt (wpAny_callSpecial?_slot (name := Str.ofString "__next__") hT F.slot_zip_next (wpAny_call_entry F.slot_zip_next hT F.entry_zip_next
    (zipM_head hz hTI hTO D h1 h2 hl1 hl2 (fun x y hx hy h' a1 a2 a3 a4 a5 a6 a7 => ⟨_, rfl, wpAny_pure (hitem x y hx hy h' a1 a2 a3 a4 a5 a6 a7)⟩) ?_) (F.args_zip_next_1 _))))
  rcases hgo with g | ⟨g1, g2, g3⟩
  · exact .inl g
  · refine .inr ⟨g1, g2, fun h' e hk he => ?_⟩
    obtain ⟨o, ho, hc⟩ := he
    exact wpAny_bind (wpAny_isInstance (T := "StopIteration") (b := true) ⟨o, ho, hc⟩ isSubtype_stop (wpAny_pure (g3 h' hk)))
abbrev zmH1 (h : Heap) (l1 : Addr) : Heap := h.push { cls := .type "tuple_iterator", data := .fields #[.ref l1, .int 0 0] }
abbrev zmH2 (h : Heap) (l1 l2 : Addr) : Heap := (zmH1 h l1).push { cls := .type "list_iterator", data := .fields #[.ref l2, .int 0 0] }
abbrev zmH3 (h : Heap) (l1 l2 : Addr) : Heap := (zmH2 h l1 l2).push { cls := .type "tuple", data := .seq #[.ref h.objs.size, .ref (zmH1 h l1).objs.size] }
abbrev zmH4 (h : Heap) (l1 l2 : Addr) : Heap := (zmH3 h l1 l2).push { cls := .type "tuple", data := .seq #[.none, .none] }
abbrev zmH5 (h : Heap) (l1 l2 : Addr) : Heap := (zmH4 h l1 l2).push { cls := .type "zip", data := .fields #[.none, .bool false, .bool false, .ref (zmH2 h l1 l2).objs.size, .ref (zmH3 h l1 l2).objs.size] }
end
theorem meets_zipM (l1 l2 : Addr) (xs ys : Array Value) :
    Meets (Builtin.«zip.__new__» ⟨[.type "zip", .ref l1, .ref l2], []⟩) (fun _ R s => s.heap.IsTuple l1 xs ∧ s.heap.IsList l2 ys ∧ R (.ok (.ret (.ref (zmH4 s.heap l1 l2).objs.size))) { s with heap := zmH5 s.heap l1 l2 }) :=
  .of_wp fun prog w A R s h => by
    obtain ⟨hp, g, d, tk, os⟩ := s
    obtain ⟨hl1, hl2, h⟩ := h
    have hsub := sub_zip
    have a1 : Heap.IsTuple (Shared.heap ⟨hp, g, d, tk, os⟩) l1 xs := hl1
    have a2 : Heap.IsList (Shared.heap ⟨hp.push { cls := .type "tuple_iterator", data := .fields #[.ref l1, .int 0 0] }, g, d, tk, os⟩) l2 ys := Heap.IsList.push hl2 _
    wp_walk using wpAny_pyIter_tuple a1, wpAny_pyIter_list a2
    exact ⟨_, rfl, h⟩
section
variable {prog : Program} {w : World} {A : Around} {E : Value → Shared → Prop} {s : Shared}
theorem call_zipM {l1 l2 : Addr} {xs ys : Array Value} {Q : Value → Shared → Prop} (hl1 : s.heap.IsTuple l1 xs) (hl2 : s.heap.IsList l2 ys)
    (h : ∀ h' : Heap, IsZip h' (s.heap.objs.size + 4) (s.heap.objs.size + 2) (s.heap.objs.size + 3) .none → IsPair h' (s.heap.objs.size + 2) (.ref s.heap.objs.size) (.ref (s.heap.objs.size + 1)) →
      IsPair h' (s.heap.objs.size + 3) .none .none → h'.IsTupleIter s.heap.objs.size l1 0 → h'.IsListIter (s.heap.objs.size + 1) l2 0 →
      (∀ c o, s.heap.get? c = some o → h'.get? c = some o) → Q (.ref (s.heap.objs.size + 4)) { s with heap := h' }) :
    wpAny (model prog w) A (call (.type "zip") [.ref l1, .ref l2]) Q E s := by
  refine callType_new F.called_zip (by decide) (F.typeCall_zip_2 _ _) (F.newCall_zip_2 _ _) (fun obj => F.args_object_init_3 obj _ _) F.entry_zip_new (meets_zipM l1 l2 xs ys) ⟨hl1, hl2, ?_⟩
  have m1 : (zmH1 s.heap l1).objs.size = s.heap.objs.size + 1 := Heap.size_push ..
  have m2 : (zmH2 s.heap l1 l2).objs.size = s.heap.objs.size + 2 := by rw [Heap.size_push, m1]
  have m3 : (zmH3 s.heap l1 l2).objs.size = s.heap.objs.size + 3 := by rw [Heap.size_push, m2]
  have m4 : (zmH4 s.heap l1 l2).objs.size = s.heap.objs.size + 4 := by rw [Heap.size_push, m3]
  have up : ∀ {g : Heap} {c : Addr} {o : Obj} (q : Obj), g.get? c = some o → (g.push q).get? c = some o := fun q e => Heap.get?_push_of_some _ e
  have e5 : (zmH5 s.heap l1 l2).get? (zmH4 s.heap l1 l2).objs.size = some _ := Heap.get?_push_size _ rfl
  have e4 : (zmH5 s.heap l1 l2).get? (zmH3 s.heap l1 l2).objs.size = some _ := up _ (Heap.get?_push_size _ rfl)
  have e3 : (zmH5 s.heap l1 l2).get? (zmH2 s.heap l1 l2).objs.size = some _ := up _ (up _ (Heap.get?_push_size _ rfl))
  have e2 : (zmH5 s.heap l1 l2).get? (zmH1 s.heap l1).objs.size = some _ := up _ (up _ (up _ (Heap.get?_push_size _ rfl)))
  have e1 : (zmH5 s.heap l1 l2).get? s.heap.objs.size = some _ := up _ (up _ (up _ (up _ (Heap.get?_push_size _ rfl))))
  show _ ∧ _
  rw [m2, m3, m4] at e5
  rw [m1, m2] at e3
  rw [m3] at e4
  rw [m1] at e2
  rw [m4]
  exact ⟨⟨_, e5, rfl⟩, h _ e5 e3 e4 ⟨_, e1, rfl, rfl⟩ ⟨_, e2, rfl, rfl⟩ fun c o x => up _ (up _ (up _ (up _ (up _ x))))⟩
end
/-- a tuple at a, a list at b, as they stand at each turn, the items in new pairs; the tuple is the shorter one, or as long -/
def ItzM (K : PySem.W.Frag) (a b : Addr) : It :=
  ⟨fun i H => ∃ (xs ys : List V) (x y : V), SqT K H a xs ∧ SqL K H b ys ∧ xs[i]? = some x ∧ ys[i]? = some y,
    fun i H v H' => ∃ T x y, v = .ref T ∧ H T = none ∧ H' = upd H T (.tup [x, y]) ∧ (∀ xs, SqT K H a xs → xs[i]? = some x) ∧ ∀ ys, SqL K H b ys → ys[i]? = some y,
    fun i H => ∃ xs ys : List V, SqT K H a xs ∧ SqL K H b ys ∧ xs.length ≤ i⟩
theorem turn_zipM {P : Program} {w : World} {K : PySem.W.Frag} {elts : List Expr} {kk : Nat} {tpos : Pos} {a b z TI TO i1 i2 : Addr} (D : ZipApart z TI TO i1 i2 a b) :
    Turn P w K (.Tuple elts kk tpos) (ItzM K a b) [z, TI, TO, i1, i2] z (fun i h => IsZip h z TI TO .none ∧ IsPair h TI (.ref i1) (.ref i2) ∧ (∃ x y, IsPair h TO x y) ∧ h.IsTupleIter i1 a i ∧ h.IsListIter i2 b i) where
  mem := by simp
  obj := fun i h st c hc => by
    obtain ⟨hz, hTI, ⟨x, y, hTO⟩, ⟨o1, e1, _, d1⟩, ⟨o2, e2, _, d2⟩⟩ := st
    simp only [List.mem_cons, List.not_mem_nil, or_false] at hc
    rcases hc with q | q | q | q | q <;> subst q
    · exact ⟨_, hz, fun v q => nomatch q⟩
    · exact ⟨_, hTI, fun v q => nomatch q⟩
    · exact ⟨_, hTO, fun v q => nomatch q⟩
    · exact ⟨o1, e1, fun v q => by rw [d1] at q; cases q⟩
    · exact ⟨o2, e2, fun v q => by rw [d2] at q; cases q⟩
  keep := fun i h h' st k => by
    obtain ⟨hz, hTI, ⟨x, y, hTO⟩, h1, h2⟩ := st
    exact ⟨k z (by simp) _ hz, k TI (by simp) _ hTI, ⟨x, y, k TO (by simp) _ hTO⟩, h1.at fun o q => k i1 (by simp) o q, h2.at fun o q => k i2 (by simp) o q⟩
  item := by
    intro X hP hw hK hc i pins s σ H E I hf st hg
    subst hP hw hK
    obtain ⟨hz, hTI, ⟨x0, y0, hTO⟩, h1, h2⟩ := st
    obtain ⟨xs, ys, x, y, qx, qy, hx, hy⟩ := hg
    obtain ⟨its, rv, p, _⟩ := I.tuple qx
    obtain ⟨its2, rv2, p2, _⟩ := I.list qy
    obtain ⟨u, hu, ru⟩ := rv.get hx
    obtain ⟨u2, hu2, ru2⟩ := rv2.get hy
    have zl : z < s.heap.objs.size := Heap.lt_size hz
    have hu' : its.toArray[i]? = some u := by simpa using hu
    have hu2' : its2.toArray[i]? = some u2 := by simpa using hu2
    refine zipM_next hz hTI hTO D h1 h2 p p2.isList (fun v v2 e1 e2 h' z' TO' h1' h2' hT hsz hk => ?_) (.inl ⟨u, u2, hu', hu2'⟩)
    rw [hu'] at e1
    rw [hu2'] at e2
    cases e1
    cases e2
    refine ⟨_, rfl, wpAny_letOwnedTupleGo_zip (s := { s with heap := h' }) z' fun h'' z'' sb => ?_⟩
    have hT2 : h''.get? s.heap.objs.size = some { cls := .type "tuple", data := .seq #[u, u2] } := (sb.2 _ (Nat.ne_of_gt zl)).trans hT
    have new : ObjOk X.prog X.w (upd H s.heap.objs.size (.tup [x, y])) h'' s.heap.objs.size (.tup [x, y]) :=
      ⟨by show 2 ≤ sizeLine; decide, [u, u2], .cons ru (.cons ru2 .nil), ⟨_, hT2, rfl, _, rfl⟩⟩
    have I1 : Inv X pins σ (upd H s.heap.objs.size (.tup [x, y])) { s with heap := h'' } :=
      I.turnedNew (t' := s.toks) (ch := [z, TI, TO, i1, i2]) (fun c o hb q => (sb.2 c (fun q' => hb (by simp [q']))).trans (hk c o (fun q' => hb (by simp [q'])) (fun q' => hb (by simp [q'])) (fun q' => hb (by simp [q'])) (fun q' => hb (by simp [q'])) q)) hf (Nat.le_refl _) new
    refine ⟨.ref s.heap.objs.size, _, I1, rfl, ⟨_, x, y, rfl, I.hok.fresh (Nat.le_refl _), rfl, fun l hl => by rw [I.tuple_inj hl qx]; exact hx, fun l hl => by rw [I.list_inj hl qy]; exact hy⟩, ⟨z'', ?_, ⟨u, u2, ?_⟩, ?_, ?_⟩, fun c hcm => ?_⟩
    · exact (sb.2 _ D.TIz).trans (hk _ _ D.TIz D.TITO D.TIi1 D.TIi2 hTI)
    · exact (sb.2 _ D.TOz).trans TO'
    · exact h1'.at fun o q => (sb.2 _ D.i1z).trans q
    · exact h2'.at fun o q => (sb.2 _ D.i2z).trans q
    · have lt : c < s.heap.objs.size := by
        have := hcm
        simp only [List.mem_cons, List.not_mem_nil, or_false] at this
        rcases this with q | q | q | q | q <;> subst q
        · exact zl
        · exact Heap.lt_size hTI
        · exact Heap.lt_size hTO
        · obtain ⟨_, e1, _⟩ := h1; exact Heap.lt_size e1
        · obtain ⟨_, e2, _⟩ := h2; exact Heap.lt_size e2
      rw [upd_ne (Nat.ne_of_lt lt)]
      exact (hf c hcm).1
  done := by
    intro X hP hw hK hc i pins s σ H E I hf st hg
    subst hP hw hK
    obtain ⟨hz, hTI, ⟨x0, y0, hTO⟩, h1, h2⟩ := st
    obtain ⟨xs, ys, qx, qy, hend⟩ := hg
    obtain ⟨its, rv, p, _⟩ := I.tuple qx
    obtain ⟨its2, rv2, p2, _⟩ := I.list qy
    have l1 := rv.length
    have he : its.toArray[i]? = none := by simp; omega
    refine zipM_next hz hTI hTO D h1 h2 p p2.isList (fun v v2 e1 _ => by rw [he] at e1; cases e1) (.inr ⟨he, I.ok.hd hc, fun h' hk => ⟨rfl, I.turnedL (t' := s.toks) (ch := [z, TI, TO, i1, i2]) (fun c o hb q =>
      hk c o (fun q' => hb (by simp [q'])) (fun q' => hb (by simp [q'])) (fun q' => hb (by simp [q'])) (fun q' => hb (by simp [q'])) q) hf⟩⟩)
  self := fun A i s Q E st h => wpAny_pyIter_zip st.1 h
def iZipM (K : PySem.W.Frag) (ta : TA) : TI := fun σ H R => ta σ H fun vs H1 => ∃ a b xs ys, vs = [.ref a, .ref b] ∧ SqT K H1 a xs ∧ SqL K H1 b ys ∧ R (ItzM K a b) H1
theorem pi_zipM {X : Cx} {e e2 : Expr} {ta : TA} {p pos tpos : Pos} {elts : List Expr} {kk : Nat} (hg : Gl X "zip") (hm : X.mg "zip" = none) (ha : PA X [e, e2] ta)
    (hs : starEach [e, e2] X.env = (false, eval e X.env) :: starEach [e2] X.env := by rfl) (hpl : (backTo pos (starEach [e2] X.env)).any (·.1) = false := by rfl) :
    PI X (.Tuple elts kk tpos) (.Call (.Name "zip" p) [e, e2] [] pos) (iZipM X.K ta) := by
  refine ⟨fun pins s σ H R I h => ?_⟩
  refine Call_ (ld_blt I hg hm PyProof.Rows.boot_zip (PyProof.Rows.callWith_type1 (thn (ha.run pos pins s σ H _ I h) fun us s1 ⟨vs, H1, I1, r1, q1⟩ => ?_) hs hpl))
  obtain ⟨a, b, xs, ys, ex, qx, qy, q⟩ := q1
  subst ex
  obtain ⟨ua, ub, rfl, ra, rb⟩ := vals2 r1
  obtain rfl : ua = Value.ref a := ra
  obtain rfl : ub = Value.ref b := rb
  obtain ⟨its, rv, p1, _⟩ := I1.tuple qx
  obtain ⟨its2, rv2, p2, _⟩ := I1.list qy
  obtain ⟨o1, ho1, _⟩ := id p1
  refine call_zipM (xs := its.toArray) p1 p2.isList fun h' hz hTI hTO h1 h2 hk => wpAny_pyIter_zip hz ?_
  have I2 : Inv X pins σ H1 { s1 with heap := h' } := I1.kept (t' := s1.toks) hk
  refine ⟨s1.heap.objs.size + 4, [s1.heap.objs.size + 4, s1.heap.objs.size + 2, s1.heap.objs.size + 3, s1.heap.objs.size, s1.heap.objs.size + 1], _, _, H1, rfl, I2, turn_zipM (PySem.W.ktu_apart s1.heap.objs.size a b (Heap.lt_size ho1) p2.lt), ⟨hz, hTI, ⟨_, _, hTO⟩, h1, h2⟩, fun c hcm => ?_, q⟩
  have le : s1.heap.objs.size ≤ c := by
    simp only [List.mem_cons, List.not_mem_nil, or_false] at hcm
    rcases hcm with e | e | e | e | e <;> subst e
    · exact Nat.le_add_right _ _
    · exact Nat.le_add_right _ _
    · exact Nat.le_add_right _ _
    · exact Nat.le_refl _
    · exact Nat.le_add_right _ _
  exact I1.fpOk le (I1.hok.fresh le)
/-- a comprehension over such a zip -/
theorem lc_zipM {K : PySem.W.Frag} {a b : Addr} {xs ys : List V} {g : TG} {tt : TT} {te : TE} {vs : List Nat} {σ : L2.St} {H1 : Hp} {D : Addr} {Qd : Hp → Prop} (hn : xs.length = ys.length) (Pv : Nat → Hp → Prop) (h0 : Pv 0 (upd H1 D (.lst []))) (hl : ∀ i H, i ≤ xs.length → Pv i H → SqT K H a xs ∧ SqL K H b ys)
    (hs : ∀ i x y T H, xs[i]? = some x → ys[i]? = some y → Pv i H → H T = none → g (.ref T) (wipe σ vs) (upd H T (.tup [x, y])) fun σ2 H2 => wipe σ2 vs = wipe σ vs ∧ tt σ2 H2 fun b H3 =>
      if b = true then te σ2 H3 fun y H4 => ∃ acc, H4 D = some (.lst acc) ∧ acc.length < sizeLine ∧ Pv (i + 1) (upd H4 D (.lst (acc ++ [y]))) else Pv (i + 1) H3) (hd : ∀ H, Pv xs.length H → Qd H) :
    ∃ W : Nat → Nat → Hp → Prop, (∃ m, W 0 m (upd H1 D (.lst []))) ∧ ∀ i m H, W i m H →
      ((ItzM K a b).stop i H ∧ Qd H) ∨ ((ItzM K a b).go i H ∧ ∃ Nx : Hp → Prop, (∀ H', Nx H' → ∃ m', m' < m ∧ W (i + 1) m' H') ∧ ∀ x H', (ItzM K a b).yld i H x H' → g x (wipe σ vs) H' fun σ2 H2 => wipe σ2 vs = wipe σ vs ∧ tt σ2 H2 fun b H3 =>
        if b = true then te σ2 H3 fun y H4 => ∃ acc, H4 D = some (.lst acc) ∧ acc.length < sizeLine ∧ Nx (upd H4 D (.lst (acc ++ [y]))) else Nx H3) := by
  refine ⟨fun i m H => m = xs.length - i ∧ i ≤ xs.length ∧ Pv i H, ⟨xs.length, by simp, Nat.zero_le _, h0⟩, ?_⟩
  rintro i m H ⟨rfl, hi, p⟩
  obtain ⟨qx, qy⟩ := hl i H hi p
  by_cases lt : i < xs.length
  · have hx := List.getElem?_eq_getElem lt
    have hy := List.getElem?_eq_getElem (show i < ys.length by omega)
    refine .inr ⟨⟨xs, ys, _, _, qx, qy, hx, hy⟩, Pv (i + 1), fun H' p' => ⟨xs.length - (i + 1), by omega, rfl, lt, p'⟩, fun v H' y => ?_⟩
    obtain ⟨T, x', y', rfl, hT, rfl, f1, f2⟩ := y
    exact hs i x' y' T H (f1 xs qx) (f2 ys qy) p hT
  · have e : i = xs.length := by omega
    subst e
    exact .inl ⟨⟨xs, ys, qx, qy, Nat.le_refl _⟩, hd H p⟩
end Z
namespace Z
open PySem PySem.Spec PyProof.Rows L2
/-! ### a token is out behind this -/
structure TokE (X : Cx) (e : Expr) (t : TE) : Prop where
  run : ∀ (pins : List (Addr × Obj)) (s : Shared) (σ : L2.St) (H : Hp) (Q : VK), Inv X pins σ H s → t σ H Q → wpAny (model X.prog X.w) X.A (eval e X.env) (fun v s1 => 1 ≤ s1.toks ∧ EP X pins σ Q v s1) X.xe s
structure TokA (X : Cx) (es : List Expr) (t : TA) : Prop where
  run : ∀ (pos : Pos) (pins : List (Addr × Obj)) (s : Shared) (σ : L2.St) (H : Hp) (Q : List V → Hp → Prop), Inv X pins σ H s → t σ H Q → wpAny (model X.prog X.w) X.A (spliced (backTo pos (starEach es X.env))) (fun us s1 => 1 ≤ s1.toks ∧ AP X pins σ Q us s1) X.xe s
section
variable {X : Cx} {e f : Expr} {es : List Expr} {te tf : TE} {t : TA} {pos p : Pos}
theorem after {α : Type} {c : Sem α} {Q : α → Shared → Prop} {s : Shared} (h1 : 1 ≤ s.toks) (h : wpAny (model X.prog X.w) X.A c Q X.xe s) : wpAny (model X.prog X.w) X.A c (fun a s' => 1 ≤ s'.toks ∧ Q a s') X.xe s :=
  wpAny_mono (PySem.wpAny_toks_of h1 h) (fun _ _ q => q) fun _ _ q => q.2
theorem tk_str {x j} : TokE X (.Constant (.str x) j pos) (tC (.str x)) := ⟨fun _ s _ H _ I h => Calls.Constant_str ⟨by show 1 ≤ s.toks + 1; omega, .str x, H, I.tok _, ⟨_, rfl⟩, h⟩⟩
theorem tk_opR {op : Operator} {r : R2} (ho : OpR X (binaryOp op) r) (ha : PE X e te) (hb : TokE X f tf) : TokE X (.BinOp e op f pos) (tOp r te tf) := by
  refine ⟨fun pins s σ H Q I h => ?_⟩
  refine wpAny_BinOp (thn (ha.run pins s σ H _ I h) fun v s1 q => ?_)
  obtain ⟨x, H1, I1, r1, q1⟩ := q
  refine thn (hb.run pins s1 σ H1 _ I1 q1) fun u s2 q => ?_
  obtain ⟨k, y, H2, I2, r2, q2⟩ := q
  exact after k (ho pins s2 σ H2 x y v u _ I2 r1 r2 q2)
theorem tk_opL {op : Operator} {r : R2} (ho : OpR X (binaryOp op) r) (ha : TokE X e te) (hb : PE X f tf) : TokE X (.BinOp e op f pos) (tOp r te tf) := by
  refine ⟨fun pins s σ H Q I h => ?_⟩
  refine wpAny_BinOp (thn (ha.run pins s σ H _ I h) fun v s1 q => ?_)
  obtain ⟨k, x, H1, I1, r1, q1⟩ := q
  refine thn (after k (hb.run pins s1 σ H1 _ I1 q1)) fun u s2 q => ?_
  obtain ⟨k, y, H2, I2, r2, q2⟩ := q
  exact after k (ho pins s2 σ H2 x y v u _ I2 r1 r2 q2)
theorem tka_head (ha : TokE X e te) (hr : PA X es t) (hs : starEach (e :: es) X.env = (false, eval e X.env) :: starEach es X.env := by rfl) : TokA X (e :: es) (tCons te t) := by
  refine ⟨fun pos pins s σ H Q I h => ?_⟩
  rw [hs]
  show wpAny _ _ (spliced ((false, eval e X.env) :: backTo pos (starEach es X.env))) _ _ s
  refine Calls.spliced_cons (thn (ha.run pins s σ H _ I h) fun u s1 ⟨k, x, H1, I1, r1, q1⟩ => ?_)
  exact thn (after k (hr.run pos pins s1 σ H1 _ I1 q1)) fun us s2 ⟨k2, xs, H2, I2, r2, q2⟩ => ⟨k2, x :: xs, H2, I2, .cons r1 r2, q2⟩
theorem tka_tail (ha : PE X e te) (hr : TokA X es t) (hs : starEach (e :: es) X.env = (false, eval e X.env) :: starEach es X.env := by rfl) : TokA X (e :: es) (tCons te t) := by
  refine ⟨fun pos pins s σ H Q I h => ?_⟩
  rw [hs]
  show wpAny _ _ (spliced ((false, eval e X.env) :: backTo pos (starEach es X.env))) _ _ s
  refine Calls.spliced_cons (thn (ha.run pins s σ H _ I h) fun u s1 ⟨x, H1, I1, r1, q1⟩ => ?_)
  exact thn (hr.run pos pins s1 σ H1 _ I1 q1) fun us s2 ⟨k2, xs, H2, I2, r2, q2⟩ => ⟨k2, x :: xs, H2, I2, .cons r1 r2, q2⟩
theorem tk_lst (h : TokA X es t) : TokE X (.List es pos) (tLst t) := by
  refine ⟨fun pins s σ H Q I hq => ?_⟩
  refine wpAny_List_spliced (thn (h.run pos pins s σ H _ I hq) fun us s1 ⟨k, xs, H1, I1, r, z, q⟩ => ⟨by rw [← r.length]; exact z, k, ?_⟩)
  have hf : H1 s1.heap.objs.size = none := I1.hok.fresh (Nat.le_refl _)
  refine ⟨.ref s1.heap.objs.size, upd H1 s1.heap.objs.size (.lst xs), I1.laid (t' := s1.toks) (fun b u e => Heap.get?_push_of_some _ e) (Nat.le_refl _) ?_, rfl, q _ hf⟩
  exact ⟨z, us, 0, r, Heap.get?_push_size _ rfl⟩
theorem tk_call {CX : CXT} {k : Nat} {x : Str} {g : Addr} {fd : FuncData} {ps : List Str} {sp : Sp} {ds : List Value} {dvs : List V} {E : XK} (F : FnOk X.prog X.w X.K X.mg X.base CX k g fd ps sp) (hr : Room k X.A) (hg : Gl X x) (hm : X.mg x = some (.ref g)) (hk : PySem.W.keepIn X.K (.ref g) = true) (hb : Binds X.K fd ps ds) (hd : Vals dvs ds) (hx : Passes CX X E)
    (ha : TokA X (e :: es) t) (hdb : (x == ("__debug__" : Str)) = false := by decide) (he : starEach (e :: es) X.env = (false, eval e X.env) :: starEach es X.env := by rfl) (hpl : (backTo pos (starEach es X.env)).any (·.1) = false := by rfl) :
    TokE X (.Call (.Name x p) (e :: es) [] pos) (tCall sp dvs E t) := by
  refine ⟨fun pins s σ H Q I h => ?_⟩
  refine wpAny_Call_Name_kw (ld_glob I hg hm ?_ hdb)
  refine PySem.W.callWith_K (h₀ := X.base) I.ok.mod.kin hk (thn (ha.run pos pins s σ H _ I h) fun us s1 ⟨k1, vs, H1, I1, r, q⟩ => ⟨I1.kIn, ?_⟩) he hpl
  exact after k1 (run_fn F hr hb hd hx I1 r q)
theorem pss_setT {i : Nat} {x : Str} {pos' : Pos} {rest : List Stmt} {u : TS} (hN : X.N.Nodup) (hi : X.N[i]? = some x) (hx : Loc X.env.scope x) (he : TokE X e te) (h2 : PSsT X rest u) (hs : swapsWith e (some (.Name x pos')) pos.line X.env = pure false := by rfl) (hf : X.fn x = true ∨ X.env.scope.names.lookup x = some .local := by first | exact .inl rfl | exact .inr rfl | assumption) :
    PSs X (.Assign [.Name x pos'] e pos :: rest) (tSeq (tAsg te (gName i)) u) := by
  refine ⟨fun pins s σ H D I h => ?_⟩
  refine wpAny_execs_cons (wpAny_Assign_Name (thn (he.run pins s σ H _ I h) fun v s1 ⟨k, y, H1, I1, r1, q1⟩ => ?_) hs)
  refine wpAny_mono (PySem.wpAny_toks_of k (store_ok I1 hN hi hx r1 (Q := fun _ s2 => ∃ H2, Inv X pins (σ.set i (some y)) H2 s2 ∧ u D (σ.set i (some y)) H2) (fun s2 I2 => ⟨H1, I2, q1⟩) hf)) (fun _ s2 q => ?_) fun _ _ z => z.2
  obtain ⟨k2, H2, I2, q2⟩ := q
  exact h2 pins s2 _ H2 D k2 I2 q2
/-- str(x), of a text or an integer -/
theorem call_strV : CallR X (.type "str") (fun xs H Q => (∃ i, xs = [.int i] ∧ i.natAbs.log2 < 1920 ∧ Q (.str (toString i)) H) ∨ ∃ a, xs = [.str a] ∧ Q (.str a) H) := by
  intro pins s σ H xs us Q I r h
  rcases h with h | h
  · exact call_str_int pins s σ H xs us Q I r h
  · exact SkE.call_str_str pins s σ H xs us Q I r h
end
end Z
namespace Z
open PySem L2 SX
/-! ### numbers that are written plainly -/
theorem val_snoc (e : List Nat) (c : Nat) : NumText.digitsVal (e ++ [c]) = NumText.digitsVal e * 10 + (c - 48) := by
  unfold NumText.digitsVal
  rw [List.foldl_append]; rfl
theorem num_back : ∀ (n : Nat) (d : List Nat), d.length = n → d.all dgt = true → d ≠ [] → (d.head? = some 48 → d = [48]) → TL.numL (NumText.digitsVal d) = d := by
  intro n
  induction n with
  | zero => intro d hl _ ne _; exact absurd (List.length_eq_zero_iff.mp hl) ne
  | succ n ih =>
    intro d hl ha ne hz
    obtain ⟨e, c, rfl⟩ : ∃ e c, d = e ++ [c] := ⟨d.dropLast, d.getLast ne, (List.dropLast_concat_getLast ne).symm⟩
    rw [List.all_append] at ha
    obtain ⟨ha1, ha2⟩ := Bool.and_eq_true_iff.mp ha
    have hc : 48 ≤ c ∧ c ≤ 57 := (dgt_iff c).mp (by simpa using ha2)
    rw [val_snoc]
    by_cases he : e = []
    · subst he
      show TL.numL (0 * 10 + (c - 48)) = [c]
      rw [TL.numL_lt (by omega)]
      congr 1; omega
    · have h1 : (e ++ [c]).head? = e.head? := by
        cases e with
        | nil => exact absurd rfl he
        | cons _ _ => rfl
      have nz : e.head? ≠ some 48 := fun h => by
        have := hz (by rw [h1]; exact h)
        have l := congrArg List.length this
        rw [List.length_append] at l
        have : 0 < e.length := List.length_pos_iff.mpr he
        have l2 : e.length + 1 = 1 := l
        omega
      have i := ih e (by rw [List.length_append] at hl; simp at hl; exact hl) ha1 he (fun h => absurd h nz)
      have p : 1 ≤ NumText.digitsVal e := by
        rcases Nat.eq_zero_or_pos (NumText.digitsVal e) with h | h
        · rw [h, TL.numL_lt (by decide)] at i
          rw [← i] at nz
          exact absurd rfl nz
        · exact h
      rw [TL.numL_step (by omega), show (NumText.digitsVal e * 10 + (c - 48)) / 10 = NumText.digitsVal e by omega, show (NumText.digitsVal e * 10 + (c - 48)) % 10 = c - 48 by omega, i]
      congr 2; omega
def nOk (m : Nat) (l : List Nat) : Bool := decide (l ≠ []) && (decide (l.length ≤ m) && (l.all dgt && !(decide (l.head? = some 48) && decide (l ≠ [48]))))
theorem nOk_iff (m : Nat) (l : List Nat) : nOk m l = true ↔ l ≠ [] ∧ l.length ≤ m ∧ l.all dgt = true ∧ ¬ (l.head? = some 48 ∧ l ≠ [48]) := by
  unfold nOk
  simp only [Bool.and_eq_true, decide_eq_true_eq, Bool.not_eq_true', Bool.and_eq_false_iff, decide_eq_false_iff_not]
  constructor
  · rintro ⟨h1, h2, h3, h4⟩
    exact ⟨h1, h2, h3, fun ⟨a, b⟩ => h4.elim (fun h => h a) fun h => h b⟩
  · rintro ⟨h1, h2, h3, h4⟩
    refine ⟨h1, h2, h3, ?_⟩
    by_cases a : l.head? = some 48
    · exact .inr fun b => h4 ⟨a, b⟩
    · exact .inl a
def nV (m : Nat) (l : List Nat) : V := if nOk m l = true then .int (NumText.digitsVal l : Nat) else .non
theorem nOk_back {m : Nat} {l : List Nat} (h : nOk m l = true) : TL.numL (NumText.digitsVal l) = l := by
  obtain ⟨h1, _, h3, h4⟩ := (nOk_iff m l).mp h
  refine num_back _ l rfl h3 h1 fun e => ?_
  by_cases q : l = [48]
  · exact q
  · exact absurd ⟨e, q⟩ h4
/-! ### signs of a row -/
def rch (c : Nat) : Bool := decide (c ∈ tl (Str.ofString " !\"#$&'()*+,-./0123456789:;<=>?@ABCDEFGHIJKLMNOPQRSTUVWXYZ[\\]^_`abcdefghijklmnopqrstuvwxyz{|}~"))
def Rw (l : List Nat) : Prop := ∀ c ∈ l, rch c = true
theorem rch_iff (c : Nat) : rch c = true ↔ (32 ≤ c ∧ c ≤ 36) ∨ (38 ≤ c ∧ c ≤ 126) := by
  have e : tl (Str.ofString " !\"#$&'()*+,-./0123456789:;<=>?@ABCDEFGHIJKLMNOPQRSTUVWXYZ[\\]^_`abcdefghijklmnopqrstuvwxyz{|}~") = List.range' 32 5 ++ List.range' 38 89 := by decide +kernel
  unfold rch
  rw [e, decide_eq_true_iff, List.mem_append, List.mem_range'_1, List.mem_range'_1]
  omega
theorem Rw.app {a b : List Nat} (x : Rw a) (y : Rw b) : Rw (a ++ b) := fun c h => (List.mem_append.mp h).elim (x c) (y c)
theorem Low.rw {l : List Nat} (h : Low l) : Rw l := fun c m => (rch_iff c).mpr (by have := h c m; omega)
def keyB (l : List Nat) : Bool := decide (l ≠ []) && decide (l.length ≤ 60)
/-! ### words -/
def wds (l : List Nat) : List (List Nat) := TL.spl [32] 0 [] l
theorem split_sp (x : Str) : Txt.split x (Str.ofString " ") = (wds (tl x)).map S := split_S (a := tl x) (b := [32]) (by decide) (by decide)
theorem wds_len {p q : List Nat} (h : q ∈ wds p) : q.length ≤ p.length := by have := (spl_bound 32 p []).1 q h; rw [List.length_nil] at this; omega
theorem wds_num (p : List Nat) : (wds p).length ≤ p.length + 1 := (spl_bound 32 p []).2
theorem join_sp (l : List Nat) : ∀ acc : List Nat, TL.joinL [32] (TL.spl [32] 0 acc l) = acc ++ l := by
  induction l with
  | nil => intro acc; rw [TL.spl_nil, List.append_nil]; rfl
  | cons c r ih =>
    intro acc
    by_cases e : c = 32
    · subst e
      rw [TL.spl_hit (show TL.pre [32] (32 :: r) = true by show ([32] == [32]) = true; rfl)]
      have ih' := ih []
      show TL.joinL [32] (acc :: TL.spl [32] 0 [] r) = _
      cases h : TL.spl [32] 0 [] r with
      | nil => exact absurd h (spl_ne r [])
      | cons x t =>
        rw [h] at ih'
        show acc ++ ([32] ++ TL.joinL [32] (x :: t)) = _
        rw [ih']; rfl
    · rw [TL.spl_miss (show TL.pre [32] (c :: r) = false by show ([c] == [32]) = false; simp [e]), ih]
      simp
theorem wds_join (l : List Nat) : TL.joinL [32] (wds l) = l := join_sp l []
theorem spl_mem {s : Nat} : ∀ (l acc : List Nat) {q : List Nat} {c : Nat}, q ∈ TL.spl [s] 0 acc l → c ∈ q → c ∈ acc ∨ c ∈ l := by
  intro l
  induction l with
  | nil => intro acc q c h m; rw [TL.spl_nil, List.mem_singleton] at h; exact .inl (h ▸ m)
  | cons d r ih =>
    intro acc q c h m
    by_cases e : d = s
    · subst e
      rw [TL.spl_hit (show TL.pre [d] (d :: r) = true by show ([d] == [d]) = true; simp)] at h
      have h' : q ∈ acc :: TL.spl [d] 0 [] r := h
      rcases List.mem_cons.mp h' with h' | h'
      · exact .inl (h' ▸ m)
      · rcases ih [] h' m with k | k
        · cases k
        · exact .inr (List.mem_cons_of_mem _ k)
    · rw [TL.spl_miss (show TL.pre [s] (d :: r) = false by show ([d] == [s]) = false; simp [e])] at h
      rcases ih _ h m with k | k
      · rcases List.mem_append.mp k with k | k
        · exact .inl k
        · exact .inr (by rw [List.mem_singleton.mp k]; simp)
      · exact .inr (List.mem_cons_of_mem _ k)
theorem Rw.wd {l q : List Nat} (h : Rw l) (m : q ∈ wds l) : Rw q := fun c hc => by
  rcases spl_mem l [] m hc with k | k
  · cases k
  · exact h c k
def E4 : List (List Nat) := [".", "close", "ready", "closed"].map fun x => tl (Str.ofString x)
def K9 : List (List Nat) := ["bring", "body", "clear", "want", "have", "old", "took", "spoilt", "cleared"].map fun x => tl (Str.ofString x)
def OPN : List Nat := tl (Str.ofString "open")
def OFR : List Nat := tl (Str.ofString "offer")
/-- what a word says -/
def dueL : List (List Nat) → Option (List D)
  | [f] => if f ∈ E4 then some [.str (S f)] else none
  | [f, a] => if f ∈ K9 ∧ keyB a = true then some [.str (S f), .str (S a)] else none
  | [f, a, b] => if f = OPN ∧ nameB a = true ∧ nameB b = true then some [.str (S f), .str (S a), .str (S b)] else none
  | [f, k, h, d] => if f = OFR ∧ keyB k = true ∧ nOk 3 h = true ∧ nOk 7 d = true then some [.str (S f), .str (S k), .int (NumText.digitsVal h : Nat), .int (NumText.digitsVal d : Nat)] else none
  | _ => none
def dV : D → V
  | .str x => .str x
  | .int i => .int i
  | _ => .non
def dT : D → List Nat
  | .str x => tl x
  | .int i => TL.numL i.toNat
  | _ => []
theorem due_text {ts : List (List Nat)} {ds : List D} (h : dueL ts = some ds) : ds.map dT = ts := by
  match ts, h with
  | [f], h =>
    simp only [dueL] at h
    split at h
    · cases h; rfl
    · cases h
  | [f, a], h =>
    simp only [dueL] at h
    split at h
    · cases h; rfl
    · cases h
  | [f, a, b], h =>
    simp only [dueL] at h
    split at h
    · cases h; rfl
    · cases h
  | [f, k, hh, d], h =>
    simp only [dueL] at h
    split at h
    · rename_i c
      cases h
      show [f, k, TL.numL _, TL.numL _] = _
      rw [Int.toNat_natCast, Int.toNat_natCast, nOk_back c.2.2.1, nOk_back c.2.2.2]
    · cases h
/-- leaves only -/
def Lf (ds : List D) : Prop := ∀ d ∈ ds, (∃ x, d = .str x ∧ (tl x).length ≤ 2000) ∨ ∃ n : Nat, d = .int (n : Int) ∧ n < 10 ^ 8
theorem Lf.dvs {K : PySem.W.Frag} {H : Hp} : ∀ {ds : List D}, Lf ds → DVs K H ds (ds.map dV)
  | [], _ => by unfold List.map DVs; rfl
  | d :: ds, h => by
    refine ⟨dV d, ds.map dV, rfl, ?_, Lf.dvs fun x hx => h x (List.mem_cons_of_mem _ hx)⟩
    rcases h d (by simp) with ⟨x, rfl, _⟩ | ⟨n, rfl, _⟩ <;> (unfold DV; rfl)
theorem due_lf {ts : List (List Nat)} {ds : List D} (hl : ∀ q ∈ ts, q.length ≤ 2000) (h : dueL ts = some ds) : Lf ds ∧ ds.length ≤ 4 := by
  have str : ∀ q ∈ ts, (∃ x, (D.str (S q)) = .str x ∧ (tl x).length ≤ 2000) ∨ ∃ n : Nat, (D.str (S q)) = .int (n : Int) ∧ n < 10 ^ 8 := fun q m => .inl ⟨S q, rfl, by rw [tl_S]; exact hl q m⟩
  match ts, h with
  | [f], h =>
    simp only [dueL] at h
    split at h
    · cases h
      exact ⟨fun d hd => by rw [List.mem_singleton.mp hd]; exact str f (by simp), Nat.le_of_ble_eq_true rfl⟩
    · cases h
  | [f, a], h =>
    simp only [dueL] at h
    split at h
    · cases h
      refine ⟨fun d hd => ?_, Nat.le_of_ble_eq_true rfl⟩
      simp only [List.mem_cons, List.not_mem_nil, or_false] at hd
      rcases hd with e | e <;> subst e
      · exact str f (by simp)
      · exact str a (by simp)
    · cases h
  | [f, a, b], h =>
    simp only [dueL] at h
    split at h
    · cases h
      refine ⟨fun d hd => ?_, Nat.le_of_ble_eq_true rfl⟩
      simp only [List.mem_cons, List.not_mem_nil, or_false] at hd
      rcases hd with e | e | e <;> subst e
      · exact str f (by simp)
      · exact str a (by simp)
      · exact str b (by simp)
    · cases h
  | [f, k, hh, d], h =>
    simp only [dueL] at h
    split at h
    · rename_i c
      cases h
      refine ⟨fun d hd => ?_, Nat.le_of_ble_eq_true rfl⟩
      have val : ∀ {m : Nat} {l : List Nat}, m ≤ 7 → nOk m l = true → NumText.digitsVal l < 10 ^ 8 := fun {m l} hm h => by
        obtain ⟨_, h2, h3, _⟩ := (nOk_iff m l).mp h
        have h4 := dval_le l h3
        exact Nat.lt_of_lt_of_le h4 (Nat.pow_le_pow_right (by decide) (by omega))
      simp only [List.mem_cons, List.not_mem_nil, or_false] at hd
      rcases hd with e | e | e | e <;> subst e
      · exact str f (by simp)
      · exact str k (by simp)
      · exact .inr ⟨_, rfl, val (by decide) c.2.2.1⟩
      · exact .inr ⟨_, rfl, val (by decide) c.2.2.2⟩
    · cases h
def dueD (l : List Nat) : D := match dueL (wds l) with
  | none => .non
  | some ds => .tup ds
/-! ### promises -/
def sp39_number_of : Sp := fun vs H Q _ => ∃ (x : Str) (m : Nat), vs = [.str x, .int (m : Int)] ∧ (tl x).length ≤ 2000 ∧ m ≤ 100 ∧ ∀ H', Same H H' → Q (nV m (tl x)) H'
def sp39_is_row : Sp := fun vs H Q _ => ∃ (x : Str) (m : Nat), vs = [.str x, .int (m : Int)] ∧ (tl x).length ≤ 2000 ∧ Rw (tl x) ∧ ∀ H', Same H H' → Q (.bl (decide ((tl x).length ≤ m))) H'
def sp39_is_key : Sp := fun vs H Q _ => ∃ (x : Str), vs = [.str x] ∧ (tl x).length ≤ 2000 ∧ Rw (tl x) ∧ ∀ H', Same H H' → Q (.bl (keyB (tl x))) H'
def partV (f : Str) (l : List Nat) : V := if f = Str.ofString "name" then (if nameB l = true then .str (S l) else .non) else if f = Str.ofString "key" then (if keyB l = true then .str (S l) else .non) else nV (if f = Str.ofString "hops" then 3 else 7) l
def sp39_read_part : Sp := fun vs H Q _ => ∃ (f x : Str), vs = [.str f, .str x] ∧ (tl x).length ≤ 2000 ∧ Rw (tl x) ∧ ∀ H', Same H H' → Q (partV f (tl x)) H'
def sp39_read_word (K : PySem.W.Frag) (C : Addr) : Sp := fun vs H Q E => ∃ (x : Str), vs = [.str x] ∧ (tl x).length ≤ 2000 ∧ Rw (tl x) ∧ (∀ ds, dueL (wds (tl x)) = some ds → ∀ u H', Same H H' → DV K H' (.tup ds) u → Q u H') ∧
  (dueL (wds (tl x)) = none → ∀ (dd : Addr) (H1 : Hp), Same H H1 → H1 dd = some (.xd [("word", .str x)]) → E (.ref C) (some dd) H1)
def sp39_write_word (K : PySem.W.Frag) : Sp := fun vs H Q _ => ∃ (a : Addr) (ds : List D), vs = [.ref a] ∧ SqT K H a (ds.map dV) ∧ Lf ds ∧ ds.length ≤ 4 ∧ ∀ (y : Str) (H' : Hp), tl y = TL.joinL [32] (ds.map dT) → Same H H' → Q (.str y) H'
def stuffL (l : List Nat) : List Nat := if l.take 1 = [46] then 46 :: l else l
def unstL (l : List Nat) : List Nat := if l.take 1 = [46] then l.drop 1 else l
def sp39_stuffed : Sp := fun vs H Q _ => ∃ (x : Str), vs = [.str x] ∧ (tl x).length ≤ 2000 ∧ ∀ (y : Str), tl y = stuffL (tl x) → Q (.str y) H
def sp39_unstuffed : Sp := fun vs H Q _ => ∃ (x : Str), vs = [.str x] ∧ (tl x).length ≤ 2001 ∧ ∀ (y : Str), tl y = unstL (tl x) → Q (.str y) H
def sp39_law_parts (K : PySem.W.Frag) : Sp := fun vs H Q _ => ∃ (x : Str), vs = [.str x] ∧ (tl x).length ≤ 2000 ∧ ∀ u H', Same H H' → DV K H' (dueD (tl x)) u → Q u H'
def sp39_law_row : Sp := fun vs H Q _ => ∃ (s a : Addr) (m : Nat) (c : Nat), vs = [.ref s, .int (m : Int)] ∧ m ≤ 100 ∧ Src H s a (c + m) ∧ ∀ (x : Str) (H' : Hp), Rw (tl x) → (tl x).length ≤ m → Ext s H H' → Src H' s a c → Q (.str x) H'
def sp39_text (f n : Nat) : Sp := fun vs H Q _ => ∃ (s a : Addr) (c : Nat), vs = [.ref s] ∧ Src H s a (c + f) ∧ ∀ (x : Str) (H' : Hp), Rw (tl x) → (tl x).length ≤ n → Ext s H H' → Src H' s a c → Q (.str x) H'
def sp39_bent : Sp := fun vs H Q _ => ∃ (s a : Addr) (x : Str) (c : Nat), vs = [.ref s, .str x] ∧ (tl x).length ≤ 700 ∧ Rw (tl x) ∧ Src H s a (c + 10) ∧ ∀ (y : Str) (H' : Hp), Rw (tl y) → (tl y).length ≤ 2 * (tl x).length + 100 → Ext s H H' → Src H' s a c → Q (.str y) H'
def sp39_right : Sp := fun vs H Q _ => ∃ (x : Str), vs = [.str x] ∧ (tl x).length ≤ 2000 ∧ Rw (tl x) ∧ ∀ H', Same H H' → Q (.bl true) H'
def sp39_row_right : Sp := fun vs H Q _ => ∃ (x : Str), vs = [.str x] ∧ (tl x).length ≤ 1900 ∧ ∀ H', Same H H' → Q (.bl true) H'
theorem inV_bls (b : Bool) (bs : List Bool) : inV (V.bl b) (bs.map V.bl) = decide (b ∈ bs) := by
  unfold inV
  rw [List.any_map, Bool.eq_iff_iff, List.any_eq_true, decide_eq_true_iff]
  constructor
  · rintro ⟨c, hc, e⟩
    have : (c == b) = true := e
    rw [show b = c by simpa using (beq_iff_eq.mp this).symm]; exact hc
  · intro h
    exact ⟨b, h, by show (b == b) = true; simp⟩
theorem flat_bls (bs : List Bool) : (bs.map V.bl).all flatV = true := by
  rw [List.all_map, List.all_eq_true]; intro b _; rfl
theorem all_not (p : Nat → Bool) (l : List Nat) : decide (false ∈ l.map p) = !(l.all p) := by
  rw [Bool.eq_iff_iff, decide_eq_true_iff, List.mem_map]
  simp
theorem tl_rep_sp (x z : Str) : tl (Txt.replace x (Str.ofString " ") z) = TL.joinL (tl z) (wds (tl x)) := by
  have h : Txt.replace x (Str.ofString " ") z = Str.join z (Txt.split x (Str.ofString " ")) := StrLaws.replace_one x z 32
  have e := eq_of_beq (PyProof.Rows.join_plain_closes z (Txt.split x (Str.ofString " ")))
  rw [h, ← e, tl_joinS, split_sp, List.map_map]
  congr 1
  exact (List.map_congr_left fun d _ => tl_S d).trans (List.map_id _)
theorem joinL_mem39 {s : List Nat} : ∀ {ls : List (List Nat)} {c : Nat}, c ∈ TL.joinL s ls → c ∈ s ∨ ∃ l ∈ ls, c ∈ l
  | [], c, h => by cases h
  | [x], c, h => .inr ⟨x, by simp, h⟩
  | x :: y :: r, c, h => by
    have h' : c ∈ x ++ (s ++ TL.joinL s (y :: r)) := h
    rcases List.mem_append.mp h' with q | q
    · exact .inr ⟨x, by simp, q⟩
    · rcases List.mem_append.mp q with q | q
      · exact .inl q
      · rcases joinL_mem39 q with q | ⟨l, m, q⟩
        · exact .inl q
        · exact .inr ⟨l, List.mem_cons_of_mem _ m, q⟩
theorem rep_rw {x z : Str} (hx : Rw (tl x)) (hz : Rw (tl z)) : Rw (tl (Txt.replace x (Str.ofString " ") z)) := fun c h => by
  rw [tl_rep_sp] at h
  rcases joinL_mem39 h with h | ⟨l, m, h⟩
  · exact hz c h
  · exact hx.wd m c h
theorem rep_len39 (x z : Str) : (tl (Txt.replace x (Str.ofString " ") z)).length ≤ (tl x).length + ((tl x).length + 1) * (tl z).length := by
  have := TK.replace_len x (Str.ofString " ") z
  rw [tl_len, tl_len, tl_len] at this; exact this
end Z
namespace Z
open PySem PySem.Spec PyProof.Rows L2
/-! ### a def that is called while an error is handled, and meets no error itself -/
/-- the context of such a def's body: nothing is known of what is handled -/
abbrev cxL (CX : CXT) (P : Program) (w : World) (K : PySem.W.Frag) (mg : Str → Option Value) (base : Heap) (N : List Str) (qual : Str) (scope : Scope) (f : Addr) (cd : Value) (A : Around) (outer : List Env) (s : Shared) (H : Hp) (E : XK) : Cx :=
  { cxOf CX P w K mg base N qual scope f cd A outer s H E with calm := false }
structure FnL (P : Program) (w : World) (K : PySem.W.Frag) (mg : Str → Option Value) (base : Heap) (CX : CXT) (k : Nat) (f : Addr) (fd : FuncData) (ps : List Str) (sp : Sp) : Prop where
  len : ∀ vs H Q E, sp vs H Q E → vs.length = ps.length
  run : ∀ (A : Around) (outer : List Env) (s : Shared) (H : Hp) (args : Args) (us : List Value) (vs : List V) (Q : VK) (E : XK), L2H.RoomH k A → Env0 P w K mg base A outer s H → BindsTo s fd args (ps.zip us) → Vals vs us → sp vs H Q E →
    codeAny (model P w) A (.call (.ref f) args) (CR CX outer P w H s Q E) s
theorem inv_startL {CX : CXT} {P : Program} {w : World} {K : PySem.W.Frag} {mg : Str → Option Value} {base : Heap} {N ps : List Str} {qual : Str} {scope : Scope} {f : Addr} {cd : Value} {A : Around} {outer : List Env} {s s1 : Shared} {H : Hp} {E : XK} {us : List Value} {vs : List V}
    (S : FnScope N ps scope) (e0 : Env0 P w K mg base A outer s H) (hl : vs.length = ps.length) (r : Vals vs us)
    (x : InCallC s s.heap.objs.size (bindL (envOfC qual scope s.heap.objs.size f cd).kindOf (ps.zip us) fun _ => none) (cellsFrom (s.heap.objs.size + 1) scope.names []) (bindC (envOfC qual scope s.heap.objs.size f cd).kindOf (ps.zip us) fun _ => none) s1) :
    Inv (cxL CX P w K mg base N qual scope f cd A outer s H E) [] (L2.start N vs) H s1 := by
  have e1 : Env0 P w K mg base { A with handled := none } outer s H := ⟨e0.frames, e0.mod, e0.bs, e0.bsz, e0.funs, e0.frf, e0.hok, e0.bare⟩
  have J : Inv (cxOf CX P w K mg base N qual scope f cd { A with handled := none } outer s H E) [] (L2.start N vs) H s1 := inv_start S rfl e1 hl r x
  have o := J.ok
  exact ⟨⟨o.mod, o.kind, o.glob, o.blt, o.above, o.inj, o.has, o.cab, (fun z => Bool.noConfusion (show false = true from z)), Around.frames_deeper e0.frames, o.stk, o.exf, o.bs, o.bsz, o.noex, o.exfs, o.funs, o.frf⟩, J.os, J.bare, J.base, J.loc, J.cell, J.free, J.freeC, J.pin, J.hok, J.len⟩
section
variable {P : Program} {w : World} {K : PySem.W.Frag} {mg : Str → Option Value} {base : Heap}
theorem Fun.okL {x qual : Str} {st : Stmt} {f : Addr} {fd : FuncData} {N ps : List Str} {k : Nat} {sp : Sp} (F : Fun K x qual st f fd) (S : FnScope N ps (defScope st)) (len : ∀ vs H Q E, sp vs H Q E → vs.length = ps.length)
    (hbody : ∀ (cdv : Value) (A : Around) (outer : List Env) (s : Shared) (H : Hp) (vs : List V) (Q : VK) (E : XK), sp vs H Q E →
      ∃ t, PSs (cxL CX0 P w K mg base N qual (defScope st) f cdv A outer s H E).nox (defBody st) t ∧ t { nx := fun _ H' => Q .non H', rt := Q } (L2.start N vs) H) : FnL P w K mg base CX0 (k + 1) f fd ps sp := by
  obtain ⟨oc, od, kV, doc, pm, an, cdv, ct, osl, rfl, lk, hcd⟩ := F.ex
  refine ⟨len, fun A outer s H args us vs Q E hr e0 hb r hsp => ?_⟩
  have hl := len _ _ _ _ hsp
  have KX : K.In s.heap := e0.mod.kin.keeps fun b o e => (e0.bs b o e).1
  have lim : s.heap.NoLimit := e0.mod.nolimit.keeps fun b o e => (e0.bs b o e).1
  refine codeAny_call_function hr.depth (KX _ _ lk) rfl S.co S.gen rfl (PySem.W.codeRec_of KX hcd) (hb _ _ _ _ ?_)
  refine wpAny_newFunctionEnv_cells S.kind (fun ⟨n, v⟩ hy => ?_) fun env he s1 x => ?_
  · rcases S.par n (List.of_mem_zip hy).1 with q | q
    · exact .inl q
    · exact .inr ⟨q, PySem.W.cellsFrom_some _ _ _ (.inl q)⟩
  subst he
  refine ⟨lim.keeps x.toInCall.keep, codeAny_func ?_⟩
  obtain ⟨t, ht, hq⟩ := hbody cdv A outer s H vs Q E hsp
  have I : Inv (cxL CX0 P w K mg base N qual (defScope st) f cdv A outer s H E) [] (L2.start N vs) H s1 := inv_startL S e0 hl r x
  refine wpAny_mono (ht.nox.run [] s1 (L2.start N vs) H _ I hq) (fun fl s' hs => ?_) fun e s' hs => hs
  cases fl with
  | ret u =>
    obtain ⟨v, σ', H', J, rv, q⟩ := hs
    exact ⟨v, H', J.os, J.bare, J.base, J.hok, rv, q⟩
  | next =>
    obtain ⟨σ', H', J, q⟩ := hs
    exact ⟨V.non, H', J.os, J.bare, J.base, J.hok, rfl, q⟩
  | brk =>
    obtain ⟨_, _, _, q⟩ := hs
    exact False.elim q
  | cont =>
    obtain ⟨_, _, _, q⟩ := hs
    exact False.elim q
/-- as callers use it -/
def CalL (P : Program) (w : World) (K : PySem.W.Frag) (mg : Str → Option Value) (base : Heap) (x : Str) (ps : List Str) (k : Nat) (sp : Sp) : Prop := ∃ (f : Addr) (fd : FuncData), FnL P w K mg base CX0 k f fd ps sp ∧ mg x = some (.ref f) ∧ PySem.W.keepIn K (.ref f) = true ∧ Binds K fd ps []
end
section
variable {X : Cx} {k : Nat} {f : Addr} {fd : FuncData} {ps : List Str} {sp : Sp} {x : Str} {p pos : Pos} {e : Expr} {es : List Expr} {t : TA}
theorem pe_callL (F : FnL X.prog X.w X.K X.mg X.base CX0 k f fd ps sp) (hr : L2H.RoomH k X.A) (hg : Gl X x) (hm : X.mg x = some (.ref f)) (hk : PySem.W.keepIn X.K (.ref f) = true) (hb : Binds X.K fd ps [])
    (ha : PA X (e :: es) t) (hdb : (x == ("__debug__" : Str)) = false := by decide) (he : starEach (e :: es) X.env = (false, eval e X.env) :: starEach es X.env := by rfl) (hpl : (backTo pos (starEach es X.env)).any (·.1) = false := by rfl) :
    PE X (.Call (.Name x p) (e :: es) [] pos) (tCall sp [] E0 t) := by
  refine ⟨fun pins s σ H Q I h => ?_⟩
  refine wpAny_Call_Name_kw (ld_glob I hg hm ?_ hdb)
  refine PySem.W.callWith_K (h₀ := X.base) I.ok.mod.kin hk (thn (ha.run pos pins s σ H _ I h) fun us s1 ⟨vs, H1, I1, r, q⟩ => ⟨I1.kIn, ?_⟩) he hpl
  have q' : sp vs H1 Q E0 := by rw [← List.append_nil vs]; exact q
  have hl : us.length = ps.length := by rw [← r.length]; exact F.len _ _ _ _ q'
  have b := hb s1 us I1.kIn (by rw [List.append_nil]; exact hl)
  rw [List.append_nil] at b
  refine wpAny_call (codeAny_mono (F.run X.A X.stack s1 H1 ⟨us, []⟩ us vs Q E0 hr I1.env0 b r q') fun r s' hq => ?_)
  cases r with
  | error e => exact pass0 pins σ H1 s1 e s' I1 hq
  | ok fl =>
    cases fl with
    | ret u => exact I1.after hq
    | next => exact False.elim hq
    | brk => exact False.elim hq
    | cont => exact False.elim hq
/-- a block that is never come to -/
theorem pss_dead {sts : List Stmt} : PSs X sts (fun _ _ _ => False) := ⟨fun _ _ _ _ _ _ h => h.elim⟩
end
theorem room_suite {k : Nat} {A : Around} {h : Option Value} (r : Room (k + 1) A) : L2H.RoomH 1 (A.mark h) := ⟨by have := r.dp; show A.depth + 3 * 1 + 5 < _; omega, by have := r.un; show A.units + 16 * 1 + 200 < _; omega⟩
end Z
namespace Z
open PySem L2
section
variable {P : Program} {w : World} {K : PySem.W.Frag} {mg : Str → Option Value} {base : Heap}
theorem ok__law_mix (D : Df K mg "_law_mix" s__law_mix ["seed", "turn"]) (T : Tx mg) : Cal P w K mg base "_law_mix" ["seed", "turn"] 1 sp__law_mix := by
  obtain ⟨f, fd, F, gf, bf⟩ := D
  refine ⟨f, fd, F.ok sc__law_mix (fun vs H Q E h => ?_) (fun cdv A outer s H vs Q E hr h => ?_), gf, F.kp, bf⟩
  · obtain ⟨x, y, rfl, _⟩ := h; rfl
  · obtain ⟨x, y, rfl, x0, x1, y0, y1, q⟩ := h
    refine ⟨_, (pss_cons (ps_set (i := 2) sc__law_mix.nd rfl (Or.inl rfl) (pe_op op_mod (pe_callTy call_int1 (by rfl) T.n_int (by decide +kernel) (pa_cons (pe_op op_add (pe_op op_add (pe_op op_mul (pv 0) pe_int) (pe_op op_mul (pv 1) pe_int)) pe_int) pa_nil)) pe_int))
      (pss_cons (ps_set (i := 2) sc__law_mix.nd rfl (Or.inl rfl) (pe_op op_mod (pe_callTy call_int1 (by rfl) T.n_int (by decide +kernel) (pa_cons (pe_op op_add (pe_op op_add (pe_op op_mul (pv 2) (pv 2)) (pe_op op_mul (pv 1) pe_int)) pe_int) pa_nil)) pe_int))
      (pss_cons (ps_set (i := 2) sc__law_mix.nd rfl (Or.inl rfl) (pe_op op_mod (pe_callTy call_int1 (by rfl) T.n_int (by decide +kernel) (pa_cons (pe_op op_add (pe_op op_add (pe_op op_mul (pv 2) pe_int) (pe_op op_mul (pe_op op_mul (pv 1) (pv 1)) pe_int)) pe_int) pa_nil)) pe_int))
      (pss_one (ps_ret (pv 2)))))), ?_⟩

    refine ⟨_, rfl, _, _, rfl, rfl, .inr (by decide), _, rfl, _, _, rfl, rfl, .inr (by decide), _, _, rfl, rfl, _, _, rfl, rfl, .inl ⟨_, rfl, _, _, rfl, rfl, (by show (0 : Int) < _; decide), ?_⟩⟩
    refine ⟨_, rfl, _, rfl, _, _, rfl, rfl, .inl ⟨by omega, by omega⟩, _, rfl, _, _, rfl, rfl, .inr (by decide), _, _, rfl, rfl, _, _, rfl, rfl, .inl ⟨_, rfl, _, _, rfl, rfl, (by show (0 : Int) < _; decide), ?_⟩⟩
    refine ⟨_, rfl, _, _, rfl, rfl, .inr (by decide), _, rfl, _, rfl, _, _, rfl, rfl, .inl ⟨by omega, by omega⟩, _, _, rfl, rfl, .inr (by decide), _, _, rfl, rfl, _, _, rfl, rfl, .inl ⟨_, rfl, _, _, rfl, rfl, (by show (0 : Int) < _; decide), ?_⟩⟩
    exact ⟨_, rfl, q _ (Int.emod_nonneg _ (by decide)) (by omega)⟩
end
end Z
namespace Z
open PySem L2
section
variable {P : Program} {w : World} {K : PySem.W.Frag} {mg : Str → Option Value} {base : Heap}
theorem ok__law_source (D : Df K mg "_law_source" s__law_source ["script"]) (T : Tx mg) (C__law_mix : Cal P w K mg base "_law_mix" ["seed", "turn"] 1 sp__law_mix) : Cal P w K mg base "_law_source" ["script"] 2 (sp__law_source K) := by
  obtain ⟨f__law_mix, fd__law_mix, G__law_mix, g__law_mix, k__law_mix, b__law_mix⟩ := C__law_mix
  obtain ⟨f, fd, F, gf, bf⟩ := D
  refine ⟨f, fd, F.ok sc__law_source (fun vs H Q E h => ?_) (fun cdv A outer s H vs Q E hr h => ?_), gf, F.kp, bf⟩
  · obtain ⟨a, ns, rfl, _⟩ := h; rfl
  · obtain ⟨a, ns, rfl, hS, hlen, q⟩ := h
    refine ⟨_, (pss_cons (ps_set (i := 1) sc__law_source.nd rfl (Or.inl rfl) pe_int)
      (pss_cons (ps_for PassesOwn.never rfl (pi_range1 (by rfl) T.n_range (pa_cons (pe_callB call_len_seq (by rfl) T.n_len PySem.boot_len (pa_cons (pv 0) pa_nil)) pa_nil)) (pg_name (i := 2) sc__law_source.nd rfl (Or.inl rfl))
      (pss_one (ps_set (i := 1) sc__law_source.nd rfl (Or.inl rfl) (pe_call G__law_mix (hr.mono (by decide)) (by rfl) g__law_mix k__law_mix b__law_mix .nil pass0 (pa_cons (pe_op op_add (pv 1) (pe_op op_mod (pe_callTy call_int1 (by rfl) T.n_int (by decide +kernel) (pa_cons (pe_ix ix_list (pv 0) (pv 2) (fun _ _ => rfl)) pa_nil)) pe_int)) (pa_cons (pv 2) pa_nil))))))
      (pss_one (ps_ret (pe_lst (pa_cons (pe_callTy call_list_of (by rfl) T.n_list (by decide +kernel) (pa_cons (pv 0) pa_nil)) (pa_cons pe_int (pa_cons pe_int (pa_cons (pv 1) (pa_cons pe_int pa_nil)))))))))), ?_⟩
    refine ⟨_, rfl, a, _, rfl, .inl hS, _, rfl, by rw [List.length_map]; omega, by rw [List.length_map]; omega, ?_⟩
    refine for_range (lo := 0) (n := (((ns.map V.int).length : Int)).toNat) (fun i σ H' => ∃ (e : Int) (v : Option V), σ = [some (.ref a), some (.int e), v] ∧ H' = H ∧ 0 ≤ e ∧ e < 2147483647) ⟨17, none, rfl, rfl, by decide, by decide⟩ ?_ ?_
    · rintro i σ H' hi ⟨e, v, rfl, rfl, e0, e1⟩
      rw [List.length_map] at hi
      have hi' : i < ns.length := by omega
      refine ⟨_, rfl, _, rfl, _, rfl, a, _, _, .int ns[i], rfl, rfl, hS, ?_, .inl ⟨_, rfl, _, _, rfl, rfl, (by show (0 : Int) < _; decide), _, _, rfl, rfl, _, rfl, ?_⟩⟩
      · rw [Int.zero_add]
        exact atI_nat (by rw [List.getElem?_map, List.getElem?_eq_getElem hi']; rfl)
      · refine ⟨_, _, rfl, ?_, ?_, ?_, ?_, fun v v0 v1 => ?_⟩
        · have := Int.emod_nonneg ns[i] (by decide : (2147483647 : Int) ≠ 0); omega
        · have := Int.emod_lt_of_pos ns[i] (by decide : (0 : Int) < 2147483647); omega
        · omega
        · omega
        · exact ⟨v, _, rfl, rfl, v0, v1⟩
    · rintro σ H' ⟨e, v, rfl, rfl, e0, e1⟩
      refine ⟨_, rfl, a, _, rfl, .inl hS, fun l hl => ?_⟩
      refine ⟨_, rfl, by show 5 ≤ sizeLine; decide, fun s hs => ?_⟩
      have hsl : s ≠ l := fun z => by rw [z, upd_same] at hs; cases hs
      have hs0 : H' s = none := by rw [upd_ne hsl] at hs; exact hs
      refine q s l _ hs0 ((same_new hl).trans (same_new hs)) ⟨ns, 0, 0, e, 0, upd_same, by rw [upd_ne hsl.symm, upd_same], hsl.symm, hlen, by decide, by decide, by decide, e0, e1, by decide, by decide⟩
end
end Z
namespace Z
open PySem L2
section
variable {P : Program} {w : World} {K : PySem.W.Frag} {mg : Str → Option Value} {base : Heap}
theorem ok__law_draw (D : Df K mg "_law_draw" s__law_draw ["source", "many"]) (T : Tx mg) (C__law_mix : Cal P w K mg base "_law_mix" ["seed", "turn"] 1 sp__law_mix) : Cal P w K mg base "_law_draw" ["source", "many"] 2 sp__law_draw := by
  obtain ⟨f__law_mix, fd__law_mix, G__law_mix, g__law_mix, k__law_mix, b__law_mix⟩ := C__law_mix
  obtain ⟨f, fd, F, gf, bf⟩ := D
  refine ⟨f, fd, F.ok sc__law_draw (fun vs H Q E h => ?_) (fun cdv A outer s H vs Q E hr h => ?_), gf, F.kp, bf⟩
  · obtain ⟨s, a, m, c, rfl, _⟩ := h; rfl
  · obtain ⟨s, a, m, c, rfl, m0, m1, hS, q⟩ := h
    refine ⟨_, (C8.pss_cut (ps_if (PW.pt (pw_and (pt_cmpR op_eq (pe_ix ix_list (pv 0) pe_int (fun _ _ => rfl)) pe_int (nomark _)) (pw_and (pt_cmpR op_lt (pe_ix ix_list (pv 0) pe_int (fun _ _ => rfl)) (pe_callB call_len_seq (by rfl) T.n_len PySem.boot_len (pa_cons (pe_ix ix_list (pv 0) pe_int (fun _ _ => rfl)) pa_nil)) (nomark _)) (pw_and1 (pt_cmpR op_eq (pe_op op_mod (pe_callTy call_int1 (by rfl) T.n_int (by decide +kernel) (pa_cons (pe_ix ix_list (pv 0) pe_int (fun _ _ => rfl)) pa_nil)) pe_int) pe_int (nomark _))))))
      (pss_cons (ps_set (i := 2) sc__law_draw.nd rfl (Or.inl rfl) (pe_ix ix_list (pe_ix ix_list (pv 0) pe_int (fun _ _ => rfl)) (pe_ix ix_list (pv 0) pe_int (fun _ _ => rfl)) (fun _ _ => rfl)))
        (pss_cons (ps_asg (pe_op op_add (pe_ix ix_list (pv 0) pe_int (fun _ _ => rfl)) pe_int) (pg_sub (pv 0) pe_int set_list))
        (pss_one (ps_if (pt_cmpR op_ge (pe_callB call_abs (by rfl) T.n_abs (by decide +kernel) (pa_cons (pv 2) pa_nil)) (pe_op op_pow pe_int pe_int) (nomark _))
        (pss_one (ps_asg (pe_op op_and (pe_callB call_abs (by rfl) T.n_abs (by decide +kernel) (pa_cons (pv 2) pa_nil)) (pe_op op_sub (pe_op op_shl pe_int pe_int) pe_int)) (pg_sub (pv 0) pe_int set_list)))
        (pss_one (ps_asg (pe_call G__law_mix (hr.mono (by decide)) (by rfl) g__law_mix k__law_mix b__law_mix .nil pass0 (pa_cons (pe_op op_add (pe_ix ix_list (pv 0) pe_int (fun _ _ => rfl)) (pe_op op_mod (pe_callTy call_int1 (by rfl) T.n_int (by decide +kernel) (pa_cons (pv 2) pa_nil)) pe_int)) (pa_cons (pe_ix ix_list (pv 0) pe_int (fun _ _ => rfl)) pa_nil))) (pg_sub (pv 0) pe_int set_list)))))))
      pss_nil)
      (pss_cons (ps_if (pt_cmpR op_gt (pe_ix ix_list (pv 0) pe_int (fun _ _ => rfl)) pe_int (nomark _))
      (pss_cons (ps_set (i := 3) sc__law_draw.nd rfl (Or.inl rfl) (pe_op op_mod (pe_callTy call_int1 (by rfl) T.n_int (by decide +kernel) (pa_cons (pe_ix ix_list (pv 0) pe_int (fun _ _ => rfl)) pa_nil)) (pv 1)))
        (pss_cons (ps_asg (pe_op op_fdivN (pe_callTy call_int1 (by rfl) T.n_int (by decide +kernel) (pa_cons (pe_ix ix_list (pv 0) pe_int (fun _ _ => rfl)) pa_nil)) (pv 1)) (pg_sub (pv 0) pe_int set_list))
        (pss_one (ps_ret (pv 3)))))
      pss_nil)
      (pss_cons (ps_asg (pe_op op_add (pe_ix ix_list (pv 0) pe_int (fun _ _ => rfl)) pe_int) (pg_sub (pv 0) pe_int set_list))
      (pss_one (ps_ret (pe_op op_mod (pe_callTy call_int1 (by rfl) T.n_int (by decide +kernel) (pa_cons (pe_op op_fdiv (pe_call G__law_mix (hr.mono (by decide)) (by rfl) g__law_mix k__law_mix b__law_mix .nil pass0 (pa_cons (pe_ix ix_list (pv 0) pe_int (fun _ _ => rfl)) (pa_cons (pe_ix ix_list (pv 0) pe_int (fun _ _ => rfl)) pa_nil))) pe_int) pa_nil)) (pv 1))))))), ?_⟩
    refine ⟨fun σ' H' => (∃ v2 v3, σ' = [some (.ref s), some (.int m), v2, v3]) ∧ Src H' s a (c + 1) ∧ Ext s H H', ?_, ?_⟩
    · obtain ⟨ns, i, b, e, t, h1, h2, as, h4, h5, h6, h7, h8, h9, h10, h11⟩ := id hS
      have hL : SqL K H s [.ref a, .int i, .int b, .int e, .int t] := SqL.of h1
      refine ⟨_, rfl, _, _, _, _, rfl, rfl, hL, rfl, rfl, _, rfl, ite2 (fun c1 => ?_) (fun c1 => iteF ⟨⟨_, _, rfl⟩, hS, Ext.refl _ _⟩)⟩
      refine ⟨_, rfl, _, _, _, _, rfl, rfl, hL, rfl, _, rfl, _, _, _, _, rfl, rfl, hL, rfl, a, _, rfl, .inl (SqL.of h2), _, _, rfl, rfl, _, rfl, ite2 (fun c2 => ?_) (fun c2 => iteF ⟨⟨_, _, rfl⟩, hS, Ext.refl _ _⟩)⟩
      refine ⟨_, rfl, _, _, _, _, rfl, rfl, hL, rfl, .inl ⟨_, rfl, _, _, rfl, rfl, (by show (0 : Int) < 6; decide), rfl, _, rfl, ite2 (fun c3 => ?_) (fun c3 => ⟨⟨_, _, rfl⟩, hS, Ext.refl _ _⟩)⟩⟩
      have hi : i < ns.length := by
        have := of_decide_eq_true c2
        rw [List.length_map] at this
        exact this
      have hi' : i.toNat < ns.length := by omega
      -- cell = source[0][source[1]]
      refine ⟨_, rfl, _, _, _, _, rfl, rfl, hL, rfl, _, rfl, _, _, _, _, rfl, rfl, hL, rfl, a, _, _, .int ns[i.toNat], rfl, rfl, SqL.of h2, at_of (j := i.toNat) (by omega) (by rw [List.getElem?_map, List.getElem?_eq_getElem hi']; rfl), ?_⟩
      -- source[1] = source[1] + 1
      refine ⟨_, rfl, _, _, _, _, rfl, rfl, hL, rfl, _, _, rfl, rfl, _, rfl, _, _, _, 1, rfl, rfl, h1, rfl, ?_⟩
      refine ⟨_, rfl, _, rfl, _, _, rfl, rfl, ⟨by decide, by decide, by decide⟩, _, _, rfl, rfl, _, rfl, ite2 (fun c4 => ?_) (fun c4 => ?_)⟩
      · refine ⟨_, rfl, _, rfl, _, _, rfl, rfl, ⟨by decide, by decide, by decide⟩, _, _, rfl, rfl, _, _, rfl, rfl, _, rfl, _, _, _, 2, rfl, rfl, upd_same, rfl, ?_⟩
        refine ⟨⟨_, _, rfl⟩, ?_, ?_⟩
        · refine ⟨ns, i + 1, _, e, t, upd_same, by rw [upd_ne as, upd_ne as]; exact h2, as, h4, by omega, by omega, ?_, h8, h9, h10, h11⟩
          exact and_nn (by split <;> omega) _
        · exact Ext.put.trans Ext.put
      · refine ⟨_, rfl, _, _, _, _, rfl, rfl, SqL.of upd_same, rfl, _, rfl, .inl ⟨_, rfl, _, _, rfl, rfl, (by show (0 : Int) < 2147483647; decide), _, _, rfl, rfl, _, rfl, _, _, _, _, rfl, rfl, SqL.of upd_same, rfl, _, _, rfl, ?_, ?_, ?_, ?_, fun v v0 v1 => ?_⟩⟩
        · have := Int.emod_nonneg ns[i.toNat] (by decide : (2147483647 : Int) ≠ 0); omega
        · have := Int.emod_lt_of_pos ns[i.toNat] (by decide : (0 : Int) < 2147483647); omega
        · omega
        · omega
        · refine ⟨_, rfl, _, _, _, 3, rfl, rfl, upd_same, rfl, ⟨_, _, rfl⟩, ?_, Ext.put.trans Ext.put⟩
          exact ⟨ns, i + 1, b, v, t, upd_same, by rw [upd_ne as, upd_ne as]; exact h2, as, h4, by omega, by omega, h7, v0, v1, h10, h11⟩
    · rintro σ' H' ⟨⟨v2, v3, rfl⟩, hS', hx⟩
      obtain ⟨ns, i, b, e, t, h1, h2, as, h4, h5, h6, h7, h8, h9, h10, h11⟩ := id hS'
      have hL : SqL K H' s [.ref a, .int i, .int b, .int e, .int t] := SqL.of h1
      refine ⟨_, rfl, _, _, _, _, rfl, rfl, hL, rfl, _, _, rfl, rfl, _, rfl, ite2 (fun c1 => ?_) (fun c1 => ?_)⟩
      · refine ⟨_, rfl, _, _, _, _, rfl, rfl, hL, rfl, .inl ⟨_, rfl, _, rfl, _, _, rfl, rfl, m0, ?_⟩⟩
        refine ⟨_, rfl, _, _, _, _, rfl, rfl, hL, rfl, .inl ⟨_, rfl, _, rfl, _, _, rfl, rfl, ⟨by omega, by omega⟩, _, rfl, _, _, _, 2, rfl, rfl, h1, rfl, ?_⟩⟩
        refine ⟨_, rfl, q _ _ (Int.emod_nonneg _ (by omega)) (Int.emod_lt_of_pos _ m0) (hx.trans Ext.put) ?_⟩
        refine ⟨ns, i, _, e, t, upd_same, by rw [upd_ne as]; exact h2, as, h4, h5, h6, ?_, h8, h9, h10, by omega⟩
        exact Int.fdiv_nonneg h7 (by omega)
      · refine ⟨_, rfl, _, _, _, _, rfl, rfl, hL, rfl, _, _, rfl, rfl, _, rfl, _, _, _, 4, rfl, rfl, h1, rfl, ?_⟩
        refine ⟨_, rfl, _, _, _, _, rfl, rfl, SqL.of upd_same, rfl, _, rfl, _, _, _, _, rfl, rfl, SqL.of upd_same, rfl, _, _, rfl, h8, by omega, by omega, by omega, fun v v0 v1 => ?_⟩
        refine ⟨_, _, rfl, rfl, ⟨by decide, by decide⟩, .inl ⟨_, rfl, _, rfl, _, _, rfl, rfl, m0, ?_⟩⟩
        refine q _ _ (Int.emod_nonneg _ (by omega)) (Int.emod_lt_of_pos _ m0) (hx.trans Ext.put) ?_
        exact ⟨ns, i, b, e, t + 1, upd_same, by rw [upd_ne as]; exact h2, as, h4, h5, h6, h7, h8, h9, by omega, by omega⟩
end
end Z
namespace Z
open PySem L2
section
variable {P : Program} {w : World} {K : PySem.W.Frag} {mg : Str → Option Value} {base : Heap}
theorem ok__law_is_int (D : Df K mg "_law_is_int" s__law_is_int ["value"]) (T : Tx mg)  : Cal P w K mg base "_law_is_int" ["value"] 1 (sp__law_is_int K) := by
  obtain ⟨f, fd, F, gf, bf⟩ := D
  refine ⟨f, fd, F.ok sc__law_is_int (fun vs H Q E h => ?_) (fun cdv A outer s H vs Q E hr h => ?_), gf, F.kp, bf⟩
  · obtain ⟨i, rfl, _⟩ := h; rfl
  · obtain ⟨i, rfl, q⟩ := h
    refine ⟨_, (pss_one (ps_ret (pe_and (pe_callB call_isi (by rfl) T.n_isinstance (by decide +kernel) (pa_cons (pv 0) (pa_cons (pe_bltn (v := .ty "int") (by rfl) T.n_int (by decide +kernel) rfl) pa_nil))) (pe_one (pe_not (pe_callB call_isi (by rfl) T.n_isinstance (by decide +kernel) (pa_cons (pv 0) (pa_cons (pe_bltn (v := .ty "bool") (by rfl) T.n_bool (by decide +kernel) rfl) pa_nil)))))))), ?_⟩
    refine ⟨_, rfl, _, _, _, _, true, rfl, .ty _, .base (.int i), kit_ty (by decide +kernel), _, rfl, ?_⟩
    refine iteT ⟨_, rfl, _, _, _, _, false, rfl, .ty _, .base (.int i), kit_ty (by decide +kernel), _, rfl, q⟩

theorem ok__law_same (D : Df K mg "_law_same" s__law_same ["actual", "due"]) (T : Tx mg) (C__law_is_int : Cal P w K mg base "_law_is_int" ["value"] 1 (sp__law_is_int K)) : ∀ n, Cal P w K mg base "_law_same" ["actual", "due"] (n + 1) (sp__law_same K n)
  | 0 => by
    obtain ⟨f, fd, F, gf, bf⟩ := D
    exact ⟨f, fd, ⟨fun vs H Q E h => by obtain ⟨_, _, _, _, _, _, h, _⟩ := h; exact h.elim, fun A outer s H args us vs Q E _ _ _ _ h => by obtain ⟨_, _, _, _, _, _, h, _⟩ := h; exact h.elim⟩, gf, F.kp, bf⟩
  | n + 1 => by
    obtain ⟨f__law_same, fd__law_same, G__law_same, g__law_same, k__law_same, b__law_same⟩ := ok__law_same D T C__law_is_int n
    obtain ⟨f__law_is_int, fd__law_is_int, G__law_is_int, g__law_is_int, k__law_is_int, b__law_is_int⟩ := C__law_is_int
    obtain ⟨f, fd, F, gf, bf⟩ := D
    refine ⟨f, fd, F.ok sc__law_same (fun vs H Q E h => ?_) (fun cdv A outer s H vs Q E hr h => ?_), gf, F.kp, bf⟩
    · obtain ⟨d, v, u, rfl, _⟩ := h; rfl
    · obtain ⟨d, v, u, rfl, hv, hu, hd, q⟩ := h
      refine ⟨_, (pss_cons (ps_if (pt_val (pe_callB call_isi (by rfl) T.n_isinstance (by decide +kernel) (pa_cons (pv 1) (pa_cons (pe_bltn (v := .ty "tuple") (by rfl) T.n_tuple (by decide +kernel) rfl) pa_nil))))
      (pss_cons (ps_if (PW.pt (pw_or (pt_not (pt_val (pe_callB call_isi (by rfl) T.n_isinstance (by decide +kernel) (pa_cons (pv 0) (pa_cons (pe_bltn (v := .ty "tuple") (by rfl) T.n_tuple (by decide +kernel) rfl) pa_nil))))) (pw_or1 (pt_cmpR op_ne (pe_callB call_len_seq (by rfl) T.n_len PySem.boot_len (pa_cons (pv 0) pa_nil)) (pe_callB call_len_seq (by rfl) T.n_len PySem.boot_len (pa_cons (pv 1) pa_nil)) (nomark _)))))
        (pss_one (ps_ret pe_bl))
        pss_nil)
        (pss_cons (ps_for PassesOwn.never rfl (pi_range1 (by rfl) T.n_range (pa_cons (pe_callB call_len_seq (by rfl) T.n_len PySem.boot_len (pa_cons (pv 1) pa_nil)) pa_nil)) (pg_name (i := 2) sc__law_same.nd rfl (Or.inl rfl))
        (pss_one (ps_if (pt_not (pt_val (pe_call G__law_same hr (by rfl) g__law_same k__law_same b__law_same .nil pass0 (pa_cons (pe_ix ix_tup (pv 0) (pv 2) (fun _ _ => rfl)) (pa_cons (pe_ix ix_tup (pv 1) (pv 2) (fun _ _ => rfl)) pa_nil)))))
          (pss_one (ps_ret pe_bl))
          pss_nil)))
        (pss_one (ps_ret pe_bl))))
      pss_nil)
      (pss_cons (ps_if (pt_cmpR op_isN (pv 1) pe_non (nomark _))
      (pss_one (ps_ret (pe_cmpR op_isN (pv 0) pe_non (nomark _))))
      pss_nil)
      (pss_cons (ps_if (pt_val (pe_callB call_isi (by rfl) T.n_isinstance (by decide +kernel) (pa_cons (pv 1) (pa_cons (pe_bltn (v := .ty "bool") (by rfl) T.n_bool (by decide +kernel) rfl) pa_nil))))
      (pss_one (ps_ret (pe_and (pe_callB call_isi (by rfl) T.n_isinstance (by decide +kernel) (pa_cons (pv 0) (pa_cons (pe_bltn (v := .ty "bool") (by rfl) T.n_bool (by decide +kernel) rfl) pa_nil))) (pe_one (pe_cmpR op_eq (pv 0) (pv 1) (nomark _))))))
      pss_nil)
      (pss_cons (ps_if (pt_val (pe_callB call_isi (by rfl) T.n_isinstance (by decide +kernel) (pa_cons (pv 1) (pa_cons (pe_bltn (v := .ty "int") (by rfl) T.n_int (by decide +kernel) rfl) pa_nil))))
      (pss_one (ps_ret (pe_and (pe_call G__law_is_int (hr.mono (by omega)) (by rfl) g__law_is_int k__law_is_int b__law_is_int .nil pass0 (pa_cons (pv 0) pa_nil)) (pe_one (pe_cmpR op_eq (pv 0) (pv 1) (nomark _))))))
      pss_nil)
      (pss_one (ps_ret (pe_and (pe_callB call_isi (by rfl) T.n_isinstance (by decide +kernel) (pa_cons (pv 0) (pa_cons (pe_bltn (v := .ty "str") (by rfl) T.n_str (by decide +kernel) rfl) pa_nil))) (pe_one (pe_cmpR op_eq (pv 0) (pv 1) (nomark _)))))))))), ?_⟩
      cases d with
      | non =>
        unfold DV at hv hu; subst hv hu
        refine ⟨_, rfl, _, _, _, _, false, rfl, .ty _, .base .non, kit_ty (by decide +kernel), _, rfl, iteF ?_⟩
        exact ⟨_, rfl, rfl, _, rfl, iteT ⟨_, rfl, rfl, q⟩⟩
      | bl b =>
        unfold DV at hv hu; subst hv hu
        refine ⟨_, rfl, _, _, _, _, false, rfl, .ty _, .base (.bl b), kit_ty (by decide +kernel), _, rfl, iteF ?_⟩
        refine ⟨_, rfl, rfl, _, rfl, iteF ?_⟩
        refine ⟨_, rfl, _, _, _, _, true, rfl, .ty _, .base (.bl b), kit_ty (by decide +kernel), _, rfl, iteT ?_⟩
        refine ⟨_, rfl, _, _, _, _, true, rfl, .ty _, .base (.bl b), kit_ty (by decide +kernel), _, rfl, iteT ?_⟩
        refine ⟨_, rfl, _, rfl, rfl, ?_⟩
        rw [decide_eq_true rfl]; exact q
      | int b =>
        unfold DV at hv hu; subst hv hu
        refine ⟨_, rfl, _, _, _, _, false, rfl, .ty _, .base (.int b), kit_ty (by decide +kernel), _, rfl, iteF ?_⟩
        refine ⟨_, rfl, rfl, _, rfl, iteF ?_⟩
        refine ⟨_, rfl, _, _, _, _, false, rfl, .ty _, .base (.int b), kit_ty (by decide +kernel), _, rfl, iteF ?_⟩
        refine ⟨_, rfl, _, _, _, _, true, rfl, .ty _, .base (.int b), kit_ty (by decide +kernel), _, rfl, iteT ?_⟩
        refine ⟨_, rfl, _, rfl, _, rfl, iteT ?_⟩
        refine ⟨_, rfl, _, rfl, rfl, ?_⟩
        rw [decide_eq_true rfl]; exact q
      | str b =>
        unfold DV at hv hu; subst hv hu
        refine ⟨_, rfl, _, _, _, _, false, rfl, .ty _, .base (.str b), kit_ty (by decide +kernel), _, rfl, iteF ?_⟩
        refine ⟨_, rfl, rfl, _, rfl, iteF ?_⟩
        refine ⟨_, rfl, _, _, _, _, false, rfl, .ty _, .base (.str b), kit_ty (by decide +kernel), _, rfl, iteF ?_⟩
        refine ⟨_, rfl, _, _, _, _, false, rfl, .ty _, .base (.str b), kit_ty (by decide +kernel), _, rfl, iteF ?_⟩
        refine ⟨_, rfl, _, _, _, _, true, rfl, .ty _, .base (.str b), kit_ty (by decide +kernel), _, rfl, iteT ?_⟩
        refine ⟨_, rfl, _, rfl, rfl, ?_⟩
        rw [decide_eq_true rfl]; exact q
      | tup ds =>
        unfold DV at hv hu
        obtain ⟨a, vs, rfl, ha, hvs⟩ := hv
        obtain ⟨b, us, rfl, hb, hus⟩ := hu
        have hl := hvs.len
        have hm := hus.len
        refine ⟨_, rfl, _, _, _, _, true, rfl, .ty _, TyX.ofT hb, kit_ty (by decide +kernel), _, rfl, iteT ?_⟩
        refine ⟨_, rfl, _, _, _, _, true, rfl, .ty _, TyX.ofT ha, kit_ty (by decide +kernel), _, rfl, iteF ?_⟩
        refine ⟨_, rfl, a, _, rfl, .inr ha, _, rfl, b, _, rfl, .inr hb, rfl, _, rfl, iteNS (by rw [hl, hm]) ?_⟩
        refine ⟨_, rfl, b, _, rfl, .inr hb, _, rfl, by omega, by have := hd.1; omega, ?_⟩
        refine for_range (lo := 0) (n := ((us.length : Int)).toNat) (fun i σ H' => ∃ (x : Option V), σ = [some (.ref a), some (.ref b), x] ∧ H' = H) ⟨none, rfl, rfl⟩ ?_ ?_
        · rintro i σ H' hi ⟨x, rfl, rfl⟩
          have hi' : i < us.length := by omega
          have hi2 : i < ds.length := by omega
          obtain ⟨v1, e1, q1⟩ := hvs.get (List.getElem?_eq_getElem hi2)
          obtain ⟨v2, e2, q2⟩ := hus.get (List.getElem?_eq_getElem hi2)
          refine ⟨_, rfl, _, rfl, a, _, _, v1, rfl, rfl, ha, at_of (j := i) (by omega) e1, _, rfl, _, rfl, b, _, _, v2, rfl, rfl, hb, at_of (j := i) (by omega) e2, ?_⟩
          refine ⟨ds[i], v1, v2, rfl, q1, q2, hd.2 _ (List.getElem_mem hi2), _, rfl, iteF ?_⟩
          exact ⟨_, rfl, rfl⟩
        · rintro σ H' ⟨x, rfl, rfl⟩
          exact q
end
end Z
namespace Z
open PySem L2 SX
section
variable {P : Program} {w : World} {K : PySem.W.Frag} {mg : Str → Option Value} {base : Heap}
theorem ok__law_pick (D : Df K mg "_law_pick" s__law_pick ["source", "row"]) (T : Tx mg) (C__law_draw : Cal P w K mg base "_law_draw" ["source", "many"] 2 sp__law_draw) : Cal P w K mg base "_law_pick" ["source", "row"] 3 (sp__law_pick K) := by
  obtain ⟨f__law_draw, fd__law_draw, G__law_draw, g__law_draw, k__law_draw, b__law_draw⟩ := C__law_draw
  obtain ⟨f, fd, F, gf, bf⟩ := D
  refine ⟨f, fd, F.ok sc__law_pick (fun vs H Q E h => ?_) (fun cdv A outer s H vs Q E hr h => ?_), gf, F.kp, bf⟩
  · rcases h with ⟨s, a, r, xs, c, rfl, _⟩ | ⟨s, a, x, c, rfl, _⟩ <;> rfl
  · refine ⟨_, (pss_one (ps_ret (pe_ix ix_seq (pv 1) (pe_call G__law_draw (hr.mono (by decide)) (by rfl) g__law_draw k__law_draw b__law_draw .nil pass0 (pa_cons (pv 0) (pa_cons (pe_callB call_len (by rfl) T.n_len PySem.boot_len (pa_cons (pv 1) pa_nil)) pa_nil))) (fun _ _ => rfl)))), ?_⟩
    rcases h with ⟨s, a, r, xs, c, rfl, hR, rs, ne, hl, hS, q⟩ | ⟨s, a, x, c, rfl, ne, hl, hS, q⟩
    · have n0 : 0 < xs.length := List.length_pos_iff.mpr ne
      refine ⟨_, rfl, _, rfl, _, rfl, _, _, rfl, .inl ⟨xs, hR, rfl⟩, s, a, (xs.length : Int), c, rfl, by omega, by omega, hS, fun v H' v0 v1 hE hS' => ?_⟩
      have hv : v.toNat < xs.length := by omega
      exact .inl ⟨r, xs, v, xs[v.toNat], rfl, rfl, hE.seqL rs hR, atI_pos v0 (List.getElem?_eq_getElem hv), q _ _ (List.getElem_mem hv) hE hS'⟩
    · have n0 : 0 < (tl x).length := List.length_pos_iff.mpr ne
      have hx := tl_len x
      refine ⟨_, rfl, _, rfl, _, rfl, _, x.length, rfl, ⟨by rw [hx]; exact Nat.le_trans hl (by decide), rfl⟩, s, a, (x.length : Int), c, rfl, by omega, by omega, hS, fun v H' v0 v1 hE hS' => ?_⟩
      have hv : v.toNat < (tl x).length := by omega
      exact .inr (.inr ⟨x, v, (tl x)[v.toNat], rfl, rfl, by rw [hx]; exact Nat.le_trans hl (by decide), atI_pos v0 (List.getElem?_eq_getElem hv), q _ _ (List.getElem_mem hv) hE hS'⟩)
end
end Z
namespace Z
open PySem L2 SX
section
variable {P : Program} {w : World} {K : PySem.W.Frag} {mg : Str → Option Value} {base : Heap}
theorem ok__law_new_name (D : Df K mg "_law_new_name" s__law_new_name ["source", "used"]) (T : Tx mg) (C__law_draw : Cal P w K mg base "_law_draw" ["source", "many"] 2 sp__law_draw) : Cal P w K mg base "_law_new_name" ["source", "used"] 3 (sp8__law_new_name K) := by
  obtain ⟨f__law_draw, fd__law_draw, G__law_draw, g__law_draw, k__law_draw, b__law_draw⟩ := C__law_draw
  obtain ⟨f, fd, F, gf, bf⟩ := D
  refine ⟨f, fd, F.ok sc__law_new_name (fun vs H Q E h => ?_) (fun cdv A outer s H vs Q E hr h => ?_), gf, F.kp, bf⟩
  · obtain ⟨s, a, u, us, c, rfl, _⟩ := h; rfl
  · obtain ⟨s, a, u, us, c, rfl, hU, hus, hul, hS, q⟩ := h
    refine ⟨_, (pss_cons (ps_set (i := 2) sc__law_new_name.nd rfl (Or.inl rfl) pe_str)
      (pss_cons (ps_set (i := 3) sc__law_new_name.nd rfl (Or.inl rfl) (pe_op op_add pe_int (pe_call G__law_draw (hr.mono (by decide)) (by rfl) g__law_draw k__law_draw b__law_draw .nil pass0 (pa_cons (pv 0) (pa_cons pe_int pa_nil)))))
      (pss_cons (ps_set (i := 4) sc__law_new_name.nd rfl (Or.inl rfl) (pe_item_str (pv 2) (pe_call G__law_draw (hr.mono (by decide)) (by rfl) g__law_draw k__law_draw b__law_draw .nil pass0 (pa_cons (pv 0) (pa_cons pe_int pa_nil))) (fun _ _ => rfl)))
      (pss_cons (ps_for PassesOwn.never rfl (pi_range1 (by rfl) T.n_range (pa_cons (pe_op op_sub (pv 3) pe_int) pa_nil)) (pg_name (i := 5) sc__law_new_name.nd rfl (Or.inl rfl))
      (pss_one (ps_set (i := 4) sc__law_new_name.nd rfl (Or.inl rfl) (pe_op op_add_str (pv 4) (pe_item_str (pe_op op_add_str (pv 2) pe_str) (pe_call G__law_draw (hr.mono (by decide)) (by rfl) g__law_draw k__law_draw b__law_draw .nil pass0 (pa_cons (pv 0) (pa_cons pe_int pa_nil))) (fun _ _ => rfl))))))
      (pss_cons (ps_for PassesOwn.never rfl (pi_range1 (by rfl) T.n_range (pa_cons (pe_op op_add (pe_callB call_len_seq (by rfl) T.n_len PySem.boot_len (pa_cons (pv 1) pa_nil)) pe_int) pa_nil)) (pg_name (i := 5) sc__law_new_name.nd rfl (Or.inl rfl))
      (pss_cons (ps_set (i := 6) sc__law_new_name.nd rfl (Or.inl rfl) (pe_op op_add_str (pv 4) (pe_ix ix_list (pe_lst (pa_cons pe_str (pa_cons (pe_callTy call_str_int (by rfl) T.n_str (by decide +kernel) (pa_cons (pv 5) pa_nil)) pa_nil))) (pe_callTy call_int1 (by rfl) T.n_int (by decide +kernel) (pa_cons (pe_cmpR op_gt (pv 5) pe_int (nomark _)) pa_nil)) (fun _ _ => rfl))))
        (pss_one (ps_if (pt_cmpR op_notIn_seq (pv 6) (pv 1) (by rfl))
        (pss_one (ps_ret (pv 6)))
        pss_nil))))
      (pss_one (ps_ret (pv 4)))))))), ?_⟩
    -- size, the first letter
    refine ⟨_, rfl, s, a, _, c + 7, rfl, by decide, by decide, hS, fun v1 H1 v10 v11 x1 S1 => ?_⟩
    refine ⟨_, _, rfl, rfl, ?_⟩
    refine ⟨_, rfl, _, rfl, s, a, _, c + 6, rfl, by decide, by decide, S1, fun v2 H2 v20 v21 x2 S2 => ?_⟩
    obtain ⟨ch, e1, _, e3⟩ := at_str (x := Str.ofString "abcdefghijklmnopqrstuvwxyz") v20 v21
    refine ⟨_, _, ch, rfl, rfl, v20, by omega, v21, e1, ?_⟩
    have hch : 97 ≤ ch ∧ ch ≤ 122 := alpha_mem e3
    -- the further signs
    refine ⟨_, rfl, _, _, rfl, rfl, _, rfl, by omega, by omega, ?_⟩
    refine for_range (lo := 0) (n := (1 + v1 - 1).toNat) (fun i σ H' => ∃ (x : Str) (v : Option V), σ = [some (.ref s), some (.ref u), some (.str "abcdefghijklmnopqrstuvwxyz"), some (.int (1 + v1)), some (.str x), v, none] ∧ Nm (tl x) ∧ (tl x).length = i + 1 ∧ Ext s H H' ∧ Src H' s a (c + (5 - i))) ?_ ?_ ?_
    · exact ⟨S [ch], none, rfl, ⟨⟨ch, [], rfl, hch⟩, fun y hy => by rw [List.mem_singleton.mp hy]; exact .inl hch⟩, rfl, x1.trans x2, S2.mono (by omega)⟩
    · rintro i σ H' hi ⟨x, v, rfl, hN, hl, hE, hS'⟩
      refine ⟨_, rfl, _, rfl, _, _, rfl, rfl, by decide +kernel, ?_⟩
      refine ⟨_, rfl, s, a, _, c + (5 - (i + 1)), rfl, by decide, by decide, hS'.mono (by omega), fun v3 H3 v30 v31 x3 S3 => ?_⟩
      obtain ⟨d, e1, _, e3⟩ := at_str (x := Str.ofString "abcdefghijklmnopqrstuvwxyz" ++ Str.ofString "0123456789") v30 v31
      refine ⟨_, _, d, rfl, rfl, v30, by omega, v31, e1, _, _, rfl, rfl, ?_, ?_⟩
      · rw [tl_len, hl]; exact Nat.le_trans (show i + 1 + 1 ≤ 10 by omega) (by decide)
      · exact ⟨_, _, rfl, by rw [tl_app]; exact hN.app (fun y hy => by rw [List.mem_singleton.mp hy]; exact low_mem e3), by rw [tl_app, List.length_append, hl]; rfl, hE.trans x3, S3⟩
    · rintro σ H3 ⟨x, v, rfl, hN, hl, hE, hS'⟩
      have hU3 : SqL K H3 u (us.map V.str) := hE.seqL hus hU
      refine ⟨_, rfl, u, _, rfl, .inl hU3, _, _, rfl, rfl, _, rfl, by rw [List.length_map]; omega, by rw [List.length_map]; omega, ?_⟩
      refine for_range (lo := 0) (n := ((((us.map V.str).length : Int)) + 1).toNat) (fun i σ H' => ∃ (v t : Option V), σ = [some (.ref s), some (.ref u), some (.str "abcdefghijklmnopqrstuvwxyz"), some (.int (1 + v1)), some (.str x), v, t] ∧ Same H3 H') ⟨_, _, rfl, Same.refl _⟩ ?_ ?_
      · rintro i σ H' hi ⟨v', t', rfl, hM⟩
        rw [List.length_map] at hi
        obtain ⟨y, hy, hyl, hya⟩ : ∃ y : Str, atI [V.str (Str.ofString ""), V.str (Str.ofString (toString (0 + (i : Int))))] (if decide ((0 : Int) < 0 + (i : Int)) = true then 1 else 0) = some (.str y) ∧ (tl y).length ≤ 1 ∧ Low (tl y) := by
          by_cases h0 : i = 0
          · subst h0
            exact ⟨Str.ofString "", rfl, by decide, Low.nil⟩
          · rw [if_pos (decide_eq_true (by omega))]
            refine ⟨_, rfl, ?_, ?_⟩
            · rw [Int.zero_add, num_S, tl_S]
              have := TL.numL_len (n := i) (k := 1) (by decide) (by omega)
              omega
            · rw [Int.zero_add, num_S, tl_S]
              exact low_num i
        refine ⟨_, rfl, _, rfl, _, rfl, log_small (by omega), by show 2 ≤ sizeLine; decide, fun p hp => ?_⟩
        refine ⟨_, rfl, _, _, rfl, rfl, .inr ⟨_, rfl, p, _, _, _, rfl, rfl, SqL.of upd_same, hy, _, _, rfl, rfl, ?_, ?_⟩⟩
        · rw [tl_len, tl_len]; exact Nat.le_trans (show _ ≤ 70 by omega) (by decide)
        have hM' : Same H3 (upd H' p (HO.lst [V.str (Str.ofString ""), V.str (Str.ofString (toString (0 + (i : Int))))])) := hM.trans (same_new hp)
        refine ⟨_, rfl, _, rfl, u, _, rfl, .inl (hM'.seq hU3), rfl, flat_strs us, _, rfl, ite2 (fun _ => ?_) (fun _ => ⟨_, _, rfl, hM'⟩)⟩
        exact ⟨_, rfl, q _ _ (by rw [tl_app]; exact hN.app hya) (by rw [tl_app, List.length_append]; omega) (hE.trans (Ext.of hM')) ((hS'.ext hM').mono (by omega))⟩
      · rintro σ H' ⟨v', t', rfl, hM⟩
        exact ⟨_, rfl, q x H' hN (by omega) (hE.trans (Ext.of hM)) ((hS'.ext hM).mono (by omega))⟩
end
end Z
namespace Z
open PySem L2 SX
section
variable {P : Program} {w : World} {K : PySem.W.Frag} {mg : Str → Option Value} {base : Heap}
theorem ok_number_of (D : Df K mg "number_of" s_number_of ["text", "longest"]) (T : Tx mg)   : Cal P w K mg base "number_of" ["text", "longest"] 1 sp39_number_of := by
  obtain ⟨t_DIGITS, h_DIGITS⟩ := T.c_DIGITS
  obtain ⟨f, fd, F, gf, bf⟩ := D
  refine ⟨f, fd, F.ok sc_number_of (fun vs H Q E h => ?_) (fun cdv A outer s₀ H vs Q E hr h => ?_), gf, F.kp, bf⟩
  · obtain ⟨x, m, rfl, _⟩ := h; rfl
  · obtain ⟨x, m, rfl, xl, hm, q⟩ := h
    refine ⟨_, (pss_cons (ps_if (PW.pt (pw_or (pt_cmpR op_eq (pv 0) pe_str (nomark _)) (pw_or (pt_cmpR op_gt (pe_callB call_lenS (by rfl) T.n_len PySem.boot_len (pa_cons (pv 0) pa_nil)) (pv 1) (nomark _)) (pw_or1 (pt_not (pt_val (pe_callB (cr_all rfl) (by rfl) T.n_all (by decide +kernel) (pa_cons (pe_lc (own := [("sign", 2)]) (g := gName 2) (tt := tYes) rfl sc_number_of.nd (pi_str (pv 0)) (blkOk_by (own := [("sign", 2)]) (N := N_number_of) (sc := defScope s_number_of) (by decide +kernel)) (fun _ _ _ _ _ => pg_name (i := 2) sc_number_of.nd rfl (Or.inl rfl)) (fun _ _ _ _ _ => pts_nil) (fun _ _ _ _ _ => (pe_cmpR op_in_sign (pv 2) (pe_glob (v := .str ("0123456789")) (by rfl) h_DIGITS ⟨_, rfl⟩) (by rfl)))) pa_nil))))))))
      (pss_one (ps_ret pe_non))
      pss_nil)
      (pss_cons (ps_if (PW.pt (pw_and (pt_cmpR op_eq (pe_item_str (pv 0) pe_int (fun _ _ => rfl)) pe_str (nomark _)) (pw_and1 (pt_cmpR op_ne (pv 0) pe_str (nomark _)))))
      (pss_one (ps_ret pe_non))
      pss_nil)
      (pss_one (ps_ret (pe_callTy call_int_str (by rfl) T.n_int (by decide +kernel) (pa_cons (pv 0) pa_nil)))))), ?_⟩
    have small : ∀ n : Nat, n ≤ 30000 → n < sizeLine := fun n h => Nat.lt_of_le_of_lt h (by decide)
    have lx := tl_len x
    have none_ : nOk m (tl x) = false → ∀ H', Same H H' → Q .non H' := fun e H' m => by
      have := q H' m
      unfold nV at this
      rw [if_neg (by rw [e]; exact Bool.false_ne_true)] at this; exact this
    have no : ¬ (tl x ≠ [] ∧ (tl x).length ≤ m ∧ (tl x).all dgt = true ∧ ¬ ((tl x).head? = some 48 ∧ tl x ≠ [48])) → nOk m (tl x) = false := fun h => by
      cases e : nOk m (tl x) with
      | false => rfl
      | true => exact absurd ((nOk_iff m _).mp e) h
    refine ⟨_, rfl, rfl, _, rfl, ite2 (fun cc => iteT ?_) (fun cc => ?_)⟩
    · have e : tl x = [] := eqL.mp (of_decide_eq_true cc)
      exact none_ (no fun h => h.1 e) H (Same.refl _)
    have ne : tl x ≠ [] := fun e => cc (decide_eq_true (eqL.mpr e))
    refine ⟨_, rfl, x, rfl, Nat.le_of_lt (small _ (by omega)), _, rfl, _, _, rfl, rfl, _, rfl, ite2 (fun c2 => iteT ?_) (fun c2 => ?_)⟩
    · have e := of_decide_eq_true c2
      exact none_ (no fun h => by have := h.2.1; omega) H (Same.refl _)
    have l6 : (tl x).length ≤ m := by
      have : ¬ (m : Int) < (x.length : Int) := fun e => c2 (decide_eq_true e)
      omega
    refine ⟨_, rfl, x, rfl, fun D hD => ?_⟩
    refine lc_str (l := tl x) (fun i H' => H' D = some (.lst ((((tl x).take i).map dgt).map V.bl)) ∧ Same H H') ⟨upd_same, same_new hD⟩ ?_ ?_
    · rintro i c H' hi ⟨h1, h2⟩
      have et : (tl x).take (i + 1) = (tl x).take i ++ [c] := by rw [List.take_add_one, hi]; rfl
      refine ⟨rfl, _, rfl, c, _, rfl, rfl, _, h1, by rw [List.length_map, List.length_map, List.length_take]; exact small _ (by omega), by rw [upd_same, et, List.map_append, List.map_append]; rfl, fun bb o hh => ?_⟩
      rw [upd_ne (ne_of_none hh hD)]; exact h2 _ _ hh
    · rintro H' ⟨h1, h2⟩
      rw [List.take_length] at h1
      refine ⟨D, _, rfl, SqL.of h1, _, rfl, ?_⟩
      rw [show (((tl x).map dgt)).all id = (tl x).all dgt by rw [List.all_map]; rfl]
      cases ha : (tl x).all dgt with
      | false => exact iteT (none_ (no fun h => by rw [ha] at h; exact absurd h.2.2.1 Bool.false_ne_true) _ h2)
      | true =>
        refine iteF ?_
        obtain ⟨c, hc, hh⟩ := head_at ne
        have ln : 0 < (tl x).length := List.length_pos_iff.mpr ne
        have fin : ¬ ((tl x).head? = some 48 ∧ tl x ≠ [48]) → ∃ a n, [V.str x] = [V.str a] ∧ PySem.intText? a = some n ∧ a.length ≤ 640 ∧ Q (.int n) H' := fun k => by
          have e : nOk m (tl x) = true := (nOk_iff m _).mpr ⟨ne, l6, ha, k⟩
          have := q H' h2
          unfold nV at this
          rw [if_pos e] at this
          exact ⟨x, _, rfl, isint ha ne (Nat.le_trans l6 (Nat.le_trans hm (by decide))), by omega, this⟩
        refine ⟨_, rfl, x, 0, c, rfl, rfl, by decide, by decide, by omega, hc, rfl, _, rfl, ite2 (fun c3 => ?_) (fun c3 => iteF ?_)⟩
        · have e3 : c = 48 := by have := eqL.mp (of_decide_eq_true c3); exact (List.cons.inj this).1
          refine ⟨_, rfl, rfl, _, rfl, ite2 (fun c4 => ?_) (fun c4 => ?_)⟩
          · refine none_ (no fun h => h.2.2.2 ⟨by rw [hh, e3], fun e => ?_⟩) _ h2
            have k : (!decide (V.str x = V.str (Str.ofString "0"))) = true := c4
            rw [decide_eq_true (eqL.mpr e)] at k; cases k
          · refine ⟨_, rfl, fin fun k => c4 ?_⟩
            rw [decide_eq_false fun e => k.2 (eqL.mp e)]; rfl
        · refine ⟨_, rfl, fin fun k => c3 (decide_eq_true (eqL.mpr ?_))⟩
          rw [hh] at k
          have := Option.some.inj k.1
          rw [this]; rfl
end
section
variable {P : Program} {w : World} {K : PySem.W.Frag} {mg : Str → Option Value} {base : Heap}
theorem ok_is_word (D : Df K mg "is_word" s_is_word ["text"]) (T : Tx mg)   : Cal P w K mg base "is_word" ["text"] 1 sp_is_word := by
  obtain ⟨t_DIGITS, h_DIGITS⟩ := T.c_DIGITS
  obtain ⟨t_LETTERS, h_LETTERS⟩ := T.c_LETTERS
  obtain ⟨f, fd, F, gf, bf⟩ := D
  refine ⟨f, fd, F.ok sc_is_word (fun vs H Q E h => ?_) (fun cdv A outer s₀ H vs Q E hr h => ?_), gf, F.kp, bf⟩
  · obtain ⟨x, rfl, _⟩ := h; rfl
  · obtain ⟨x, rfl, xl, q⟩ := h
    refine ⟨_, (pss_cons (ps_if (PW.pt (pw_or (pt_cmpR op_eq (pv 0) pe_str (nomark _)) (pw_or1 (pt_cmpR op_notIn_sign (pe_item_str (pv 0) pe_int (fun _ _ => rfl)) (pe_glob (v := .str ("abcdefghijklmnopqrstuvwxyz")) (by rfl) h_LETTERS ⟨_, rfl⟩) (by rfl)))))
      (pss_one (ps_ret pe_bl))
      pss_nil)
      (pss_one (ps_ret (pe_callB (cr_all rfl) (by rfl) T.n_all (by decide +kernel) (pa_cons (pe_lc (own := [("sign", 1)]) (g := gName 1) (tt := tYes) rfl sc_is_word.nd (pi_str (pv 0)) (blkOk_by (own := [("sign", 1)]) (N := N_is_word) (sc := defScope s_is_word) (by decide +kernel)) (fun _ _ _ _ _ => pg_name (i := 1) sc_is_word.nd rfl (Or.inl rfl)) (fun _ _ _ _ _ => pts_nil) (fun _ _ _ _ _ => (pe_or (pe_cmpR op_in_sign (pv 1) (pe_glob (v := .str ("abcdefghijklmnopqrstuvwxyz")) (by rfl) h_LETTERS ⟨_, rfl⟩) (by rfl)) (pe_one (pe_cmpR op_in_sign (pv 1) (pe_glob (v := .str ("0123456789")) (by rfl) h_DIGITS ⟨_, rfl⟩) (by rfl)))))) pa_nil))))), ?_⟩
    have small : ∀ n : Nat, n ≤ 30000 → n < sizeLine := fun n h => Nat.lt_of_le_of_lt h (by decide)
    have lx := tl_len x
    have no : ¬ (∃ c, (tl x).head? = some c ∧ ltr c = true ∧ (tl x).all alnum = true) → ∀ H', Same H H' → Q (.bl false) H' := fun h H' m => by
      have := q H' m
      cases e : plain (tl x) with
      | false => rw [e] at this; exact this
      | true => exact absurd ((plain_iff _).mp e) h
    refine ⟨_, rfl, rfl, _, rfl, ite2 (fun cc => iteT ?_) (fun cc => ?_)⟩
    · have e : tl x = [] := eqL.mp (of_decide_eq_true cc)
      exact no (fun ⟨c, h, _⟩ => (by rw [e] at h; cases h)) H (Same.refl _)
    have ne : tl x ≠ [] := fun e => cc (decide_eq_true (eqL.mpr e))
    obtain ⟨c, hc, hh⟩ := head_at ne
    have ln : 0 < (tl x).length := List.length_pos_iff.mpr ne
    refine ⟨_, rfl, x, 0, c, rfl, rfl, by decide, by decide, by omega, hc, c, _, rfl, rfl, _, rfl, ite2 (fun c2 => ?_) (fun c2 => ?_)⟩
    · have c2' : (!ltr c) = true := c2
      refine no (fun ⟨d, h, k, _⟩ => ?_) H (Same.refl _)
      rw [hh] at h; cases h; rw [k] at c2'; cases c2'
    have lc : ltr c = true := by
      cases e : ltr c with
      | true => rfl
      | false => exact absurd (show (!ltr c) = true by rw [e]; rfl) c2
    refine ⟨_, rfl, x, rfl, fun D hD => ?_⟩
    refine lc_str (l := tl x) (fun i H' => H' D = some (.lst ((((tl x).take i).map alnum).map V.bl)) ∧ Same H H') ⟨upd_same, same_new hD⟩ ?_ ?_
    · rintro i c H' hi ⟨h1, h2⟩
      have et : (tl x).take (i + 1) = (tl x).take i ++ [c] := by rw [List.take_add_one, hi]; rfl
      have fin : ∀ b : Bool, b = alnum c → ∃ acc, H' D = some (.lst acc) ∧ acc.length < sizeLine ∧ (upd H' D (.lst (acc ++ [.bl b]))) D = some (.lst ((((tl x).take (i + 1)).map alnum).map V.bl)) ∧ Same H (upd H' D (.lst (acc ++ [.bl b]))) := fun b hb => by
        subst hb
        refine ⟨_, h1, by rw [List.length_map, List.length_map, List.length_take]; exact small _ (by omega), by rw [upd_same, et, List.map_append, List.map_append]; rfl, fun bb o hh => ?_⟩
        rw [upd_ne (ne_of_none hh hD)]; exact h2 _ _ hh
      refine ⟨rfl, _, rfl, c, _, rfl, rfl, _, rfl, ite2 (fun k => fin true ?_) (fun k => ⟨_, rfl, c, _, rfl, rfl, fin (dgt c) ?_⟩)⟩
      · show true = (ltr c || dgt c); rw [show ltr c = true from k]; rfl
      · show dgt c = (ltr c || dgt c); rw [show ltr c = false from Bool.eq_false_iff.mpr k]; rfl
    · rintro H' ⟨h1, h2⟩
      rw [List.take_length] at h1
      refine ⟨D, _, rfl, SqL.of h1, ?_⟩
      rw [show (((tl x).map alnum)).all id = (tl x).all alnum by rw [List.all_map]; rfl]
      cases ha : (tl x).all alnum with
      | false => exact no (fun ⟨_, _, _, h⟩ => (by rw [ha] at h; cases h)) _ h2
      | true =>
        have := q H' h2
        rw [(plain_iff _).mpr ⟨c, hh, lc, ha⟩] at this; exact this
end
section
variable {P : Program} {w : World} {K : PySem.W.Frag} {mg : Str → Option Value} {base : Heap}
theorem ok_is_name (D : Df K mg "is_name" s_is_name ["text"]) (T : Tx mg)  (C_is_word : Cal P w K mg base "is_word" ["text"] 1 sp_is_word) : Cal P w K mg base "is_name" ["text"] 2 sp_is_name := by
  obtain ⟨f_is_word, fd_is_word, G_is_word, g_is_word, k_is_word, b_is_word⟩ := C_is_word
  obtain ⟨t_LONGEST_NAME, h_LONGEST_NAME⟩ := T.c_LONGEST_NAME
  obtain ⟨f, fd, F, gf, bf⟩ := D
  refine ⟨f, fd, F.ok sc_is_name (fun vs H Q E h => ?_) (fun cdv A outer s₀ H vs Q E hr h => ?_), gf, F.kp, bf⟩
  · obtain ⟨x, rfl, _⟩ := h; rfl
  · obtain ⟨x, rfl, xl, q⟩ := h
    refine ⟨_, (pss_one (ps_ret (pe_and (pe_cmpR op_le (pe_callB call_lenS (by rfl) T.n_len PySem.boot_len (pa_cons (pv 0) pa_nil)) (pe_glob (v := .int 8) (by rfl) h_LONGEST_NAME ⟨_, rfl⟩) (nomark _)) (pe_one (pe_call G_is_word (hr.mono (by decide)) (by rfl) g_is_word k_is_word b_is_word .nil pass0 (pa_cons (pv 0) pa_nil)))))), ?_⟩
    have small : ∀ n : Nat, n ≤ 30000 → n ≤ sizeLine := fun n h => Nat.le_trans h (by decide)
    have lx := tl_len x
    refine ⟨_, rfl, x, rfl, small _ (by omega), _, _, rfl, rfl, _, rfl, ite2 (fun k => ?_) (fun k => ?_)⟩
    · have l8 := of_decide_eq_true k
      refine ⟨_, rfl, x, rfl, xl, fun H' m => ?_⟩
      have := q H' m
      unfold nameB at this
      rw [decide_eq_true (show (tl x).length ≤ 8 by omega)] at this; exact this
    · have := q H (Same.refl _)
      unfold nameB at this
      rw [decide_eq_false (show ¬ (tl x).length ≤ 8 from fun h => k (decide_eq_true (show (x.length : Int) ≤ 8 by omega)))] at this; exact this

end
end Z
namespace Z
open PySem L2 SX
theorem iteGo {c : Bool} {A B : Prop} (h : c = true) (a : A) : if c = true then A else B := by rw [if_pos h]; exact a
theorem iteNo {c : Bool} {A B : Prop} (h : c = false) (b : B) : if c = true then A else B := by rw [if_neg (by rw [h]; exact Bool.false_ne_true)]; exact b
theorem tab_all : ∀ p ∈ tab_FORMS, rowOf tab_FORMS p.1 = some p.2 ∧ ((tl p.1 ∈ E4 ∧ p.2 = []) ∨ (tl p.1 ∈ K9 ∧ p.2 = [Str.ofString "key"]) ∨ (tl p.1 = OPN ∧ p.2 = [Str.ofString "name", Str.ofString "name"]) ∨ (tl p.1 = OFR ∧ p.2 = [Str.ofString "key", Str.ofString "hops", Str.ofString "date"])) := by decide +kernel
theorem tab_has : ∀ l ∈ E4 ++ (K9 ++ [OPN, OFR]), ∃ p ∈ tab_FORMS, tl p.1 = l := by decide +kernel
theorem e4_no : ∀ l ∈ E4, l ∉ K9 ∧ l ≠ OPN ∧ l ≠ OFR := by decide +kernel
theorem k9_no : ∀ l ∈ K9, l ∉ E4 ∧ l ≠ OPN ∧ l ≠ OFR := by decide +kernel
theorem opn_no : OPN ∉ E4 ∧ OPN ∉ K9 ∧ OPN ≠ OFR := by decide +kernel
theorem ofr_no : OFR ∉ E4 ∧ OFR ∉ K9 ∧ OFR ≠ OPN := by decide +kernel
theorem row_some {f : List Nat} {fs : List Str} (h : rowOf tab_FORMS (S f) = some fs) : (f ∈ E4 ∧ fs = []) ∨ (f ∈ K9 ∧ fs = [Str.ofString "key"]) ∨ (f = OPN ∧ fs = [Str.ofString "name", Str.ofString "name"]) ∨ (f = OFR ∧ fs = [Str.ofString "key", Str.ofString "hops", Str.ofString "date"]) := by
  unfold rowOf at h
  obtain ⟨p, hp, rfl⟩ := Option.map_eq_some_iff.mp h
  have m := List.mem_of_find?_eq_some hp
  have h2 := List.find?_some hp
  have e : p.1 = S f := of_decide_eq_true h2
  have := (tab_all p m).2
  rw [e, tl_S] at this
  exact this
theorem row_none {f : List Nat} (h : rowOf tab_FORMS (S f) = none) : f ∉ E4 ∧ f ∉ K9 ∧ f ≠ OPN ∧ f ≠ OFR := by
  have key : f ∉ E4 ++ (K9 ++ [OPN, OFR]) := fun m => by
    obtain ⟨p, hp, e⟩ := tab_has f m
    have := (tab_all p hp).1
    rw [show p.1 = S f from tl_ext (by rw [tl_S]; exact e), h] at this
    cases this
  simp only [List.mem_append, List.mem_cons, List.not_mem_nil, or_false, not_or] at key
  exact ⟨key.1, key.2.1, key.2.2.1, key.2.2.2⟩
theorem due_no {f : List Nat} {rest : List (List Nat)} (h : f ∉ E4 ∧ f ∉ K9 ∧ f ≠ OPN ∧ f ≠ OFR) : dueL (f :: rest) = none := by
  obtain ⟨h1, h2, h3, h4⟩ := h
  match rest with
  | [] => simp only [dueL]; rw [if_neg h1]
  | [a] => simp only [dueL]; rw [if_neg (fun c => h2 c.1)]
  | [a, b] => simp only [dueL]; rw [if_neg (fun c => h3 c.1)]
  | [a, b, c] => simp only [dueL]; rw [if_neg (fun c => h4 c.1)]
  | a :: b :: c :: d :: r => simp only [dueL]
theorem due_len {f : List Nat} {rest : List (List Nat)} {fs : List Str} (h : rowOf tab_FORMS (S f) = some fs) (hl : rest.length ≠ fs.length) : dueL (f :: rest) = none := by
  match rest with
  | [] => simp only [dueL]; rw [if_neg]; intro m; rcases row_some h with ⟨_, e⟩ | ⟨k, _⟩ | ⟨k, _⟩ | ⟨k, _⟩
          · rw [e] at hl; exact hl rfl
          · exact (e4_no f m).1 k
          · exact (e4_no f m).2.1 k
          · exact (e4_no f m).2.2 k
  | [a] => simp only [dueL]; rw [if_neg]; rintro ⟨m, _⟩; rcases row_some h with ⟨k, _⟩ | ⟨_, e⟩ | ⟨k, _⟩ | ⟨k, _⟩
           · exact (k9_no f m).1 k
           · rw [e] at hl; exact hl rfl
           · exact (k9_no f m).2.1 k
           · exact (k9_no f m).2.2 k
  | [a, b] => simp only [dueL]; rw [if_neg]; rintro ⟨rfl, _⟩; rcases row_some h with ⟨k, _⟩ | ⟨k, _⟩ | ⟨_, e⟩ | ⟨k, _⟩
              · exact opn_no.1 k
              · exact opn_no.2.1 k
              · rw [e] at hl; exact hl rfl
              · exact opn_no.2.2 k
  | [a, b, c] => simp only [dueL]; rw [if_neg]; rintro ⟨rfl, _⟩; rcases row_some h with ⟨k, _⟩ | ⟨k, _⟩ | ⟨k, _⟩ | ⟨_, e⟩
                 · exact ofr_no.1 k
                 · exact ofr_no.2.1 k
                 · exact ofr_no.2.2 k
                 · rw [e] at hl; exact hl rfl
  | a :: b :: c :: d :: r => simp only [dueL]
theorem pv_name (l : List Nat) : partV (Str.ofString "name") l = if nameB l = true then .str (S l) else .non := by unfold partV; rw [if_pos rfl]
theorem pv_key (l : List Nat) : partV (Str.ofString "key") l = if keyB l = true then .str (S l) else .non := by unfold partV; rw [if_neg (by decide), if_pos rfl]
theorem pv_hops (l : List Nat) : partV (Str.ofString "hops") l = nV 3 l := by unfold partV; rw [if_neg (by decide), if_neg (by decide), if_pos rfl]
theorem pv_date (l : List Nat) : partV (Str.ofString "date") l = nV 7 l := by unfold partV; rw [if_neg (by decide), if_neg (by decide), if_neg (by decide)]
theorem due_is {f : List Nat} {rest : List (List Nat)} {fs : List Str} (h : rowOf tab_FORMS (S f) = some fs) (hl : rest.length = fs.length) :
    (V.non ∈ List.zipWith partV fs rest → dueL (f :: rest) = none) ∧ (V.non ∉ List.zipWith partV fs rest → ∃ ds, dueL (f :: rest) = some ds ∧ ds.map dV = .str (S f) :: List.zipWith partV fs rest) := by
  rcases row_some h with ⟨k, rfl⟩ | ⟨k, rfl⟩ | ⟨k, rfl⟩ | ⟨k, rfl⟩
  · match rest, hl with
    | [], _ =>
      refine ⟨(fun m => nomatch m), fun _ => ⟨_, by simp only [dueL]; rw [if_pos k], rfl⟩⟩
  · match rest, hl with
    | [a], _ =>
      show (V.non ∈ [partV _ a] → _) ∧ (V.non ∉ [partV _ a] → ∃ ds : List D, _ ∧ ds.map dV = .str (S f) :: [partV _ a])
      rw [pv_key]
      by_cases c : keyB a = true
      · rw [if_pos c]
        exact ⟨(fun m => nomatch List.mem_singleton.mp m), fun _ => ⟨_, by simp only [dueL]; rw [if_pos ⟨k, c⟩], rfl⟩⟩
      · rw [if_neg c]
        exact ⟨fun _ => by simp only [dueL]; rw [if_neg fun e => c e.2], fun m => absurd (by simp) m⟩
  · match rest, hl with
    | [a, b], _ =>
      show (V.non ∈ [partV _ a, partV _ b] → _) ∧ (V.non ∉ [partV _ a, partV _ b] → ∃ ds : List D, _ ∧ ds.map dV = .str (S f) :: [partV _ a, partV _ b])
      rw [pv_name, pv_name]
      by_cases c : nameB a = true
      · by_cases c2 : nameB b = true
        · rw [if_pos c, if_pos c2]
          exact ⟨fun m => by simp at m, fun _ => ⟨_, by simp only [dueL]; rw [if_pos ⟨k, c, c2⟩], rfl⟩⟩
        · rw [if_neg c2]
          exact ⟨fun _ => by simp only [dueL]; rw [if_neg fun e => c2 e.2.2], fun m => absurd (by simp) m⟩
      · rw [if_neg c]
        exact ⟨fun _ => by simp only [dueL]; rw [if_neg fun e => c e.2.1], fun m => absurd (by simp) m⟩
  · match rest, hl with
    | [a, b, d], _ =>
      show (V.non ∈ [partV _ a, partV _ b, partV _ d] → _) ∧ (V.non ∉ [partV _ a, partV _ b, partV _ d] → ∃ ds : List D, _ ∧ ds.map dV = .str (S f) :: [partV _ a, partV _ b, partV _ d])
      rw [pv_key, pv_hops, pv_date]
      unfold nV
      by_cases c : keyB a = true
      · by_cases c2 : nOk 3 b = true
        · by_cases c3 : nOk 7 d = true
          · rw [if_pos c, if_pos c2, if_pos c3]
            exact ⟨fun m => by simp at m, fun _ => ⟨_, by simp only [dueL]; rw [if_pos ⟨k, c, c2, c3⟩], rfl⟩⟩
          · rw [if_neg c3]
            exact ⟨fun _ => by simp only [dueL]; rw [if_neg fun e => c3 e.2.2.2], fun m => absurd (by simp) m⟩
        · rw [if_neg c2]
          exact ⟨fun _ => by simp only [dueL]; rw [if_neg fun e => c2 e.2.2.1], fun m => absurd (by simp) m⟩
      · rw [if_neg c]
        exact ⟨fun _ => by simp only [dueL]; rw [if_neg fun e => c e.2.1], fun m => absurd (by simp) m⟩
theorem pv_flat (f : Str) (l : List Nat) : flatV (partV f l) = true := by
  unfold partV nV
  repeat' split
  all_goals rfl
theorem inV_non {vs : List V} : inV .non vs = decide (V.non ∈ vs) := by
  unfold inV
  rw [Bool.eq_iff_iff, List.any_eq_true, decide_eq_true_iff]
  constructor
  · rintro ⟨v, m, e⟩
    cases v with
    | non => exact m
    | _ => cases e
  · intro m; exact ⟨_, m, rfl⟩
section
variable {P : Program} {w : World} {K : PySem.W.Frag} {mg : Str → Option Value} {base : Heap}
theorem ok_is_row (D : Df K mg "is_row" s_is_row ["text", "longest"]) (T : Tx mg)   : Cal P w K mg base "is_row" ["text", "longest"] 1 sp39_is_row := by
  obtain ⟨t_CHARACTERS, h_CHARACTERS⟩ := T.c_CHARACTERS
  obtain ⟨f, fd, F, gf, bf⟩ := D
  refine ⟨f, fd, F.ok sc_is_row (fun vs H Q E h => ?_) (fun cdv A outer s₀ H vs Q E hr h => ?_), gf, F.kp, bf⟩
  · obtain ⟨x, m, rfl, _⟩ := h; rfl
  · obtain ⟨x, m, rfl, xl, hr', q⟩ := h
    refine ⟨_, (pss_one (ps_ret (pe_and (pe_cmpR op_le (pe_callB call_lenS (by rfl) T.n_len PySem.boot_len (pa_cons (pv 0) pa_nil)) (pv 1) (nomark _)) (pe_one (pe_callB (cr_all rfl) (by rfl) T.n_all (by decide +kernel) (pa_cons (pe_lc (own := [("sign", 2)]) (g := gName 2) (tt := tYes) rfl sc_is_row.nd (pi_str (pv 0)) (blkOk_by (own := [("sign", 2)]) (N := N_is_row) (sc := defScope s_is_row) (by decide +kernel)) (fun _ _ _ _ _ => pg_name (i := 2) sc_is_row.nd rfl (Or.inl rfl)) (fun _ _ _ _ _ => pts_nil) (fun _ _ _ _ _ => (pe_cmpR op_in_sign (pv 2) (pe_glob (v := .str (" !\"#$&'()*+,-./0123456789:;<=>?@ABCDEFGHIJKLMNOPQRSTUVWXYZ[\\]^_`abcdefghijklmnopqrstuvwxyz{|}~")) (by rfl) h_CHARACTERS ⟨_, rfl⟩) (by rfl)))) pa_nil)))))), ?_⟩
    have small : ∀ n : Nat, n ≤ 30000 → n < sizeLine := fun n h => Nat.lt_of_le_of_lt h (by decide)
    have lx := tl_len x
    refine ⟨_, rfl, x, rfl, Nat.le_of_lt (small _ (by omega)), _, rfl, _, _, rfl, rfl, _, rfl, ite2 (fun k => ?_) (fun k => ?_)⟩
    · have lm := of_decide_eq_true k
      refine ⟨_, rfl, x, rfl, fun D hD => ?_⟩
      refine lc_str (l := tl x) (fun i H' => H' D = some (.lst ((((tl x).take i).map rch).map V.bl)) ∧ Same H H') ⟨upd_same, same_new hD⟩ ?_ ?_
      · rintro i c H' hi ⟨h1, h2⟩
        have et : (tl x).take (i + 1) = (tl x).take i ++ [c] := by rw [List.take_add_one, hi]; rfl
        refine ⟨rfl, _, rfl, c, _, rfl, rfl, _, h1, by rw [List.length_map, List.length_map, List.length_take]; exact small _ (by omega), by rw [upd_same, et, List.map_append, List.map_append]; rfl, fun bb o hh => ?_⟩
        rw [upd_ne (ne_of_none hh hD)]; exact h2 _ _ hh
      · rintro H' ⟨h1, h2⟩
        rw [List.take_length] at h1
        refine ⟨D, _, rfl, SqL.of h1, ?_⟩
        rw [show (((tl x).map rch)).all id = (tl x).all rch by rw [List.all_map]; rfl, List.all_eq_true.mpr hr']
        have := q H' h2
        rw [decide_eq_true (show (tl x).length ≤ m by omega)] at this
        exact this
    · have := q H (Same.refl _)
      rw [decide_eq_false (show ¬ (tl x).length ≤ m from fun h => k (decide_eq_true (show (x.length : Int) ≤ (m : Int) by omega)))] at this; exact this
end
section
variable {P : Program} {w : World} {K : PySem.W.Frag} {mg : Str → Option Value} {base : Heap}
theorem ok_is_key (D : Df K mg "is_key" s_is_key ["text"]) (T : Tx mg)  (C_is_row : Cal P w K mg base "is_row" ["text", "longest"] 1 sp39_is_row) : Cal P w K mg base "is_key" ["text"] 2 sp39_is_key := by
  obtain ⟨f_is_row, fd_is_row, G_is_row, g_is_row, k_is_row, b_is_row⟩ := C_is_row
  obtain ⟨t_LONGEST_KEY, h_LONGEST_KEY⟩ := T.c_LONGEST_KEY
  obtain ⟨f, fd, F, gf, bf⟩ := D
  refine ⟨f, fd, F.ok sc_is_key (fun vs H Q E h => ?_) (fun cdv A outer s₀ H vs Q E hr h => ?_), gf, F.kp, bf⟩
  · obtain ⟨x, rfl, _⟩ := h; rfl
  · obtain ⟨x, rfl, xl, hr', q⟩ := h
    refine ⟨_, (pss_one (ps_ret (pe_and (pe_cmpR op_ne (pv 0) pe_str (nomark _)) (pe_one (pe_call G_is_row (hr.mono (by decide)) (by rfl) g_is_row k_is_row b_is_row .nil pass0 (pa_cons (pv 0) (pa_cons (pe_glob (v := .int 60) (by rfl) h_LONGEST_KEY ⟨_, rfl⟩) pa_nil))))))), ?_⟩
    refine ⟨_, rfl, rfl, _, rfl, ite2 (fun k => ?_) (fun k => ?_)⟩
    · have ne : tl x ≠ [] := fun e => by
        have k' : (!decide (V.str x = V.str (Str.ofString ""))) = true := k
        rw [decide_eq_true (eqL.mpr e)] at k'; cases k'
      refine ⟨_, rfl, x, 60, rfl, xl, hr', fun H' m => ?_⟩
      have := q H' m
      unfold keyB at this
      rw [decide_eq_true ne] at this
      exact this
    · have e : tl x = [] := by
        by_cases e : tl x = []
        · exact e
        · refine absurd (show (!decide (V.str x = V.str (Str.ofString ""))) = true from ?_) k
          rw [decide_eq_false fun h => e (eqL.mp h)]; rfl
      have := q H (Same.refl _)
      unfold keyB at this
      rw [decide_eq_false (fun h => h e)] at this
      exact this
end
section
variable {P : Program} {w : World} {K : PySem.W.Frag} {mg : Str → Option Value} {base : Heap}
theorem ok_read_part (D : Df K mg "read_part" s_read_part ["form", "text"]) (T : Tx mg)  (C_is_key : Cal P w K mg base "is_key" ["text"] 2 sp39_is_key) (C_is_name : Cal P w K mg base "is_name" ["text"] 2 sp_is_name) (C_number_of : Cal P w K mg base "number_of" ["text", "longest"] 1 sp39_number_of) : Cal P w K mg base "read_part" ["form", "text"] 3 sp39_read_part := by
  obtain ⟨f_is_key, fd_is_key, G_is_key, g_is_key, k_is_key, b_is_key⟩ := C_is_key
  obtain ⟨f_is_name, fd_is_name, G_is_name, g_is_name, k_is_name, b_is_name⟩ := C_is_name
  obtain ⟨f_number_of, fd_number_of, G_number_of, g_number_of, k_number_of, b_number_of⟩ := C_number_of
  obtain ⟨t_LONGEST_DATE, h_LONGEST_DATE⟩ := T.c_LONGEST_DATE
  obtain ⟨t_LONGEST_HOPS, h_LONGEST_HOPS⟩ := T.c_LONGEST_HOPS
  obtain ⟨f, fd, F, gf, bf⟩ := D
  refine ⟨f, fd, F.ok sc_read_part (fun vs H Q E h => ?_) (fun cdv A outer s₀ H vs Q E hr h => ?_), gf, F.kp, bf⟩
  · obtain ⟨f, x, rfl, _⟩ := h; rfl
  · obtain ⟨f, x, rfl, xl, hr', q⟩ := h
    refine ⟨_, (pss_cons (ps_if (pt_cmpR op_eq (pv 0) pe_str (nomark _))
      (pss_one (ps_ret (pe_ifExp (pt_val (pe_call G_is_name (hr.mono (by decide)) (by rfl) g_is_name k_is_name b_is_name .nil pass0 (pa_cons (pv 1) pa_nil))) (pv 1) pe_non)))
      pss_nil)
      (pss_cons (ps_if (pt_cmpR op_eq (pv 0) pe_str (nomark _))
      (pss_one (ps_ret (pe_ifExp (pt_val (pe_call G_is_key (hr.mono (by decide)) (by rfl) g_is_key k_is_key b_is_key .nil pass0 (pa_cons (pv 1) pa_nil))) (pv 1) pe_non)))
      pss_nil)
      (pss_one (ps_ret (pe_call G_number_of (hr.mono (by decide)) (by rfl) g_number_of k_number_of b_number_of .nil pass0 (pa_cons (pv 1) (pa_cons (pe_ifExp (pt_cmpR op_eq (pv 0) pe_str (nomark _)) (pe_glob (v := .int 3) (by rfl) h_LONGEST_HOPS ⟨_, rfl⟩) (pe_glob (v := .int 7) (by rfl) h_LONGEST_DATE ⟨_, rfl⟩)) pa_nil))))))), ?_⟩
    refine ⟨_, rfl, rfl, _, rfl, ite2 (fun cc => ?_) (fun cc => ?_)⟩
    · obtain rfl : f = Str.ofString "name" := by injection of_decide_eq_true cc
      refine ⟨_, rfl, x, rfl, xl, fun H' m => ⟨_, rfl, ?_⟩⟩
      have := q H' m
      rw [pv_name] at this
      refine ite2 (fun k => ⟨_, rfl, ?_⟩) (fun k => ?_)
      · rw [if_pos k, show S (tl x) = x from tl_ext (tl_S _)] at this; exact this
      · rw [if_neg k] at this; exact this
    have n1 : f ≠ Str.ofString "name" := fun e => cc (decide_eq_true (by rw [e]))
    refine ⟨_, rfl, rfl, _, rfl, ite2 (fun c2 => ?_) (fun c2 => ?_)⟩
    · obtain rfl : f = Str.ofString "key" := by injection of_decide_eq_true c2
      refine ⟨_, rfl, x, rfl, xl, hr', fun H' m => ⟨_, rfl, ?_⟩⟩
      have := q H' m
      rw [pv_key] at this
      refine ite2 (fun k => ⟨_, rfl, ?_⟩) (fun k => ?_)
      · rw [if_pos k, show S (tl x) = x from tl_ext (tl_S _)] at this; exact this
      · rw [if_neg k] at this; exact this
    have n2 : f ≠ Str.ofString "key" := fun e => c2 (decide_eq_true (by rw [e]))
    refine ⟨_, rfl, _, rfl, rfl, _, rfl, ite2 (fun c3 => ?_) (fun c3 => ?_)⟩
    · obtain rfl : f = Str.ofString "hops" := by injection of_decide_eq_true c3
      refine ⟨x, 3, rfl, xl, by decide, fun H' m => ?_⟩
      have := q H' m
      rw [pv_hops] at this
      exact this
    · have n3 : f ≠ Str.ofString "hops" := fun e => c3 (decide_eq_true (by rw [e]))
      refine ⟨x, 7, rfl, xl, by decide, fun H' m => ?_⟩
      have := q H' m
      unfold partV at this
      rw [if_neg n1, if_neg n2, if_neg n3] at this
      exact this
end
section
variable {P : Program} {w : World} {K : PySem.W.Frag} {mg : Str → Option Value} {base : Heap}
theorem ok_read_word (D : Df K mg "read_word" s_read_word ["word"]) (T : Tx mg) {A_MootError A_TextError A_LimitError A_BadWord : Addr} (Y : Tc K mg A_MootError A_TextError A_LimitError A_BadWord) {A_FORMS : Addr} (W : Tw K w mg A_FORMS) (C_read_part : Cal P w K mg base "read_part" ["form", "text"] 3 sp39_read_part) : CalX P w K mg base "read_word" ["word"] 4 (sp39_read_word K A_BadWord) := by
  obtain ⟨f_read_part, fd_read_part, G_read_part, g_read_part, k_read_part, b_read_part⟩ := C_read_part
  obtain ⟨fI_BadWord, fdI_BadWord, FI_BadWord, iC_BadWord, tI_BadWord, bI_BadWord⟩ := Y.i_BadWord
  obtain ⟨f, fd, F, gf, bf⟩ := D
  refine ⟨f, fd, F.okX sc_read_word (fun vs H Q E h => ?_) (fun cdv A outer s₀ H vs Q E hr h => ?_), gf, F.kp, bf⟩
  · obtain ⟨x, rfl, _⟩ := h; rfl
  · obtain ⟨x, rfl, xl, hr', qn, qe⟩ := h
    refine ⟨_, (pss_cons (ps_set (i := 1) sc_read_word.nd rfl (Or.inl rfl) (pe_split (pv 0) pe_str))
      (pss_cons (ps_set (i := 2) sc_read_word.nd rfl (Or.inl rfl) (pe_tget W.t_FORMS (pe_glob (v := .ref A_FORMS) (by rfl) W.g_FORMS rfl) (pe_ix ix_list (pv 1) pe_int (fun _ _ => rfl)) ⟨rfl, rfl, rfl, rfl⟩))
      (pss_cons (ps_if (PW.pt (pw_or (pt_cmpR op_isN (pv 2) pe_non (nomark _)) (pw_or1 (pt_cmpR op_ne (pe_callB call_len_seq (by rfl) T.n_len PySem.boot_len (pa_cons (pv 1) pa_nil)) (pe_op op_add pe_int (pe_callB call_len_seq (by rfl) T.n_len PySem.boot_len (pa_cons (pv 2) pa_nil))) (nomark _)))))
      (pss_one (ps_raise rfl (takes_of rfl rfl rfl rfl) (pmk_oex (dvs := []) Y.e_BadWord.o iC_BadWord tI_BadWord (ok_init_BadWord (C := A_BadWord) FI_BadWord) (hr.mono (by decide)) bI_BadWord .nil pass0 (by rfl) Y.g_BadWord (pa_cons (pv 0) pa_nil))))
      pss_nil)
      (pss_cons (ps_setLc (i := 3) (own := [("form", 4), ("text", 5)]) (g := gTup K 2 (gCons (gName 4) (gCons (gName 5) gNil))) (tt := tYes) rfl sc_read_word.nd rfl rfl (sw_true rfl rfl rfl (by decide +kernel)) (pi_zipM (by rfl) T.n_zip (pa_cons (pv 2) (pa_cons (pe_slice sl_list (pv 1) (po_some pe_int) po_none) pa_nil))) (blkOk_by (own := [("form", 4), ("text", 5)]) (N := N_read_word) (sc := defScope s_read_word) (by decide +kernel)) (fun _ _ _ _ _ => (pg_tup rfl (pgs_cons (pg_name (i := 4) sc_read_word.nd rfl (Or.inl rfl)) (pgs_cons (pg_name (i := 5) sc_read_word.nd rfl (Or.inl rfl)) pgs_nil)))) (fun _ _ _ _ _ => pts_nil) (fun _ _ _ _ _ => (pe_call G_read_part (hr.mono (by decide)) (by rfl) g_read_part k_read_part b_read_part .nil pass0 (pa_cons (pv 4) (pa_cons (pv 5) pa_nil)))))
      (pss_cons (ps_if (pt_cmpR op_in_seq pe_non (pv 3) (by rfl))
      (pss_one (ps_raise rfl (takes_of rfl rfl rfl rfl) (pmk_oex (dvs := []) Y.e_BadWord.o iC_BadWord tI_BadWord (ok_init_BadWord (C := A_BadWord) FI_BadWord) (hr.mono (by decide)) bI_BadWord .nil pass0 (by rfl) Y.g_BadWord (pa_cons (pv 0) pa_nil))))
      pss_nil)
      (pss_one (ps_ret (pe_op (op_cat (K := K) rfl) (pe_tup (pa_cons (pe_ix ix_list (pv 1) pe_int (fun _ _ => rfl)) pa_nil)) (pe_callTy call_tuple_of (by rfl) T.n_tuple (by decide +kernel) (pa_cons (pv 3) pa_nil)))))))))), ?_⟩
    have small : ∀ n : Nat, n ≤ 30000 → n < sizeLine := fun n h => Nat.lt_of_le_of_lt h (by decide)
    have lx := tl_len x
    have wn := wds_num (tl x)
    refine ⟨_, rfl, ⟨_, rfl⟩, x, Str.ofString " ", rfl, rfl, rfl, Nat.le_of_lt (small _ (by omega)), fun B hB => ?_⟩
    rw [split_sp]
    have m1 := same_new (o := HO.lst (((wds (tl x)).map S).map V.str)) hB
    have hB1 : (upd H B (HO.lst (((wds (tl x)).map S).map V.str))) B = some (.lst (((wds (tl x)).map S).map V.str)) := upd_same
    generalize (upd H B (HO.lst (((wds (tl x)).map S).map V.str))) = H1 at m1 hB1 ⊢
    obtain ⟨f, rest, hts⟩ : ∃ f rest, wds (tl x) = f :: rest := by
      cases h : wds (tl x) with
      | nil => exact absurd h (spl_ne _ _)
      | cons f r => exact ⟨f, r, rfl⟩
    have wl : ∀ q ∈ f :: rest, q.length ≤ (tl x).length ∧ Rw q := fun q m => by rw [← hts] at m; exact ⟨wds_len m, hr'.wd m⟩
    rw [hts] at hB1 qn qe wn
    refine ⟨rfl, _, rfl, B, _, _, .str (S f), rfl, rfl, SqL.of hB1, atI_nat (j := 0) rfl, S f, rfl, fun hn => ?_, fun fs t hr2 hS => ?_⟩
    · have due := due_no (rest := rest) (row_none hn)
      refine ⟨_, rfl, rfl, _, rfl, ?_⟩
      refine iteGo (by simp) (iteT ?_)
      refine ⟨_, rfl, by show 1 ≤ 1000; decide, fun a ha => ⟨a, _, rfl, Y.e_BadWord.o, Y.n_BadWord_word, upd_same, fun dx n ne => ⟨rfl, dx, _, upd_same, by rw [upd_ne ne]; exact upd_same, by rw [upd_ne ne] at n; exact n, ?_⟩⟩⟩
      rw [upd_ne ne] at n
      exact qe due dx _ (m1.trans (made_same ha n)) upd_same
    refine ⟨_, rfl, rfl, _, rfl, ?_⟩
    refine iteNo (by simp) ?_
    have l3 : fs.length ≤ 3 := by rcases row_some hr2 with ⟨_, e⟩ | ⟨_, e⟩ | ⟨_, e⟩ | ⟨_, e⟩ <;> rw [e] <;> decide
    refine ⟨_, rfl, B, _, rfl, .inl (SqL.of hB1), _, rfl, t, _, rfl, .inr hS, _, _, rfl, rfl, rfl, _, rfl, ite2 (fun cc => ?_) (fun cc => ?_)⟩
    · have cc' : (!decide (V.int ((((f :: rest).map S).map V.str).length : Int) = V.int (1 + ((fs.map V.str).length : Int)))) = true := cc
      have ne2 : rest.length ≠ fs.length := fun e => by
        rw [decide_eq_true (by rw [List.length_map, List.length_map, List.length_map, List.length_cons, e]; congr 1; omega)] at cc'
        cases cc'
      have due := due_len hr2 ne2
      refine ⟨_, rfl, by show 1 ≤ 1000; decide, fun a ha => ⟨a, _, rfl, Y.e_BadWord.o, Y.n_BadWord_word, upd_same, fun dx n ne => ⟨rfl, dx, _, upd_same, by rw [upd_ne ne]; exact upd_same, by rw [upd_ne ne] at n; exact n, ?_⟩⟩⟩
      rw [upd_ne ne] at n
      exact qe due dx _ (m1.trans (made_same ha n)) upd_same
    have le : rest.length = fs.length := by
      by_cases e : rest.length = fs.length
      · exact e
      · refine absurd (show (!decide (V.int ((((f :: rest).map S).map V.str).length : Int) = V.int (1 + ((fs.map V.str).length : Int)))) = true from ?_) cc
        rw [decide_eq_false fun h => e ?_]; rfl
        have h' := V.int.inj h
        rw [List.length_map, List.length_map, List.length_map, List.length_cons] at h'
        omega
    refine ⟨_, rfl, _, rfl, 1, rfl, B, _, rfl, SqL.of hB1, fun M hM => ?_⟩
    have cv : cutV (((f :: rest).map S).map V.str) (some 1) none = (rest.map S).map V.str := by rw [cutV_from (by decide)]; rfl
    rw [cv]
    have m2 := same_new (o := HO.lst ((rest.map S).map V.str)) hM
    have hM2 : (upd H1 M (HO.lst ((rest.map S).map V.str))) M = some (.lst ((rest.map S).map V.str)) := upd_same
    generalize (upd H1 M (HO.lst ((rest.map S).map V.str))) = H2 at m2 hM2 ⊢
    refine ⟨t, M, _, _, rfl, m2.tup hS, SqL.of hM2, fun D hD => ?_⟩
    refine lc_zipM (K := K) (a := t) (b := M) (xs := fs.map V.str) (ys := (rest.map S).map V.str) (by rw [List.length_map, List.length_map, List.length_map, le]) (fun i H' => H' D = some (.lst ((List.zipWith partV fs rest).take i)) ∧ Same H2 H') ⟨upd_same, same_new hD⟩ (fun i H' _ h => ⟨h.2.tup (m2.tup hS), SqL.of (h.2 _ _ hM2)⟩) ?_ ?_
    · rintro i y z T H' hy hz ⟨h1, h2⟩ hT
      rw [List.getElem?_map] at hy
      rw [List.getElem?_map, List.getElem?_map] at hz
      obtain ⟨fo, hfo, rfl⟩ := Option.map_eq_some_iff.mp hy
      obtain ⟨sz, hsz, rfl⟩ := Option.map_eq_some_iff.mp hz
      obtain ⟨w', hw', rfl⟩ := Option.map_eq_some_iff.mp hsz
      have wm := wl w' (List.mem_cons_of_mem _ (List.mem_of_getElem? hw'))
      have nT := same_new (o := HO.tup [V.str fo, V.str (S w')]) hT
      have ez : (List.zipWith partV fs rest)[i]? = some (partV fo w') := by
        rw [List.getElem?_zipWith, hfo, hw']
      have et : (List.zipWith partV fs rest).take (i + 1) = (List.zipWith partV fs rest).take i ++ [partV fo w'] := by rw [List.take_add_one, ez]; rfl
      have ib := (List.getElem?_eq_some_iff.mp hfo).1
      refine ⟨T, _, rfl, SqT.of upd_same, rfl, _, _, rfl, _, _, rfl, rfl, rfl, _, rfl, _, rfl, fo, S w', rfl, by rw [tl_S]; omega, by rw [tl_S]; exact wm.2, fun H3 m3 => ?_⟩
      rw [tl_S]
      refine ⟨_, m3 _ _ (nT _ _ h1), by rw [List.length_take]; exact small _ (by omega), by rw [upd_same, et], fun bb o hh => ?_⟩
      rw [upd_ne (ne_of_none hh hD)]; exact m3 _ _ (nT _ _ (h2 _ _ hh))
    rintro H3 ⟨h3, m3⟩
    rw [List.take_of_length_le (by rw [List.length_zipWith, List.length_map]; omega)] at h3
    have du := due_is hr2 le
    have fl : (List.zipWith partV fs rest).all flatV = true := List.all_eq_true.mpr fun v m => by
      obtain ⟨i, hi⟩ := List.getElem?_of_mem m
      rw [List.getElem?_zipWith] at hi
      cases h1 : fs[i]? with
      | none => rw [h1] at hi; cases hi
      | some a =>
        cases h2 : rest[i]? with
        | none => rw [h1, h2] at hi; cases hi
        | some b => rw [h1, h2] at hi; cases hi; exact pv_flat _ _
    have ein := inV_non (vs := List.zipWith partV fs rest)
    refine ⟨_, rfl, D, _, rfl, .inl (SqL.of h3), rfl, fl, _, rfl, ite2 (fun c2 => ?_) (fun c2 => ?_)⟩
    · have c2' : inV .non (List.zipWith partV fs rest) = true := c2
      rw [ein] at c2'
      have due := du.1 (of_decide_eq_true c2')
      refine ⟨_, rfl, by show 1 ≤ 1000; decide, fun a ha => ⟨a, _, rfl, Y.e_BadWord.o, Y.n_BadWord_word, upd_same, fun dx n ne => ⟨rfl, dx, _, upd_same, by rw [upd_ne ne]; exact upd_same, by rw [upd_ne ne] at n; exact n, ?_⟩⟩⟩
      rw [upd_ne ne] at n
      exact qe due dx _ (m1.trans (m2.trans (m3.trans (made_same ha n)))) upd_same
    have c2' : ¬ inV .non (List.zipWith partV fs rest) = true := c2
    rw [ein] at c2'
    obtain ⟨ds, e1, e2⟩ := du.2 (by simpa using c2')
    have hB3 := m3 _ _ (m2 _ _ hB1)
    refine ⟨_, rfl, B, _, _, .str (S f), rfl, rfl, SqL.of hB3, atI_nat (j := 0) rfl, by show 1 ≤ sizeLine; decide, fun T1 hT1 => ?_⟩
    have n1 := same_new (o := HO.tup [V.str (S f)]) hT1
    refine ⟨_, rfl, D, _, rfl, .inl ⟨SqL.of (n1 _ _ h3), fun T2 hT2 => ?_⟩⟩
    have n2 := same_new (o := HO.tup (List.zipWith partV fs rest)) hT2
    refine ⟨T1, T2, _, _, rfl, rfl, SqT.of (n2 _ _ upd_same), SqT.of upd_same, Nat.le_of_lt (small _ (by rw [List.length_zipWith]; show 1 + _ ≤ _; omega)), fun p H4 m4 hp => ?_⟩
    have lf := (due_lf (fun q m => by have := (wl q m).1; omega) e1).1
    refine qn ds e1 (.ref p) H4 (m1.trans (m2.trans (m3.trans (n1.trans (n2.trans m4))))) ⟨p, _, rfl, hp, ?_⟩
    rw [show [V.str (S f)] ++ List.zipWith partV fs rest = ds.map dV from e2.symm]
    exact lf.dvs
end

end Z
namespace Z
open PySem L2 SX
theorem log_b {n : Nat} (h : n < 10 ^ 8) : (Int.natAbs (n : Int)).log2 < 1920 := by
  rw [Int.natAbs_natCast]
  by_cases e : n = 0
  · subst e; decide
  · exact (Nat.log2_lt e).mpr (Nat.lt_trans h (by decide))
theorem dot_starts (x : Str) : Txt.startswith x (Str.ofString ".") = decide ((tl x).take 1 = [46]) := by
  have e := StrLaws.subAt_one x 46 0
  have e0 : ((tl x)[0]? = some 46) ↔ (tl x).take 1 = [46] := by
    cases tl x with
    | nil => simp
    | cons y r => simp
  unfold Txt.startswith
  rw [Bool.eq_iff_iff, Bool.and_eq_true, decide_eq_true_iff, decide_eq_true_iff, ← e0]
  exact e
theorem memS {l : List Nat} {xs : List Str} : l ∈ xs.map tl ↔ S l ∈ xs := by
  rw [List.mem_map]
  exact ⟨fun ⟨x, m, e⟩ => by rw [show S l = x from tl_ext (by rw [tl_S]; exact e.symm)]; exact m, fun m => ⟨S l, m, tl_S l⟩⟩
def E4s : List Str := [Str.ofString ".", Str.ofString "close", Str.ofString "ready", Str.ofString "closed"]
def K9s : List Str := [Str.ofString "bring", Str.ofString "body", Str.ofString "clear", Str.ofString "want", Str.ofString "have", Str.ofString "old", Str.ofString "took", Str.ofString "spoilt", Str.ofString "cleared"]
theorem inE4 (f : List Nat) : inV (V.str (S f)) (E4s.map V.str) = decide (f ∈ E4) := by
  rw [inV_strs, decide_eq_decide, ← memS]; exact Iff.rfl
theorem inK9 (f : List Nat) : inV (V.str (S f)) (K9s.map V.str) = decide (f ∈ K9) := by
  rw [inV_strs, decide_eq_decide, ← memS]; exact Iff.rfl
section
variable {P : Program} {w : World} {K : PySem.W.Frag} {mg : Str → Option Value} {base : Heap}
theorem ok_write_word (D : Df K mg "write_word" s_write_word ["parts"]) (T : Tx mg)   : Cal P w K mg base "write_word" ["parts"] 1 (sp39_write_word K) := by
  obtain ⟨f, fd, F, gf, bf⟩ := D
  refine ⟨f, fd, F.ok sc_write_word (fun vs H Q E h => ?_) (fun cdv A outer s₀ H vs Q E hr h => ?_), gf, F.kp, bf⟩
  · obtain ⟨a, ds, rfl, _⟩ := h; rfl
  · obtain ⟨a, ds, rfl, hA, lf, dl, q⟩ := h
    refine ⟨_, (pss_one (ps_ret (pe_join pe_str (pe_lc (own := [("part", 1)]) (g := gName 1) (tt := tYes) rfl sc_write_word.nd (pi_tup (pv 0)) (blkOk_by (own := [("part", 1)]) (N := N_write_word) (sc := defScope s_write_word) (by decide +kernel)) (fun _ _ _ _ _ => pg_name (i := 1) sc_write_word.nd rfl (Or.inl rfl)) (fun _ _ _ _ _ => pts_nil) (fun _ _ _ _ _ => (pe_callTy call_strV (by rfl) T.n_str (by decide +kernel) (pa_cons (pv 1) pa_nil))))))), ?_⟩
    have small : ∀ n : Nat, n ≤ 30000 → n < sizeLine := fun n h => Nat.lt_of_le_of_lt h (by decide)
    refine ⟨⟨_, rfl⟩, _, rfl, a, rfl, ⟨_, hA⟩, fun D hD => ?_⟩
    refine lc_tup (K := K) (a := a) (xs := ds.map dV) (fun i H' => H' D = some (.lst ((((ds.take i).map fun d => S (dT d))).map V.str)) ∧ Same H H') ⟨upd_same, same_new hD⟩ (fun i H' _ h => h.2.tup hA) ?_ ?_
    · rintro i x H' hi ⟨h1, h2⟩
      rw [List.getElem?_map] at hi
      obtain ⟨d, hd, rfl⟩ := Option.map_eq_some_iff.mp hi
      have et : ds.take (i + 1) = ds.take i ++ [d] := by rw [List.take_add_one, hd]; rfl
      have ib := (List.getElem?_eq_some_iff.mp hd).1
      have fin : ∀ y : Str, y = S (dT d) → ∃ acc, H' D = some (.lst acc) ∧ acc.length < sizeLine ∧ (upd H' D (.lst (acc ++ [V.str y]))) D = some (.lst ((((ds.take (i + 1)).map fun d => S (dT d))).map V.str)) ∧ Same H (upd H' D (.lst (acc ++ [V.str y]))) := fun y e => by
        subst e
        refine ⟨_, h1, by rw [List.length_map, List.length_map, List.length_take]; exact small _ (by omega), by rw [upd_same, et, List.map_append, List.map_append]; rfl, fun bb o hh => ?_⟩
        rw [upd_ne (ne_of_none hh hD)]; exact h2 _ _ hh
      rcases lf d (List.mem_of_getElem? hd) with ⟨z, rfl, _⟩ | ⟨n, rfl, hn⟩
      · exact ⟨rfl, _, rfl, .inr ⟨z, rfl, fin z (tl_ext (tl_S _).symm)⟩⟩
      · refine ⟨rfl, _, rfl, .inl ⟨_, rfl, log_b hn, fin _ ?_⟩⟩
        show Str.ofString (toString ((n : Nat) : Int)) = S (TL.numL ((n : Int)).toNat)
        rw [num_S, Int.toNat_natCast]
    · rintro H' ⟨h1, h2⟩
      rw [List.length_map, List.take_length] at h1
      refine ⟨_, D, _, rfl, rfl, .inl (SqL.of h1), ?_, q _ H' ?_ h2⟩
      · have := sum_len (n := 2000) (xs := ds.map fun d => S (dT d)) fun x hx => by
          obtain ⟨d, hd, rfl⟩ := List.mem_map.mp hx
          rw [tl_S]
          rcases lf d hd with ⟨z, rfl, hz⟩ | ⟨n, rfl, hn⟩
          · exact hz
          · show (TL.numL ((n : Int)).toNat).length ≤ 2000
            rw [Int.toNat_natCast]
            exact Nat.le_trans (TL.numL_len (by decide) hn) (by decide)
        rw [List.length_map] at this ⊢
        show _ + ds.length * 1 ≤ _
        omega
      · rw [tl_joinS, List.map_map]
        congr 1
end
section
variable {P : Program} {w : World} {K : PySem.W.Frag} {mg : Str → Option Value} {base : Heap}
theorem ok_stuffed (D : Df K mg "stuffed" s_stuffed ["row"]) (T : Tx mg)   : Cal P w K mg base "stuffed" ["row"] 1 sp39_stuffed := by
  obtain ⟨f, fd, F, gf, bf⟩ := D
  refine ⟨f, fd, F.ok sc_stuffed (fun vs H Q E h => ?_) (fun cdv A outer s₀ H vs Q E hr h => ?_), gf, F.kp, bf⟩
  · obtain ⟨x, rfl, _⟩ := h; rfl
  · obtain ⟨x, rfl, xl, q⟩ := h
    refine ⟨_, (pss_one (ps_ret (pe_ifExp (pt_val (pe_m1 PySem.F.slot_str_startswith PySem.F.type_str_startswith mt_startswith (pv 0) pe_str)) (pe_op op_add_str pe_str (pv 0)) (pv 0)))), ?_⟩
    have small : ∀ n : Nat, n ≤ 30000 → n ≤ sizeLine := fun n h => Nat.le_trans h (by decide)
    have lx := tl_len x
    refine ⟨_, rfl, ⟨_, rfl⟩, _, _, rfl, rfl, _, rfl, ?_⟩
    rw [dot_starts]
    refine ite2 (fun cc => ?_) (fun cc => ?_)
    · refine ⟨_, rfl, _, _, rfl, rfl, small _ (by show 1 + _ ≤ _; omega), q _ ?_⟩
      unfold stuffL
      rw [tl_app, if_pos (of_decide_eq_true cc)]; rfl
    · refine ⟨_, rfl, q _ ?_⟩
      unfold stuffL
      rw [if_neg (fun e => cc (decide_eq_true e))]
end
section
variable {P : Program} {w : World} {K : PySem.W.Frag} {mg : Str → Option Value} {base : Heap}
theorem ok_unstuffed (D : Df K mg "unstuffed" s_unstuffed ["word"]) (T : Tx mg)   : Cal P w K mg base "unstuffed" ["word"] 1 sp39_unstuffed := by
  obtain ⟨f, fd, F, gf, bf⟩ := D
  refine ⟨f, fd, F.ok sc_unstuffed (fun vs H Q E h => ?_) (fun cdv A outer s₀ H vs Q E hr h => ?_), gf, F.kp, bf⟩
  · obtain ⟨x, rfl, _⟩ := h; rfl
  · obtain ⟨x, rfl, xl, q⟩ := h
    refine ⟨_, (pss_one (ps_ret (pe_ifExp (pt_val (pe_m1 PySem.F.slot_str_startswith PySem.F.type_str_startswith mt_startswith (pv 0) pe_str)) (pe_slice sl_str (pv 0) (po_some pe_int) po_none) (pv 0)))), ?_⟩
    have small : ∀ n : Nat, n ≤ 30000 → n ≤ sizeLine := fun n h => Nat.le_trans h (by decide)
    have lx := tl_len x
    refine ⟨_, rfl, ⟨_, rfl⟩, _, _, rfl, rfl, _, rfl, ?_⟩
    rw [dot_starts]
    refine ite2 (fun cc => ?_) (fun cc => ?_)
    · refine ⟨_, rfl, 1, rfl, x, rfl, small _ (by omega), q _ ?_⟩
      unfold unstL
      rw [if_pos (of_decide_eq_true cc)]; exact cutS_from (by decide)
    · refine ⟨_, rfl, q _ ?_⟩
      unfold unstL
      rw [if_neg (fun e => cc (decide_eq_true e))]
end
section
variable {P : Program} {w : World} {K : PySem.W.Frag} {mg : Str → Option Value} {base : Heap}
theorem ok__law_is_name (D : Df K mg "_law_is_name" s__law_is_name ["text"]) (T : Tx mg)   : Cal P w K mg base "_law_is_name" ["text"] 1 sp_is_name := by
  obtain ⟨f, fd, F, gf, bf⟩ := D
  refine ⟨f, fd, F.ok sc__law_is_name (fun vs H Q E h => ?_) (fun cdv A outer s₀ H vs Q E hr h => ?_), gf, F.kp, bf⟩
  · obtain ⟨x, rfl, _⟩ := h; rfl
  · obtain ⟨x, rfl, xl, q⟩ := h
    refine ⟨_, (pss_cons (ps_set (i := 1) sc__law_is_name.nd rfl (Or.inr rfl) pe_str)
      (pss_cons (ps_if (PW.pt (pw_or (pt_cmpR op_eq (pv 0) pe_str (nomark _)) (pw_or (pt_cmpR op_gt (pe_callB call_lenS (by rfl) T.n_len PySem.boot_len (pa_cons (pv 0) pa_nil)) pe_int (nomark _)) (pw_or1 (pt_cmpR op_notIn_sign (pe_item_str (pv 0) pe_int (fun _ _ => rfl)) (pv 1) (by rfl))))))
      (pss_one (ps_ret pe_bl))
      pss_nil)
      (pss_one (ps_ret (pe_cmpR op_notIn_seq pe_bl (pe_lc (own := [("sign", 2)]) (g := gName 2) (tt := tYes) rfl sc__law_is_name.nd (pi_str (pv 0)) (blkOk_by (own := [("sign", 2)]) (N := N__law_is_name) (sc := defScope s__law_is_name) (by decide +kernel)) (fun _ _ _ _ _ => pg_name (i := 2) sc__law_is_name.nd rfl (Or.inl rfl)) (fun _ _ _ _ _ => pts_nil) (fun _ _ _ _ _ => (pe_cmpR op_in_sign (pv 2) (pe_op op_add_str (pv 1) pe_str) (by rfl)))) (by rfl)))))), ?_⟩
    have small : ∀ n : Nat, n ≤ 30000 → n < sizeLine := fun n h => Nat.lt_of_le_of_lt h (by decide)
    have lx := tl_len x
    have no : ¬ ((tl x).length ≤ 8 ∧ ∃ c, (tl x).head? = some c ∧ ltr c = true ∧ (tl x).all alnum = true) → ∀ H', Same H H' → Q (.bl false) H' := fun h H' m => by
      have := q H' m
      cases e : nameB (tl x) with
      | false => rw [e] at this; exact this
      | true =>
        unfold nameB at e
        obtain ⟨e1, e2⟩ := Bool.and_eq_true_iff.mp e
        exact absurd ⟨of_decide_eq_true e1, (plain_iff _).mp e2⟩ h
    refine ⟨_, rfl, rfl, _, rfl, ite2 (fun cc => iteT ?_) (fun cc => ?_)⟩
    · have e : tl x = [] := eqL.mp (of_decide_eq_true cc)
      exact no (fun ⟨_, c, h, _⟩ => (by rw [e] at h; cases h)) H (Same.refl _)
    have ne : tl x ≠ [] := fun e => cc (decide_eq_true (eqL.mpr e))
    refine ⟨_, rfl, x, rfl, Nat.le_of_lt (small _ (by omega)), _, _, rfl, rfl, _, rfl, ite2 (fun c2 => iteT ?_) (fun c2 => ?_)⟩
    · have e := of_decide_eq_true c2
      exact no (fun h => by have := h.1; omega) H (Same.refl _)
    have l8 : (tl x).length ≤ 8 := by
      have : ¬ (8 : Int) < (x.length : Int) := fun e => c2 (decide_eq_true e)
      omega
    obtain ⟨c, hc, hh⟩ := head_at ne
    have ln : 0 < (tl x).length := List.length_pos_iff.mpr ne
    refine ⟨_, rfl, x, 0, c, rfl, rfl, by decide, by decide, by omega, hc, _, rfl, c, _, rfl, rfl, _, rfl, ite2 (fun c3 => ?_) (fun c3 => ?_)⟩
    · have c3' : (!ltr c) = true := c3
      refine no (fun ⟨_, d, h, k, _⟩ => ?_) H (Same.refl _)
      rw [hh] at h; cases h; rw [k] at c3'; cases c3'
    have lc : ltr c = true := by
      cases e : ltr c with
      | true => rfl
      | false => exact absurd (show (!ltr c) = true by rw [e]; rfl) c3
    have al : ∀ d, decide (d ∈ tl (Str.ofString "abcdefghijklmnopqrstuvwxyz" ++ Str.ofString "0123456789")) = alnum d := fun d => by
      rw [tl_app, Bool.eq_iff_iff, decide_eq_true_iff, List.mem_append]
      show _ ↔ (ltr d || dgt d) = true
      rw [Bool.or_eq_true]
      exact ⟨fun h => h.elim (fun k => .inl (decide_eq_true k)) (fun k => .inr (decide_eq_true k)), fun h => h.elim (fun k => .inl (of_decide_eq_true k)) (fun k => .inr (of_decide_eq_true k))⟩
    refine ⟨_, rfl, x, rfl, fun D hD => ?_⟩
    refine lc_str (l := tl x) (fun i H' => H' D = some (.lst ((((tl x).take i).map alnum).map V.bl)) ∧ Same H H') ⟨upd_same, same_new hD⟩ ?_ ?_
    · rintro i d H' hi ⟨h1, h2⟩
      have et : (tl x).take (i + 1) = (tl x).take i ++ [d] := by rw [List.take_add_one, hi]; rfl
      refine ⟨rfl, _, rfl, _, rfl, _, _, rfl, rfl, by decide +kernel, d, _, rfl, rfl, ?_⟩
      rw [al]
      refine ⟨_, h1, by rw [List.length_map, List.length_map, List.length_take]; exact small _ (by omega), by rw [upd_same, et, List.map_append, List.map_append]; rfl, fun bb o hh => ?_⟩
      rw [upd_ne (ne_of_none hh hD)]; exact h2 _ _ hh
    · rintro H' ⟨h1, h2⟩
      rw [List.take_length] at h1
      refine ⟨D, _, rfl, .inl (SqL.of h1), rfl, flat_bls _, ?_⟩
      show Q (.bl (!inV (V.bl false) (((tl x).map alnum).map V.bl))) H'
      rw [inV_bls, all_not, Bool.not_not]
      cases ha : (tl x).all alnum with
      | false => exact no (fun ⟨_, _, _, _, h⟩ => (by rw [ha] at h; cases h)) _ h2
      | true =>
        have := q H' h2
        unfold nameB at this
        rw [decide_eq_true l8, (plain_iff _).mpr ⟨c, hh, lc, ha⟩] at this; exact this
end
section
variable {P : Program} {w : World} {K : PySem.W.Frag} {mg : Str → Option Value} {base : Heap}
theorem ok__law_number (D : Df K mg "_law_number" s__law_number ["text", "digits"]) (T : Tx mg)   : Cal P w K mg base "_law_number" ["text", "digits"] 1 sp39_number_of := by
  obtain ⟨f, fd, F, gf, bf⟩ := D
  refine ⟨f, fd, F.ok sc__law_number (fun vs H Q E h => ?_) (fun cdv A outer s₀ H vs Q E hr h => ?_), gf, F.kp, bf⟩
  · obtain ⟨x, m, rfl, _⟩ := h; rfl
  · obtain ⟨x, m, rfl, xl, hm, q⟩ := h
    refine ⟨_, (pss_cons (ps_if (PW.pt (pw_or (pt_cmpR op_eq (pv 0) pe_str (nomark _)) (pw_or (pt_cmpR op_gt (pe_callB call_lenS (by rfl) T.n_len PySem.boot_len (pa_cons (pv 0) pa_nil)) (pv 1) (nomark _)) (pw_or1 (PW.pt (pw_and (pt_cmpR op_eq (pe_item_str (pv 0) pe_int (fun _ _ => rfl)) pe_str (nomark _)) (pw_and1 (pt_cmpR op_ne (pv 0) pe_str (nomark _)))))))))
      (pss_one (ps_ret pe_non))
      pss_nil)
      (pss_cons (ps_if (pt_cmpR op_in_seq pe_bl (pe_lc (own := [("sign", 2)]) (g := gName 2) (tt := tYes) rfl sc__law_number.nd (pi_str (pv 0)) (blkOk_by (own := [("sign", 2)]) (N := N__law_number) (sc := defScope s__law_number) (by decide +kernel)) (fun _ _ _ _ _ => pg_name (i := 2) sc__law_number.nd rfl (Or.inl rfl)) (fun _ _ _ _ _ => pts_nil) (fun _ _ _ _ _ => (pe_cmpR op_in_sign (pv 2) pe_str (by rfl)))) (by rfl))
      (pss_one (ps_ret pe_non))
      pss_nil)
      (pss_one (ps_ret (pe_callTy call_int_str (by rfl) T.n_int (by decide +kernel) (pa_cons (pv 0) pa_nil)))))), ?_⟩
    have small : ∀ n : Nat, n ≤ 30000 → n < sizeLine := fun n h => Nat.lt_of_le_of_lt h (by decide)
    have lx := tl_len x
    have none_ : nOk m (tl x) = false → ∀ H', Same H H' → Q .non H' := fun e H' mm => by
      have := q H' mm
      unfold nV at this
      rw [if_neg (by rw [e]; exact Bool.false_ne_true)] at this; exact this
    have no : ¬ (tl x ≠ [] ∧ (tl x).length ≤ m ∧ (tl x).all dgt = true ∧ ¬ ((tl x).head? = some 48 ∧ tl x ≠ [48])) → nOk m (tl x) = false := fun h => by
      cases e : nOk m (tl x) with
      | false => rfl
      | true => exact absurd ((nOk_iff m _).mp e) h
    refine ⟨_, rfl, rfl, _, rfl, ite2 (fun cc => iteT ?_) (fun cc => ?_)⟩
    · have e : tl x = [] := eqL.mp (of_decide_eq_true cc)
      exact none_ (no fun h => h.1 e) H (Same.refl _)
    have ne : tl x ≠ [] := fun e => cc (decide_eq_true (eqL.mpr e))
    refine ⟨_, rfl, x, rfl, Nat.le_of_lt (small _ (by omega)), _, rfl, _, _, rfl, rfl, _, rfl, ite2 (fun c2 => iteT ?_) (fun c2 => ?_)⟩
    · have e := of_decide_eq_true c2
      exact none_ (no fun h => by have := h.2.1; omega) H (Same.refl _)
    have l6 : (tl x).length ≤ m := by
      have : ¬ (m : Int) < (x.length : Int) := fun e => c2 (decide_eq_true e)
      omega
    obtain ⟨c, hc, hh⟩ := head_at ne
    have ln : 0 < (tl x).length := List.length_pos_iff.mpr ne
    have rest : ¬ ((tl x).head? = some 48 ∧ tl x ≠ [48]) → ∀ D : Addr, H D = none → ∃ D1 : Addr, D1 = D := fun _ D _ => ⟨D, rfl⟩
    refine ⟨_, rfl, x, 0, c, rfl, rfl, by decide, by decide, by omega, hc, rfl, _, rfl, ?_⟩
    have fin : ¬ ((tl x).head? = some 48 ∧ tl x ≠ [48]) → ∀ H', Same H H' → (tl x).all dgt = true → ∃ a n, [V.str x] = [V.str a] ∧ PySem.intText? a = some n ∧ a.length ≤ 640 ∧ Q (.int n) H' := fun k H' h2 ha => by
      have e : nOk m (tl x) = true := (nOk_iff m _).mpr ⟨ne, l6, ha, k⟩
      have := q H' h2
      unfold nV at this
      rw [if_pos e] at this
      exact ⟨x, _, rfl, isint ha ne (Nat.le_trans l6 (Nat.le_trans hm (by decide))), by omega, this⟩
    have step : ∀ D : Addr, H D = none → ∀ (i : Nat) (d : Nat) (H' : Hp), (tl x)[i]? = some d → H' D = some (.lst ((((tl x).take i).map dgt).map V.bl)) ∧ Same H H' → ∃ acc, H' D = some (.lst acc) ∧ acc.length < sizeLine ∧ (upd H' D (.lst (acc ++ [V.bl (dgt d)]))) D = some (.lst ((((tl x).take (i + 1)).map dgt).map V.bl)) ∧ Same H (upd H' D (.lst (acc ++ [V.bl (dgt d)]))) := fun D hD i d H' hi hh => by
      obtain ⟨h1, h2⟩ := hh
      have et : (tl x).take (i + 1) = (tl x).take i ++ [d] := by rw [List.take_add_one, hi]; rfl
      refine ⟨_, h1, by rw [List.length_map, List.length_map, List.length_take]; exact small _ (by omega), by rw [upd_same, et, List.map_append, List.map_append]; rfl, fun bb o hh => ?_⟩
      rw [upd_ne (ne_of_none hh hD)]; exact h2 _ _ hh
    refine ite2 (fun c3 => ?_) (fun c3 => iteF ?_)
    · have e3 : c = 48 := by have := eqL.mp (of_decide_eq_true c3); exact (List.cons.inj this).1
      refine ⟨_, rfl, rfl, _, rfl, ite2 (fun c4 => ?_) (fun c4 => ?_)⟩
      · refine none_ (no fun h => h.2.2.2 ⟨by rw [hh, e3], fun e => ?_⟩) _ (Same.refl _)
        have k : (!decide (V.str x = V.str (Str.ofString "0"))) = true := c4
        rw [decide_eq_true (eqL.mpr e)] at k; cases k
      · have k4 : ¬ ((tl x).head? = some 48 ∧ tl x ≠ [48]) := fun k => c4 (by
          show (!decide (V.str x = V.str (Str.ofString "0"))) = true
          rw [decide_eq_false fun e => k.2 (eqL.mp e)]; rfl)
        refine ⟨_, rfl, x, rfl, fun D hD => ?_⟩
        refine lc_str (l := tl x) (fun i H' => H' D = some (.lst ((((tl x).take i).map dgt).map V.bl)) ∧ Same H H') ⟨upd_same, same_new hD⟩ ?_ ?_
        · rintro i d H' hi hh
          exact ⟨rfl, _, rfl, d, _, rfl, rfl, step D hD i d H' hi hh⟩
        · rintro H' ⟨h1, h2⟩
          rw [List.take_length] at h1
          refine ⟨D, _, rfl, .inl (SqL.of h1), rfl, flat_bls _, _, rfl, ?_⟩
          have ei : inV (V.bl false) (((tl x).map dgt).map V.bl) = !((tl x).all dgt) := by rw [inV_bls, all_not]
          refine ite2 (fun c5 => ?_) (fun c5 => ?_)
          · have c5' : inV (V.bl false) (((tl x).map dgt).map V.bl) = true := c5
            rw [ei] at c5'
            exact none_ (no fun h => by rw [h.2.2.1] at c5'; cases c5') _ h2
          · have c5' : ¬ inV (V.bl false) (((tl x).map dgt).map V.bl) = true := c5
            rw [ei] at c5'
            exact ⟨_, rfl, fin k4 H' h2 (by simpa using c5')⟩
    · have k4 : ¬ ((tl x).head? = some 48 ∧ tl x ≠ [48]) := fun k => c3 (decide_eq_true (eqL.mpr (by
        rw [hh] at k
        have := Option.some.inj k.1
        rw [this]; rfl)))
      refine ⟨_, rfl, x, rfl, fun D hD => ?_⟩
      refine lc_str (l := tl x) (fun i H' => H' D = some (.lst ((((tl x).take i).map dgt).map V.bl)) ∧ Same H H') ⟨upd_same, same_new hD⟩ ?_ ?_
      · rintro i d H' hi hh
        exact ⟨rfl, _, rfl, d, _, rfl, rfl, step D hD i d H' hi hh⟩
      · rintro H' ⟨h1, h2⟩
        rw [List.take_length] at h1
        refine ⟨D, _, rfl, .inl (SqL.of h1), rfl, flat_bls _, _, rfl, ?_⟩
        have ei : inV (V.bl false) (((tl x).map dgt).map V.bl) = !((tl x).all dgt) := by rw [inV_bls, all_not]
        refine ite2 (fun c5 => ?_) (fun c5 => ?_)
        · have c5' : inV (V.bl false) (((tl x).map dgt).map V.bl) = true := c5
          rw [ei] at c5'
          exact none_ (no fun h => by rw [h.2.2.1] at c5'; cases c5') _ h2
        · have c5' : ¬ inV (V.bl false) (((tl x).map dgt).map V.bl) = true := c5
          rw [ei] at c5'
          exact ⟨_, rfl, fin k4 H' h2 (by simpa using c5')⟩
end

end Z
namespace Z
open PySem L2 SX
theorem lV {n : Nat} {m : Int} : decide (V.int (n : Int) = V.int m) = decide ((n : Int) = m) := by
  rw [decide_eq_decide]; exact ⟨fun h => V.int.inj h, fun h => by rw [h]⟩
theorem nokey {f a : List Nat} {r : List (List Nat)} (hk : keyB a = false) (nO : ∀ x y, a :: r = [x, y] → ¬ (f = OPN ∧ nameB x = true ∧ nameB y = true)) : dueL (f :: a :: r) = none := by
  match r with
  | [] => simp only [dueL]; rw [if_neg fun e => by rw [hk] at e; exact Bool.false_ne_true e.2]
  | [b] => simp only [dueL]; rw [if_neg (nO a b rfl)]
  | [h, d] => simp only [dueL]; rw [if_neg fun e => by rw [hk] at e; exact Bool.false_ne_true e.2.1]
  | x :: y :: z :: t => simp only [dueL]
section
variable {P : Program} {w : World} {K : PySem.W.Frag} {mg : Str → Option Value} {base : Heap}
theorem ok__law_parts (D : Df K mg "_law_parts" s__law_parts ["word"]) (T : Tx mg)  (C__law_is_name : Cal P w K mg base "_law_is_name" ["text"] 1 sp_is_name) (C__law_number : Cal P w K mg base "_law_number" ["text", "digits"] 1 sp39_number_of) : Cal P w K mg base "_law_parts" ["word"] 2 (sp39_law_parts K) := by
  obtain ⟨f__law_is_name, fd__law_is_name, G__law_is_name, g__law_is_name, k__law_is_name, b__law_is_name⟩ := C__law_is_name
  obtain ⟨f__law_number, fd__law_number, G__law_number, g__law_number, k__law_number, b__law_number⟩ := C__law_number
  obtain ⟨f, fd, F, gf, bf⟩ := D
  refine ⟨f, fd, F.ok sc__law_parts (fun vs H Q E h => ?_) (fun cdv A outer s₀ H vs Q E hr h => ?_), gf, F.kp, bf⟩
  · obtain ⟨x, rfl, _⟩ := h; rfl
  · obtain ⟨x, rfl, xl, q⟩ := h
    refine ⟨_, (pss_cons (ps_set (i := 1) sc__law_parts.nd rfl (Or.inl rfl) (pe_split (pv 0) pe_str))
      (pss_cons (ps_set (i := 2) sc__law_parts.nd rfl (Or.inl rfl) (pe_ix ix_list (pv 1) pe_int (fun _ _ => rfl)))
      (C8.pss_cut (ps_if (PW.pt (pw_and (pt_cmpR op_eq (pe_callB call_len_seq (by rfl) T.n_len PySem.boot_len (pa_cons (pv 1) pa_nil)) pe_int (nomark _)) (pw_and1 (pt_cmpR op_in_seq (pv 2) (pe_tup (pa_cons pe_str (pa_cons pe_str (pa_cons pe_str (pa_cons pe_str pa_nil))))) (by rfl)))))
      (pss_one (ps_ret (pe_tup (pa_cons (pv 2) pa_nil))))
      pss_nil)
      (C8.pss_cut (ps_if (PW.pt (pw_and (pt_cmpR op_eq (pe_callB call_len_seq (by rfl) T.n_len PySem.boot_len (pa_cons (pv 1) pa_nil)) pe_int (nomark _)) (pw_and (pt_cmpR op_eq (pv 2) pe_str (nomark _)) (pw_and (pt_val (pe_call G__law_is_name (hr.mono (by decide)) (by rfl) g__law_is_name k__law_is_name b__law_is_name .nil pass0 (pa_cons (pe_ix ix_list (pv 1) pe_int (fun _ _ => rfl)) pa_nil))) (pw_and1 (pt_val (pe_call G__law_is_name (hr.mono (by decide)) (by rfl) g__law_is_name k__law_is_name b__law_is_name .nil pass0 (pa_cons (pe_ix ix_list (pv 1) pe_int (fun _ _ => rfl)) pa_nil))))))))
      (pss_one (ps_ret (pe_tup (pa_cons (pv 2) (pa_cons (pe_ix ix_list (pv 1) pe_int (fun _ _ => rfl)) (pa_cons (pe_ix ix_list (pv 1) pe_int (fun _ _ => rfl)) pa_nil))))))
      pss_nil)
      (pss_cons (ps_if (PW.pt (pw_or (pt_cmpR op_lt (pe_callB call_len_seq (by rfl) T.n_len PySem.boot_len (pa_cons (pv 1) pa_nil)) pe_int (nomark _)) (pw_or (pt_cmpR op_lt (pe_callB call_lenS (by rfl) T.n_len PySem.boot_len (pa_cons (pe_ix ix_list (pv 1) pe_int (fun _ _ => rfl)) pa_nil)) pe_int (nomark _)) (pw_or1 (pt_cmpR op_gt (pe_callB call_lenS (by rfl) T.n_len PySem.boot_len (pa_cons (pe_ix ix_list (pv 1) pe_int (fun _ _ => rfl)) pa_nil)) pe_int (nomark _))))))
      (pss_one (ps_ret pe_non))
      pss_nil)
      (pss_cons (ps_set (i := 3) sc__law_parts.nd rfl (Or.inl rfl) (pe_tup (pa_cons pe_str (pa_cons pe_str (pa_cons pe_str (pa_cons pe_str (pa_cons pe_str (pa_cons pe_str (pa_cons pe_str (pa_cons pe_str (pa_cons pe_str pa_nil)))))))))))
      (C8.pss_cut (ps_if (PW.pt (pw_and (pt_cmpR op_eq (pe_callB call_len_seq (by rfl) T.n_len PySem.boot_len (pa_cons (pv 1) pa_nil)) pe_int (nomark _)) (pw_and1 (pt_cmpR op_in_seq (pv 2) (pv 3) (by rfl)))))
      (pss_one (ps_ret (pe_tup (pa_cons (pv 2) (pa_cons (pe_ix ix_list (pv 1) pe_int (fun _ _ => rfl)) pa_nil)))))
      pss_nil)
      (pss_cons (ps_if (PW.pt (pw_or (pt_cmpR op_ne (pe_callB call_len_seq (by rfl) T.n_len PySem.boot_len (pa_cons (pv 1) pa_nil)) pe_int (nomark _)) (pw_or1 (pt_cmpR op_ne (pv 2) pe_str (nomark _)))))
      (pss_one (ps_ret pe_non))
      pss_nil)
      (pss_cons (ps_set (i := 4) sc__law_parts.nd rfl (Or.inl rfl) (pe_call G__law_number (hr.mono (by decide)) (by rfl) g__law_number k__law_number b__law_number .nil pass0 (pa_cons (pe_ix ix_list (pv 1) pe_int (fun _ _ => rfl)) (pa_cons pe_int pa_nil))))
      (pss_cons (ps_set (i := 5) sc__law_parts.nd rfl (Or.inl rfl) (pe_call G__law_number (hr.mono (by decide)) (by rfl) g__law_number k__law_number b__law_number .nil pass0 (pa_cons (pe_ix ix_list (pv 1) pe_int (fun _ _ => rfl)) (pa_cons pe_int pa_nil))))
      (pss_cons (ps_if (PW.pt (pw_or (pt_cmpR op_isN (pv 4) pe_non (nomark _)) (pw_or1 (pt_cmpR op_isN (pv 5) pe_non (nomark _)))))
      (pss_one (ps_ret pe_non))
      pss_nil)
      (pss_one (ps_ret (pe_tup (pa_cons (pv 2) (pa_cons (pe_ix ix_list (pv 1) pe_int (fun _ _ => rfl)) (pa_cons (pv 4) (pa_cons (pv 5) pa_nil)))))))))))))))))), ?_⟩
    have small : ∀ n : Nat, n ≤ 30000 → n < sizeLine := fun n h => Nat.lt_of_le_of_lt h (by decide)
    have lx := tl_len x
    have wn := wds_num (tl x)
    refine ⟨_, rfl, ⟨_, rfl⟩, x, Str.ofString " ", rfl, rfl, rfl, Nat.le_of_lt (small _ (by omega)), fun B hB => ?_⟩
    rw [split_sp]
    have m1 := same_new (o := HO.lst (((wds (tl x)).map S).map V.str)) hB
    have hB1 : (upd H B (HO.lst (((wds (tl x)).map S).map V.str))) B = some (.lst (((wds (tl x)).map S).map V.str)) := upd_same
    generalize (upd H B (HO.lst (((wds (tl x)).map S).map V.str))) = H1 at m1 hB1 ⊢
    obtain ⟨f, rest, hts⟩ : ∃ f rest, wds (tl x) = f :: rest := by
      cases h : wds (tl x) with
      | nil => exact absurd h (spl_ne _ _)
      | cons f r => exact ⟨f, r, rfl⟩
    have wl : ∀ q ∈ f :: rest, q.length ≤ (tl x).length := fun q m => by rw [← hts] at m; exact wds_len m
    rw [hts] at hB1 wn
    have qs : ∀ ds u H', dueL (f :: rest) = some ds → Same H1 H' → DV K H' (.tup ds) u → Q u H' := fun ds u H' e mm d => q u H' (m1.trans mm) (by unfold dueD; rw [hts, e]; exact d)
    have qn : dueL (f :: rest) = none → ∀ H', Same H1 H' → Q .non H' := fun e H' mm => q .non H' (m1.trans mm) (by unfold dueD; rw [hts, e]; unfold DV; rfl)
    have L : (((f :: rest).map S).map V.str).length = rest.length + 1 := by simp
    refine ⟨_, rfl, B, _, _, .str (S f), rfl, rfl, SqL.of hB1, atI_nat (j := 0) rfl, ?_⟩
    -- one word
    refine ⟨fun σ' H' => σ' = [some (.str x), some (.ref B), some (.str (S f)), none, none, none] ∧ Same H1 H' ∧ (rest = [] → f ∉ E4), ?_, ?_⟩
    · refine ⟨_, rfl, B, _, rfl, .inl (SqL.of hB1), rfl, _, rfl, ?_⟩
      rw [lV, L]
      refine ite2 (fun c1 => ?_) (fun c1 => iteF ⟨rfl, Same.refl _, fun e => absurd (decide_eq_true (by rw [e]; rfl)) c1⟩)
      have e0 : rest = [] := List.length_eq_zero_iff.mp (by have := of_decide_eq_true c1; omega)
      refine ⟨_, rfl, by show 4 ≤ sizeLine; decide, fun T hT => ?_⟩
      have n := same_new (o := HO.tup (E4s.map V.str)) hT
      refine ⟨T, E4s.map V.str, rfl, .inr (SqT.of upd_same), rfl, rfl, _, rfl, ite2 (fun c2 => ?_) (fun c2 => ⟨rfl, n, fun _ m => c2 ?_⟩)⟩
      · have c2' : inV (V.str (S f)) (E4s.map V.str) = true := c2
        rw [inE4] at c2'
        have hf := of_decide_eq_true c2'
        refine ⟨_, rfl, by show 1 ≤ sizeLine; decide, fun T2 hT2 => ?_⟩
        exact qs [.str (S f)] (.ref T2) _ (by rw [e0]; simp only [dueL]; rw [if_pos hf]) (n.trans (same_new hT2)) ⟨T2, _, rfl, SqT.of upd_same, Lf.dvs (ds := [D.str (S f)]) fun d hd => by rw [List.mem_singleton.mp hd]; exact .inl ⟨S f, rfl, by rw [tl_S]; have := wl f (by simp); omega⟩⟩
      · show inV (V.str (S f)) (E4s.map V.str) = true
        rw [inE4, decide_eq_true m]
    rintro σ' H2 ⟨rfl, m2, nE⟩
    -- open
    refine ⟨fun σ' H' => σ' = [some (.str x), some (.ref B), some (.str (S f)), none, none, none] ∧ Same H1 H' ∧ (∀ a b, rest = [a, b] → ¬ (f = OPN ∧ nameB a = true ∧ nameB b = true)), ?_, ?_⟩
    · refine ⟨_, rfl, B, _, rfl, .inl (SqL.of (m2 _ _ hB1)), rfl, _, rfl, ?_⟩
      rw [lV, L]
      refine ite2 (fun c1 => ?_) (fun c1 => iteF ⟨rfl, m2, fun a b e => absurd (decide_eq_true (by rw [e]; rfl)) c1⟩)
      obtain ⟨a, b, rfl⟩ : ∃ a b, rest = [a, b] := by
        have : rest.length = 2 := by have := of_decide_eq_true c1; omega
        match rest, this with
        | [a, b], _ => exact ⟨a, b, rfl⟩
      have la := wl a (by simp)
      have lb := wl b (by simp)
      refine ⟨_, rfl, rfl, _, rfl, ite2 (fun c2 => ?_) (fun c2 => iteF ⟨rfl, m2, fun a' b' e k => c2 (decide_eq_true (by rw [k.1]; rfl))⟩)⟩
      have hf : f = OPN := by have := eqL.mp (of_decide_eq_true c2); rw [tl_S] at this; exact this
      refine ⟨_, rfl, B, _, _, .str (S a), rfl, rfl, SqL.of (m2 _ _ hB1), atI_nat (j := 1) rfl, S a, rfl, by rw [tl_S]; omega, fun H3 m3 => ⟨_, rfl, ?_⟩⟩
      rw [tl_S]
      refine ite2 (fun c3 => ?_) (fun c3 => iteF ⟨rfl, m2.trans m3, fun a' b' e k => c3 (by cases e; exact k.2.1)⟩)
      have hB3 := m3 _ _ (m2 _ _ hB1)
      refine ⟨_, rfl, B, _, _, .str (S b), rfl, rfl, SqL.of hB3, atI_nat (j := 2) rfl, S b, rfl, by rw [tl_S]; omega, fun H4 m4 => ⟨_, rfl, ?_⟩⟩
      rw [tl_S]
      refine ite2 (fun c4 => ?_) (fun c4 => ⟨rfl, (m2.trans m3).trans m4, fun a' b' e k => c4 (by cases e; exact k.2.2)⟩)
      have hB4 := m4 _ _ hB3
      refine ⟨_, rfl, _, rfl, B, _, _, .str (S a), rfl, rfl, SqL.of hB4, atI_nat (j := 1) rfl, _, rfl, B, _, _, .str (S b), rfl, rfl, SqL.of hB4, atI_nat (j := 2) rfl, by show 3 ≤ sizeLine; decide, fun T hT => ?_⟩
      refine qs [.str (S f), .str (S a), .str (S b)] (.ref T) _ (by simp only [dueL]; rw [if_pos ⟨hf, c3, c4⟩]) (((m2.trans m3).trans m4).trans (same_new hT)) ⟨T, _, rfl, SqT.of upd_same, Lf.dvs (ds := [D.str (S f), .str (S a), .str (S b)]) fun d hd => ?_⟩
      have lf' := wl f (by simp)
      simp only [List.mem_cons, List.not_mem_nil, or_false] at hd
      rcases hd with e | e | e <;> subst e
      · exact .inl ⟨S f, rfl, by rw [tl_S]; omega⟩
      · exact .inl ⟨S a, rfl, by rw [tl_S]; omega⟩
      · exact .inl ⟨S b, rfl, by rw [tl_S]; omega⟩
    rintro σ' H3 ⟨rfl, m3, nO⟩
    have hB3 := m3 _ _ hB1
    -- a key
    refine ⟨_, rfl, B, _, rfl, .inl (SqL.of hB3), _, _, rfl, rfl, _, rfl, ?_⟩
    rw [L]
    refine ite2 (fun c1 => iteT ?_) (fun c1 => ?_)
    · have e0 : rest = [] := List.length_eq_zero_iff.mp (by have := of_decide_eq_true c1; omega)
      exact qn (by rw [e0]; simp only [dueL]; rw [if_neg (nE e0)]) H3 m3
    obtain ⟨a, r, rfl⟩ : ∃ a r, rest = a :: r := by
      cases rest with
      | nil => exact absurd (decide_eq_true (by decide)) c1
      | cons a r => exact ⟨a, r, rfl⟩
    have la := wl a (by simp)
    have lS : (S a).length = a.length := S_len a
    refine ⟨_, rfl, B, _, _, .str (S a), rfl, rfl, SqL.of hB3, atI_nat (j := 1) rfl, S a, rfl, Nat.le_of_lt (small _ (by omega)), _, _, rfl, rfl, _, rfl, ite2 (fun c2 => iteT ?_) (fun c2 => ?_)⟩
    · have e0 : a = [] := List.length_eq_zero_iff.mp (by have := of_decide_eq_true c2; omega)
      exact qn (nokey (by rw [e0]; rfl) nO) H3 m3
    refine ⟨_, rfl, B, _, _, .str (S a), rfl, rfl, SqL.of hB3, atI_nat (j := 1) rfl, S a, rfl, Nat.le_of_lt (small _ (by omega)), _, _, rfl, rfl, _, rfl, ite2 (fun c3 => ?_) (fun c3 => ?_)⟩
    · refine qn (nokey ?_ nO) H3 m3
      unfold keyB
      rw [decide_eq_false (show ¬ a.length ≤ 60 by have := of_decide_eq_true c3; omega), Bool.and_false]
    have hk : keyB a = true := by
      unfold keyB
      have h2 : ¬ ((S a).length : Int) < 1 := fun h => c2 (decide_eq_true h)
      have h3 : ¬ (60 : Int) < ((S a).length : Int) := fun h => c3 (decide_eq_true h)
      rw [decide_eq_true (show a ≠ [] from fun e => h2 (by rw [lS, e]; decide)), decide_eq_true (show a.length ≤ 60 by omega)]; rfl
    refine ⟨by show 9 ≤ sizeLine; decide, fun T hT => ?_⟩
    have n := same_new (o := HO.tup (K9s.map V.str)) hT
    have hT4 : (upd H3 T (HO.tup (K9s.map V.str))) T = some (.tup (K9s.map V.str)) := upd_same
    have m4 : Same H1 (upd H3 T (HO.tup (K9s.map V.str))) := m3.trans n
    generalize hG : (upd H3 T (HO.tup (K9s.map V.str))) = H4 at hT4 m4
    have hG' : upd H3 T (HO.tup [V.str (Str.ofString "bring"), V.str (Str.ofString "body"), V.str (Str.ofString "clear"), V.str (Str.ofString "want"), V.str (Str.ofString "have"), V.str (Str.ofString "old"), V.str (Str.ofString "took"), V.str (Str.ofString "spoilt"), V.str (Str.ofString "cleared")]) = H4 := hG
    rw [hG']
    have hB4 := m4 _ _ hB1
    have lf' := wl f (by simp)
    refine ⟨fun σ' H' => σ' = [some (.str x), some (.ref B), some (.str (S f)), some (.ref T), none, none] ∧ Same H1 H' ∧ (r = [] → f ∉ K9), ?_, ?_⟩
    · refine ⟨_, rfl, B, _, rfl, .inl (SqL.of hB4), rfl, _, rfl, ?_⟩
      rw [lV, L]
      refine ite2 (fun c4 => ?_) (fun c4 => iteF ⟨rfl, m4, fun e => absurd (decide_eq_true (by rw [e]; rfl)) c4⟩)
      have e0 : r = [] := List.length_eq_zero_iff.mp (by have := of_decide_eq_true c4; rw [List.length_cons] at this; omega)
      refine ⟨_, rfl, _, rfl, T, K9s.map V.str, rfl, .inr (SqT.of hT4), rfl, rfl, _, rfl, ite2 (fun c5 => ?_) (fun c5 => ⟨rfl, m4, fun _ m => c5 ?_⟩)⟩
      · have c5' : inV (V.str (S f)) (K9s.map V.str) = true := c5
        rw [inK9] at c5'
        have hf := of_decide_eq_true c5'
        refine ⟨_, rfl, _, rfl, B, _, _, .str (S a), rfl, rfl, SqL.of hB4, atI_nat (j := 1) rfl, by show 2 ≤ sizeLine; decide, fun T2 hT2 => ?_⟩
        refine qs [.str (S f), .str (S a)] (.ref T2) _ (by rw [e0]; simp only [dueL]; rw [if_pos ⟨hf, hk⟩]) (m4.trans (same_new hT2)) ⟨T2, _, rfl, SqT.of upd_same, Lf.dvs (ds := [D.str (S f), .str (S a)]) fun d hd => ?_⟩
        simp only [List.mem_cons, List.not_mem_nil, or_false] at hd
        rcases hd with e | e <;> subst e
        · exact .inl ⟨S f, rfl, by rw [tl_S]; omega⟩
        · exact .inl ⟨S a, rfl, by rw [tl_S]; omega⟩
      · show inV (V.str (S f)) (K9s.map V.str) = true
        rw [inK9, decide_eq_true m]
    rintro σ' H5 ⟨rfl, m5, nK⟩
    have hB5 := m5 _ _ hB1
    refine ⟨_, rfl, B, _, rfl, .inl (SqL.of hB5), rfl, _, rfl, ?_⟩
    rw [lV, L]
    refine ite2 (fun c6 => iteT (qn ?_ H5 m5)) (fun c6 => ?_)
    · have c6' : (!decide (((((a :: r).length + 1 : Nat)) : Int) = 4)) = true := c6
      match r, nK, nO, c6' with
      | [], nK, _, _ => simp only [dueL]; rw [if_neg fun e => nK rfl e.1]
      | [b], _, nO, _ => simp only [dueL]; rw [if_neg (nO a b rfl)]
      | [h, d], _, _, c => exact absurd c (by show ¬ (!decide ((4 : Int) = 4)) = true; decide)
      | x :: y :: z :: t, _, _, _ => simp only [dueL]
    obtain ⟨h, d, rfl⟩ : ∃ h d, r = [h, d] := by
      have c6' : ¬ (!decide (((((a :: r).length + 1 : Nat)) : Int) = 4)) = true := c6
      have : r.length = 2 := by
        have k : decide (((((a :: r).length + 1 : Nat)) : Int) = 4) = true := by simpa using c6'
        have := of_decide_eq_true k
        rw [List.length_cons] at this; omega
      match r, this with
      | [h, d], _ => exact ⟨h, d, rfl⟩
    have lh := wl h (by simp)
    have ld := wl d (by simp)
    refine ⟨_, rfl, rfl, _, rfl, ite2 (fun c7 => ?_) (fun c7 => ?_)⟩
    · have c7' : (!decide (V.str (S f) = V.str (Str.ofString "offer"))) = true := c7
      refine qn ?_ H5 m5
      simp only [dueL]; rw [if_neg fun e => ?_]
      rw [e.1, decide_eq_true (eqL.mpr (show tl (S OFR) = tl (Str.ofString "offer") from by rw [tl_S]; rfl))] at c7'; cases c7'
    have hf : f = OFR := by
      have c7' : ¬ (!decide (V.str (S f) = V.str (Str.ofString "offer"))) = true := c7
      have k : decide (V.str (S f) = V.str (Str.ofString "offer")) = true := by simpa using c7'
      have := eqL.mp (of_decide_eq_true k); rw [tl_S] at this; exact this
    refine ⟨_, rfl, B, _, _, .str (S h), rfl, rfl, SqL.of hB5, atI_nat (j := 2) rfl, S h, 3, rfl, by rw [tl_S]; omega, by decide, fun H6 m6 => ?_⟩
    have hB6 := m6 _ _ hB5
    refine ⟨_, rfl, B, _, _, .str (S d), rfl, rfl, SqL.of hB6, atI_nat (j := 3) rfl, S d, 7, rfl, by rw [tl_S]; omega, by decide, fun H7 m7 => ?_⟩
    rw [tl_S, tl_S]
    have m17 := (m5.trans m6).trans m7
    have hB7 := m7 _ _ hB6
    by_cases o1 : nOk 3 h = true
    · have e1 : nV 3 h = .int (NumText.digitsVal h : Nat) := by unfold nV; rw [if_pos o1]
      rw [e1]
      refine ⟨_, rfl, rfl, _, rfl, iteNo (decide_eq_false fun e => by cases e) ?_⟩
      by_cases o2 : nOk 7 d = true
      · have e2 : nV 7 d = .int (NumText.digitsVal d : Nat) := by unfold nV; rw [if_pos o2]
        rw [e2]
        refine ⟨_, rfl, rfl, _, rfl, iteNo (decide_eq_false fun e => by cases e) ?_⟩
        have due : dueL [f, a, h, d] = some [.str (S f), .str (S a), .int (NumText.digitsVal h : Nat), .int (NumText.digitsVal d : Nat)] := by simp only [dueL]; rw [if_pos ⟨hf, hk, o1, o2⟩]
        refine ⟨_, rfl, _, rfl, B, _, _, .str (S a), rfl, rfl, SqL.of hB7, atI_nat (j := 1) rfl, _, rfl, _, rfl, by show 4 ≤ sizeLine; decide, fun T2 hT2 => ?_⟩
        exact qs _ (.ref T2) _ due (m17.trans (same_new hT2)) ⟨T2, _, rfl, SqT.of upd_same, (due_lf (fun q m => by have := wl q m; omega) due).1.dvs⟩
      · have e2 : nV 7 d = .non := by unfold nV; rw [if_neg o2]
        rw [e2]
        refine ⟨_, rfl, rfl, _, rfl, iteGo (decide_eq_true rfl) ?_⟩
        exact qn (by simp only [dueL]; rw [if_neg fun e => o2 e.2.2.2]) H7 m17
    · have e1 : nV 3 h = .non := by unfold nV; rw [if_neg o1]
      rw [e1]
      refine ⟨_, rfl, rfl, _, rfl, iteGo (decide_eq_true rfl) (iteT ?_)⟩
      exact qn (by simp only [dueL]; rw [if_neg fun e => o1 e.2.2.1]) H7 m17
end

end Z
namespace Z
open PySem L2 SX
theorem strs_pick {us : List Str} {v : V} (h : v ∈ us.map V.str) : ∃ x ∈ us, v = .str x := by
  obtain ⟨x, m, e⟩ := List.mem_map.mp h
  exact ⟨x, m, e.symm⟩
section
variable {P : Program} {w : World} {K : PySem.W.Frag} {mg : Str → Option Value} {base : Heap}
theorem ok__law_row (D : Df K mg "_law_row" s__law_row ["source", "size"]) (T : Tx mg)  (C__law_draw : Cal P w K mg base "_law_draw" ["source", "many"] 2 sp__law_draw) : Cal P w K mg base "_law_row" ["source", "size"] 3 sp39_law_row := by
  obtain ⟨f__law_draw, fd__law_draw, G__law_draw, g__law_draw, k__law_draw, b__law_draw⟩ := C__law_draw
  obtain ⟨f, fd, F, gf, bf⟩ := D
  refine ⟨f, fd, F.ok sc__law_row (fun vs H Q E h => ?_) (fun cdv A outer s₀ H vs Q E hr h => ?_), gf, F.kp, bf⟩
  · obtain ⟨s, a, m, c, rfl, _⟩ := h; rfl
  · obtain ⟨s, a, m, c, rfl, hm, hS, q⟩ := h
    refine ⟨_, (pss_cons (ps_set (i := 2) sc__law_row.nd rfl (Or.inr rfl) pe_str)
      (pss_one (ps_ret (pe_join pe_str (pe_lc (own := [("k", 3)]) (g := gName 3) (tt := tYes) rfl sc__law_row.nd (pi_range1 (by rfl) T.n_range (pa_cons (pv 1) pa_nil)) (blkOk_by (own := [("k", 3)]) (N := N__law_row) (sc := defScope s__law_row) (by decide +kernel)) (fun _ _ _ _ _ => pg_name (i := 3) sc__law_row.nd rfl (Or.inl rfl)) (fun _ _ _ _ _ => pts_nil) (fun _ _ _ _ _ => (pe_item_str (pv 2) (pe_call G__law_draw (hr.mono (by decide)) (by rfl) g__law_draw k__law_draw b__law_draw .nil pass0 (pa_cons (pv 0) (pa_cons (pe_callB call_lenS (by rfl) T.n_len PySem.boot_len (pa_cons (pv 2) pa_nil)) pa_nil))) (fun _ _ => rfl)))))))), ?_⟩
    have small : ∀ n : Nat, n ≤ 30000 → n ≤ sizeLine := fun n h => Nat.le_trans h (by decide)
    refine ⟨⟨_, rfl⟩, _, rfl, _, rfl, by omega, by omega, fun D hD => ?_⟩
    refine lc_strs (n := ((m : Int)).toNat) (d := 1) (c := c) (fun x => ∃ ch, x = S [ch] ∧ rch ch = true) hD (hS.mono (by omega)) (by omega) (fun _ => rfl) (fun i c' Hx R hi hE' hS' k => ?_) (fun xs H3 hx3 hl3 hA3 hE3 hS3 => ?_)
    · refine ⟨_, rfl, _, rfl, _, rfl, _, rfl, by decide +kernel, s, a, _, c', rfl, by decide +kernel, by decide +kernel, hS', fun v H3 v0 v1 x3 S3 => ?_⟩
      obtain ⟨ch, e1, _, e3⟩ := at_str (x := Str.ofString "abcdefghijklmnopqrstuvwxyzABCDEFGHIJKLMNOPQRSTUVWXYZ0123456789 .,-=:;!?()'+*/") v0 v1
      refine ⟨_, _, ch, rfl, rfl, v0, Int.lt_of_lt_of_le v1 (by decide +kernel), v1, e1, k _ H3 ⟨ch, rfl, ?_⟩ x3 S3⟩
      have key : ∀ d ∈ tl (Str.ofString "abcdefghijklmnopqrstuvwxyzABCDEFGHIJKLMNOPQRSTUVWXYZ0123456789 .,-=:;!?()'+*/"), rch d = true := by decide +kernel
      exact key ch e3
    have l1 : ∀ x ∈ xs, (tl x).length ≤ 1 := fun x hx => by
      obtain ⟨ch, rfl, _⟩ := hA3 x hx
      exact Nat.le_refl 1
    have hs := sum_len (n := 1) (xs := xs) l1
    refine ⟨_, D, xs, rfl, rfl, .inl (SqL.of hx3), ?_, ?_⟩
    · show _ + xs.length * 0 ≤ _; omega
    refine q _ H3 ?_ ?_ hE3 hS3
    · rw [tl_joinS]
      intro ch hc
      rcases joinL_mem39 hc with e | ⟨l, hl, e⟩
      · cases e
      · obtain ⟨x, hx, rfl⟩ := List.mem_map.mp hl
        obtain ⟨d, rfl, hd⟩ := hA3 x hx
        rw [tl_S, List.mem_singleton] at e
        rw [e]; exact hd
    · rw [tl_joinS]
      refine Nat.le_trans (joinL_len (s := tl (Str.ofString "")) (n := 1) fun l hl => ?_) ?_
      · obtain ⟨x, hx, rfl⟩ := List.mem_map.mp hl
        exact l1 x hx
      · rw [List.length_map]; show xs.length * (1 + 0) ≤ m; omega
end
section
variable {P : Program} {w : World} {K : PySem.W.Frag} {mg : Str → Option Value} {base : Heap}
theorem ok__law_key (D : Df K mg "_law_key" s__law_key ["source"]) (T : Tx mg)  (C__law_draw : Cal P w K mg base "_law_draw" ["source", "many"] 2 sp__law_draw) (C__law_new_name : Cal P w K mg base "_law_new_name" ["source", "used"] 3 (sp8__law_new_name K)) (C__law_pick : Cal P w K mg base "_law_pick" ["source", "row"] 3 (sp__law_pick K)) (C__law_row : Cal P w K mg base "_law_row" ["source", "size"] 3 sp39_law_row) : Cal P w K mg base "_law_key" ["source"] 4 (sp39_text 200 130) := by
  obtain ⟨f__law_draw, fd__law_draw, G__law_draw, g__law_draw, k__law_draw, b__law_draw⟩ := C__law_draw
  obtain ⟨f__law_new_name, fd__law_new_name, G__law_new_name, g__law_new_name, k__law_new_name, b__law_new_name⟩ := C__law_new_name
  obtain ⟨f__law_pick, fd__law_pick, G__law_pick, g__law_pick, k__law_pick, b__law_pick⟩ := C__law_pick
  obtain ⟨f__law_row, fd__law_row, G__law_row, g__law_row, k__law_row, b__law_row⟩ := C__law_row
  obtain ⟨f, fd, F, gf, bf⟩ := D
  refine ⟨f, fd, F.ok sc__law_key (fun vs H Q E h => ?_) (fun cdv A outer s₀ H vs Q E hr h => ?_), gf, F.kp, bf⟩
  · obtain ⟨s, a, c, rfl, _⟩ := h; rfl
  · obtain ⟨s, a, c, rfl, hS, q⟩ := h
    refine ⟨_, (pss_cons (ps_set (i := 1) sc__law_key.nd rfl (Or.inl rfl) (pe_op op_add pe_int (pe_op op_fdivN (pe_call G__law_draw (hr.mono (by decide)) (by rfl) g__law_draw k__law_draw b__law_draw .nil pass0 (pa_cons (pv 0) (pa_cons pe_int pa_nil))) (pe_call G__law_pick (hr.mono (by decide)) (by rfl) g__law_pick k__law_pick b__law_pick .nil pass0 (pa_cons (pv 0) (pa_cons (pe_lst (pa_cons pe_int (pa_cons pe_int (pa_cons pe_int (pa_cons pe_int pa_nil))))) pa_nil))))))
      (pss_setT (i := 2) sc__law_key.nd rfl (Or.inl rfl) (tk_opL op_add_str (tk_opR op_add_str (pe_callTy call_str_int (by rfl) T.n_str (by decide +kernel) (pa_cons (pv 1) pa_nil)) tk_str) (pe_call G__law_new_name (hr.mono (by decide)) (by rfl) g__law_new_name k__law_new_name b__law_new_name .nil pass0 (pa_cons (pv 0) (pa_cons (pe_lst pa_nil) pa_nil))))
      (psst_cons (PST.of (ps_set (i := 3) sc__law_key.nd rfl (Or.inl rfl) (pe_call G__law_draw (hr.mono (by decide)) (by rfl) g__law_draw k__law_draw b__law_draw .nil pass0 (pa_cons (pv 0) (pa_cons pe_int pa_nil)))))
      (psst_cons (PST.of (ps_if (pt_cmpR op_eq (pv 3) pe_int (nomark _))
      (pss_one (ps_ret (pe_op op_add_str pe_str (pv 2))))
      pss_nil))
      (psst_cons (PST.of (ps_if (pt_cmpR op_eq (pv 3) pe_int (nomark _))
      (pss_one (ps_ret (pe_op op_add_str (pe_op op_add_str (pe_op op_add_str (pe_op op_add_str (pe_op op_add_str pe_str (pv 2)) pe_str) (pe_call G__law_new_name (hr.mono (by decide)) (by rfl) g__law_new_name k__law_new_name b__law_new_name .nil pass0 (pa_cons (pv 0) (pa_cons (pe_lst pa_nil) pa_nil)))) pe_str) (pe_call G__law_new_name (hr.mono (by decide)) (by rfl) g__law_new_name k__law_new_name b__law_new_name .nil pass0 (pa_cons (pv 0) (pa_cons (pe_lst pa_nil) pa_nil))))))
      pss_nil))
      (psst_cons (PST.of (ps_if (pt_cmpR op_eq (pv 3) pe_int (nomark _))
      (pss_one (ps_ret (pe_op op_add_str (pe_op op_add_str pe_str (pv 2)) pe_str)))
      pss_nil))
      (psst_cons (CwR.pst_if (pt_cmpR op_eq (pv 3) pe_int (nomark _)) (CwR.psst_one (CwR.pst_ret (CwR.pet_replC (pe_call G__law_row (hr.mono (by decide)) (by rfl) g__law_row k__law_row b__law_row .nil pass0 (pa_cons (pv 0) (pa_cons (pe_op op_add pe_int (pe_call G__law_draw (hr.mono (by decide)) (by rfl) g__law_draw k__law_draw b__law_draw .nil pass0 (pa_cons (pv 0) (pa_cons pe_int pa_nil)))) pa_nil)))))) CwR.psst_nil)
      (psst_cons (PST.of (ps_if (pt_cmpR op_eq (pv 3) pe_int (nomark _))
      (pss_one (ps_ret (pe_slice sl_str (pe_op op_add_str (pe_op op_add_str (pv 2) pe_str) (pe_op op_mul_str pe_str pe_int)) po_none (po_some pe_int))))
      pss_nil))
      (CwR.psst_one (PST.of (ps_ret (pv 2)))))))))))), ?_⟩
    have small : ∀ n : Nat, n ≤ 30000 → n ≤ sizeLine := fun n h => Nat.le_trans h (by decide)
    have lS : ∀ y : Str, y.length = (tl y).length := tl_len
    refine ⟨_, rfl, s, a, _, c + 199, rfl, by decide, by decide, hS, fun v H1 v0 v1 x1 S1 => ?_⟩
    refine ⟨_, rfl, by show 4 ≤ sizeLine; decide, fun L hL => ?_⟩
    refine .inl ⟨s, a, L, [V.int 1, V.int 100, V.int 10000, V.int 100000], c + 198, rfl, SqL.of upd_same, S1.ne hL, by simp, by show 4 ≤ 100000; decide, (S1.new hL).mono (by omega), fun z H2 zm x2 S2 => ?_⟩
    obtain ⟨dv, rfl, d1, d2⟩ : ∃ dv : Int, z = .int dv ∧ 1 ≤ dv ∧ dv ≤ 100000 := by
      simp only [List.mem_cons, List.not_mem_nil, or_false] at zm
      rcases zm with e | e | e | e <;> subst e <;> exact ⟨_, rfl, by decide, by decide⟩
    refine ⟨_, _, rfl, rfl, ⟨by omega, by omega⟩, _, _, rfl, rfl, ?_⟩
    obtain ⟨nn, en, nl⟩ : ∃ nn : Nat, 1 + Int.fdiv v dv = (nn : Int) ∧ nn < 10 ^ 6 := by
      have h1 : Int.fdiv v dv = v / dv := Int.fdiv_eq_ediv_of_nonneg _ (by omega)
      have h2 : 0 ≤ v / dv := Int.ediv_nonneg v0 (by omega)
      have h3 := Int.ediv_le_self (a := v) dv v0
      exact ⟨(1 + v / dv).toNat, by rw [h1]; omega, by omega⟩
    show gName 1 (V.int (1 + Int.fdiv v dv)) _ _ _
    rw [en]
    have lnn := TL.numL_len (n := nn) (k := 6) (by decide) nl
    refine ⟨_, rfl, _, rfl, log_b (Nat.lt_trans nl (by decide)), ?_⟩
    have eN : (toString ((nn : Nat) : Int) : Str) = S (TL.numL nn) := num_S nn
    have rN : Rw (TL.numL nn) := (low_num nn).rw
    refine ⟨_, _, rfl, rfl, small _ ?_, ?_⟩
    · show (Str.ofString (toString ((nn : Nat) : Int))).length + 1 ≤ _
      rw [num_S, S_len]; omega
    refine ⟨_, rfl, Nat.zero_le _, fun U hU => ?_⟩
    have u1 := S2.ne hU
    refine ⟨s, a, U, [], c + 190, rfl, SqL.of upd_same, u1, by decide, (S2.new hU).mono (by omega), fun nm H3 N3 l3 x3 S3 => ?_⟩
    have e3 : Ext s H H3 := x1.trans (((Ext.new hL).trans x2).trans ((Ext.new hU).trans x3))
    have lk0 : (Str.ofString (toString ((nn : Nat) : Int)) ++ Str.ofString "@").length ≤ 7 := by
      rw [lS, tl_app, List.length_append, num_S, tl_S]; show _ + 1 ≤ 7; omega
    refine ⟨_, _, rfl, rfl, small _ (by have := lS nm; show (Str.ofString (toString ((nn : Nat) : Int)) ++ Str.ofString "@").length + nm.length ≤ _; omega), ?_⟩
    obtain ⟨key, hkey, rk, lk⟩ : ∃ key : Str, key = Str.ofString (toString ((nn : Nat) : Int)) ++ Str.ofString "@" ++ nm ∧ Rw (tl key) ∧ (tl key).length ≤ 15 := by
      refine ⟨_, rfl, ?_, ?_⟩
      · rw [tl_app, tl_app, num_S, tl_S]
        exact (rN.app (by intro c hc; rw [List.mem_singleton.mp hc]; decide +kernel)).app N3.2.rw
      · rw [tl_app, List.length_append, ← lS]; omega
    rw [show Str.ofString (toString ((nn : Nat) : Int)) ++ Str.ofString "@" ++ nm = key from hkey.symm]
    have lK := lS key
    have lit : ∀ y : Str, (tl y).all rch = true → Rw (tl y) := fun y h => List.all_eq_true.mp h
    have w1 := lit (Str.ofString "n:") (by decide +kernel)
    have w2 := lit (Str.ofString "c:") (by decide +kernel)
    have w3 := lit (Str.ofString ":l@") (by decide +kernel)
    have w4 := lit (Str.ofString ":ann@") (by decide +kernel)
    have w5 := lit (Str.ofString "s:") (by decide +kernel)
    have w6 := lit (Str.ofString ":0:1") (by decide +kernel)
    have w7 := lit (Str.ofString ":") (by decide +kernel)
    have w8 := lit (Str.ofString "ab.c") (by decide +kernel)
    have w9 := lit (Str.ofString "_") (by decide +kernel)
    refine ⟨_, rfl, s, a, _, c + 189, rfl, by decide, by decide, S3.mono (by omega), fun way H4 _ _ x4 S4 => ?_⟩
    have e4 := e3.trans x4
    refine ⟨_, rfl, rfl, _, rfl, ite2 (fun _ => ?_) (fun _ => ?_)⟩
    · refine ⟨_, rfl, _, _, rfl, rfl, small _ (by show 2 + _ ≤ _; omega), q _ H4 (by rw [tl_app]; exact w1.app rk) (by rw [tl_app, List.length_append]; show 2 + _ ≤ 130; omega) e4 (S4.mono (by omega))⟩
    refine ⟨_, rfl, rfl, _, rfl, ite2 (fun _ => ?_) (fun _ => ?_)⟩
    · refine ⟨_, rfl, _, _, rfl, rfl, small _ (by show 2 + _ ≤ _; omega), _, _, rfl, rfl, small _ (by rw [lS, tl_app, List.length_append]; show 2 + _ + 3 ≤ _; omega), ?_⟩
      have lA : (tl (Str.ofString "c:" ++ key ++ Str.ofString ":l@")).length ≤ 20 := by rw [tl_app, tl_app, List.length_append, List.length_append]; show 2 + _ + 3 ≤ 20; omega
      have lA' := lS (Str.ofString "c:" ++ key ++ Str.ofString ":l@")
      have rA : Rw (tl (Str.ofString "c:" ++ key ++ Str.ofString ":l@")) := by rw [tl_app, tl_app]; exact (w2.app rk).app w3
      refine ⟨_, rfl, Nat.zero_le _, fun U1 hU1 => ?_⟩
      refine ⟨s, a, U1, [], c + 180, rfl, SqL.of upd_same, S4.ne hU1, by decide, (S4.new hU1).mono (by omega), fun n5 H5 N5 l5 x5 S5 => ?_⟩
      have l5' := lS n5
      refine ⟨_, _, rfl, rfl, small _ (by omega), _, _, rfl, rfl, small _ (by rw [lS, tl_app, List.length_append]; show _ + 5 ≤ _; omega), ?_⟩
      refine ⟨_, rfl, Nat.zero_le _, fun U2 hU2 => ?_⟩
      refine ⟨s, a, U2, [], c + 170, rfl, SqL.of upd_same, S5.ne hU2, by decide, (S5.new hU2).mono (by omega), fun n6 H6 N6 l6 x6 S6 => ?_⟩
      have l6' := lS n6
      have lB : (tl (Str.ofString "c:" ++ key ++ Str.ofString ":l@" ++ n5 ++ Str.ofString ":ann@")).length ≤ 40 := by rw [tl_app, tl_app, List.length_append, List.length_append]; show _ + _ + 5 ≤ 40; omega
      have lB' := lS (Str.ofString "c:" ++ key ++ Str.ofString ":l@" ++ n5 ++ Str.ofString ":ann@")
      refine ⟨_, _, rfl, rfl, small _ (by omega), q _ H6 ?_ ?_ (e4.trans (((Ext.new hU1).trans x5).trans ((Ext.new hU2).trans x6))) (S6.mono (by omega))⟩
      · rw [tl_app, tl_app, tl_app]; exact ((rA.app N5.2.rw).app w4).app N6.2.rw
      · rw [tl_app, List.length_append]; omega
    refine ⟨_, rfl, rfl, _, rfl, ite2 (fun _ => ?_) (fun _ => ?_)⟩
    · refine ⟨_, rfl, _, _, rfl, rfl, small _ (by show 2 + _ ≤ _; omega), _, _, rfl, rfl, small _ (by rw [lS, tl_app, List.length_append]; show 2 + _ + 4 ≤ _; omega), q _ H4 (by rw [tl_app, tl_app]; exact (w5.app rk).app w6) (by rw [tl_app, tl_app, List.length_append, List.length_append]; show 2 + _ + 4 ≤ 130; omega) e4 (S4.mono (by omega))⟩
    refine ⟨_, rfl, rfl, _, rfl, ite2 (fun _ => ?_) (fun _ => ?_)⟩
    · refine ⟨_, rfl, _, rfl, s, a, _, c + 180, rfl, by decide, by decide, S4.mono (by omega), fun w H5 w0' w1' x5 S5 => ⟨_, _, rfl, rfl, ?_⟩⟩
      obtain ⟨w, rfl⟩ := Int.eq_ofNat_of_zero_le w0'
      refine ⟨s, a, w + 1, c, ?_, by omega, S5.mono (by omega), fun y H6 ry ly x6 S6 => ?_⟩
      · show [V.ref s, V.int (1 + (w : Int))] = [V.ref s, V.int ((w + 1 : Nat) : Int)]
        rw [show ((w + 1 : Nat) : Int) = 1 + (w : Int) by omega]
      have ly' := lS y
      have rl := rep_len39 y (Str.ofString "_")
      refine ⟨y, rfl, by show y.length + (y.length + 1) * 1 ≤ _; omega, q _ H6 (rep_rw ry w9) (Nat.le_trans rl (by show _ + (_ + 1) * 1 ≤ 130; omega)) (e4.trans (x5.trans x6)) S6⟩
    refine ⟨_, rfl, rfl, _, rfl, ite2 (fun _ => ?_) (fun _ => ?_)⟩
    · refine ⟨_, rfl, _, _, rfl, rfl, small _ (by show _ + 1 ≤ _; omega), _, _, rfl, rfl, by decide, by decide, by decide, fun r hr2 => ?_⟩
      have lr : (tl r).length = 80 := by rw [hr2, rep_len]; rfl
      have rr : Rw (tl r) := fun d hd => by rw [hr2] at hd; exact w8 d (rep_mem hd)
      have l1 : (tl (key ++ Str.ofString ":")).length ≤ 16 := by rw [tl_app, List.length_append]; show _ + 1 ≤ 16; omega
      have l1' := lS (key ++ Str.ofString ":")
      have lr' := lS r
      refine ⟨_, _, rfl, rfl, small _ (by omega), 60, rfl, _, rfl, small _ (by rw [lS, tl_app, List.length_append]; omega), q _ H4 ?_ ?_ e4 (S4.mono (by omega))⟩
      · rw [cutS_to (by decide), tl_app, tl_app]
        exact fun d hd => ((rk.app w7).app rr) d (List.mem_of_mem_take hd)
      · rw [cutS_to (by decide), List.length_take]
        show min 60 _ ≤ 130; omega
    exact ⟨_, rfl, q _ H4 rk (by omega) e4 (S4.mono (by omega))⟩
end

end Z
namespace Z
open PySem L2 SX
theorem row_strs {us : List Str} {v : V} {n : Nat} (h : v ∈ us.map V.str) (k : ∀ x ∈ us, (tl x).all rch = true ∧ (tl x).length ≤ n) : ∃ x : Str, v = .str x ∧ Rw (tl x) ∧ (tl x).length ≤ n := by
  obtain ⟨x, m, rfl⟩ := List.mem_map.mp h
  exact ⟨x, rfl, List.all_eq_true.mp (k x m).1, (k x m).2⟩
theorem Rw.asc {l : List Nat} (h : Rw l) : Asc l := fun c m => by have := (rch_iff c).mp (h c m); omega
theorem rw_upper {x : Str} (h : Rw (tl x)) : Rw (tl (Txt.upper x)) ∧ (tl (Txt.upper x)).length = (tl x).length := by
  rw [tl_upper h.asc]
  refine ⟨fun c m => ?_, List.length_map _⟩
  obtain ⟨d, hd, rfl⟩ := List.mem_map.mp m
  have k := (rch_iff d).mp (h d hd)
  rw [rch_iff]
  unfold PyProof.Rows.up1
  split <;> omega
section
variable {P : Program} {w : World} {K : PySem.W.Frag} {mg : Str → Option Value} {base : Heap}
theorem ok__law_bent (D : Df K mg "_law_bent" s__law_bent ["source", "word"]) (T : Tx mg)  (C__law_draw : Cal P w K mg base "_law_draw" ["source", "many"] 2 sp__law_draw) (C__law_pick : Cal P w K mg base "_law_pick" ["source", "row"] 3 (sp__law_pick K)) : Cal P w K mg base "_law_bent" ["source", "word"] 4 sp39_bent := by
  obtain ⟨f__law_draw, fd__law_draw, G__law_draw, g__law_draw, k__law_draw, b__law_draw⟩ := C__law_draw
  obtain ⟨f__law_pick, fd__law_pick, G__law_pick, g__law_pick, k__law_pick, b__law_pick⟩ := C__law_pick
  obtain ⟨f, fd, F, gf, bf⟩ := D
  refine ⟨f, fd, F.ok sc__law_bent (fun vs H Q E h => ?_) (fun cdv A outer s₀ H vs Q E hr h => ?_), gf, F.kp, bf⟩
  · obtain ⟨s, a, x, c, rfl, _⟩ := h; rfl
  · obtain ⟨s, a, x, c, rfl, xl, rx, hS, q⟩ := h
    refine ⟨_, (pss_cons (ps_set (i := 2) sc__law_bent.nd rfl (Or.inl rfl) (pe_call G__law_draw (hr.mono (by decide)) (by rfl) g__law_draw k__law_draw b__law_draw .nil pass0 (pa_cons (pv 0) (pa_cons (pe_op op_add (pe_callB call_lenS (by rfl) T.n_len PySem.boot_len (pa_cons (pv 1) pa_nil)) pe_int) pa_nil))))
      (pss_setT (i := 3) sc__law_bent.nd rfl (Or.inl rfl) (tk_call G__law_pick (hr.mono (by decide)) (by rfl) g__law_pick k__law_pick b__law_pick .nil pass0 (tka_tail (pv 0) (tka_head (tk_lst (tka_head tk_str (pa_cons pe_str (pa_cons pe_str (pa_cons pe_str (pa_cons pe_str (pa_cons pe_str (pa_cons pe_str (pa_cons pe_str (pa_cons pe_str pa_nil)))))))))) pa_nil)))
      (psst_cons (PST.of (ps_set (i := 4) sc__law_bent.nd rfl (Or.inl rfl) (pe_split (pv 1) pe_str)))
      (psst_cons (PST.of (ps_set (i := 5) sc__law_bent.nd rfl (Or.inl rfl) (pe_call G__law_draw (hr.mono (by decide)) (by rfl) g__law_draw k__law_draw b__law_draw .nil pass0 (pa_cons (pv 0) (pa_cons pe_int pa_nil)))))
      (psst_cons (PST.of (ps_if (pt_cmpR op_eq (pv 5) pe_int (nomark _))
      (pss_one (ps_ret (pe_op op_add_str (pe_op op_add_str (pe_slice sl_str (pv 1) po_none (po_some (pv 2))) (pv 3)) (pe_slice sl_str (pv 1) (po_some (pv 2)) po_none))))
      pss_nil))
      (psst_cons (PST.of (ps_if (pt_cmpR op_eq (pv 5) pe_int (nomark _))
      (pss_one (ps_ret (pe_op op_add_str (pe_op op_add_str (pe_slice sl_str (pv 1) po_none (po_some (pv 2))) (pv 3)) (pe_slice sl_str (pv 1) (po_some (pe_op op_add (pv 2) pe_int)) po_none))))
      pss_nil))
      (psst_cons (PST.of (ps_if (pt_cmpR op_eq (pv 5) pe_int (nomark _))
      (pss_one (ps_ret (pe_op op_add_str (pe_slice sl_str (pv 1) po_none (po_some (pv 2))) (pe_slice sl_str (pv 1) (po_some (pe_op op_add (pv 2) pe_int)) po_none))))
      pss_nil))
      (psst_cons (PST.of (ps_if (pt_cmpR op_eq (pv 5) pe_int (nomark _))
      (pss_one (ps_ret (pe_op op_add_str (pv 1) pe_str)))
      pss_nil))
      (psst_cons (PST.of (ps_if (pt_cmpR op_eq (pv 5) pe_int (nomark _))
      (pss_one (ps_ret (pe_op op_add_str pe_str (pv 1))))
      pss_nil))
      (psst_cons (CwR.pst_if (pt_cmpR op_eq (pv 5) pe_int (nomark _)) (CwR.psst_one (CwR.pst_ret (CwR.pet_replC (pv 1)))) CwR.psst_nil)
      (psst_cons (PST.of (ps_if (pt_cmpR op_eq (pv 5) pe_int (nomark _))
      (pss_one (ps_ret (pe_op op_add_str (pe_op op_add_str (pv 1) pe_str) (pe_ix ix_list (pv 4) (pe_op op_sub (pe_callB call_len_seq (by rfl) T.n_len PySem.boot_len (pa_cons (pv 4) pa_nil)) pe_int) (fun _ _ => rfl)))))
      pss_nil))
      (psst_cons (PST.of (ps_if (pt_cmpR op_eq (pv 5) pe_int (nomark _))
      (pss_one (ps_ret (pe_join pe_str (pe_slice sl_list (pv 4) po_none (po_some (pe_op op_sub (pe_callB call_len_seq (by rfl) T.n_len PySem.boot_len (pa_cons (pv 4) pa_nil)) pe_int))))))
      pss_nil))
      (psst_cons (PST.of (ps_if (pt_cmpR op_eq (pv 5) pe_int (nomark _))
      (pss_one (ps_ret (pe_op op_add_str (pv 1) (pe_op op_mul_str pe_str (pe_call G__law_pick (hr.mono (by decide)) (by rfl) g__law_pick k__law_pick b__law_pick .nil pass0 (pa_cons (pv 0) (pa_cons (pe_lst (pa_cons pe_int (pa_cons pe_int (pa_cons pe_int (pa_cons pe_int pa_nil))))) pa_nil)))))))
      pss_nil))
      (CwR.psst_one (PST.of (ps_ret (pe_upper (pv 1)))))))))))))))))), ?_⟩
    have small : ∀ n : Nat, n ≤ 30000 → n ≤ sizeLine := fun n h => Nat.le_trans h (by decide)
    have lS : ∀ y : Str, y.length = (tl y).length := tl_len
    have lx := lS x
    have wn := wds_num (tl x)
    refine ⟨_, rfl, _, rfl, x, rfl, small _ (by omega), _, _, rfl, rfl, s, a, _, c + 9, rfl, by omega, by omega, hS, fun p H1 p0 p1 x1 S1 => ?_⟩
    refine ⟨_, rfl, by show 9 ≤ sizeLine; decide, fun J hJ => ?_⟩
    refine .inl ⟨s, a, J, [Str.ofString " ", Str.ofString "0", Str.ofString "A", Str.ofString "-", Str.ofString ".", Str.ofString "@", Str.ofString "x", Str.ofString "9", Str.ofString "1"].map V.str, c + 8, rfl, SqL.of upd_same, S1.ne hJ, (fun h => (by cases h)), by show 9 ≤ 100000; decide, (S1.new hJ).mono (by omega), fun w H2 wm x2 S2 => ?_⟩
    obtain ⟨od, rfl, ro, lo⟩ := row_strs (n := 1) wm (by decide +kernel)
    refine ⟨_, rfl, ⟨_, rfl⟩, x, Str.ofString " ", rfl, rfl, rfl, small _ (by omega), fun B hB => ?_⟩
    rw [split_sp]
    have hB1 : (upd H2 B (HO.lst (((wds (tl x)).map S).map V.str))) B = some (.lst (((wds (tl x)).map S).map V.str)) := upd_same
    have B1 := S2.ne hB
    have S2' := S2.new (o := HO.lst (((wds (tl x)).map S).map V.str)) hB
    have xb : Ext s H (upd H2 B (HO.lst (((wds (tl x)).map S).map V.str))) := x1.trans (((Ext.new hJ).trans x2).trans (Ext.new hB))
    generalize upd H2 B (HO.lst (((wds (tl x)).map S).map V.str)) = H3 at hB1 S2' xb ⊢
    refine ⟨_, rfl, s, a, _, c + 7, rfl, by decide, by decide, S2', fun y H6 y0 y1 x6 S6 => ?_⟩
    have xx := xb.trans x6
    have hB6 := x6 _ _ B1 hB1
    have e1 : (tl (cutS x none (some p))).length ≤ (tl x).length := cut_le _ _ _
    have e2 : (tl (cutS x (some p) none)).length ≤ (tl x).length := cut_le _ _ _
    have e3 : (tl (cutS x (some (p + 1)) none)).length ≤ (tl x).length := cut_le _ _ _
    have r1 : Rw (tl (cutS x none (some p))) := fun d hd => by rw [cutS_to p0] at hd; exact rx d (List.mem_of_mem_take hd)
    have r2 : Rw (tl (cutS x (some p) none)) := fun d hd => by rw [cutS_from p0] at hd; exact rx d (List.mem_of_mem_drop hd)
    have r3 : Rw (tl (cutS x (some (p + 1)) none)) := fun d hd => by rw [cutS_from (by omega)] at hd; exact rx d (List.mem_of_mem_drop hd)
    have rsp : Rw (tl (Str.ofString " ")) := List.all_eq_true.mp (by decide +kernel)
    obtain ⟨wl, ws', ew⟩ : ∃ z zs, wds (tl x) = zs ++ [z] := ⟨(wds (tl x)).getLast (spl_ne _ _), (wds (tl x)).dropLast, (List.dropLast_concat_getLast (spl_ne _ _)).symm⟩
    have nW : ((((wds (tl x)).map S).map V.str).length : Int) = ws'.length + 1 := by rw [List.length_map, List.length_map, ew, List.length_append]; rfl
    refine ⟨_, rfl, rfl, _, rfl, ite2 (fun _ => ?_) (fun _ => ?_)⟩
    · refine ⟨_, rfl, _, rfl, p, rfl, x, rfl, small _ (by omega), _, rfl, _, _, rfl, rfl, small _ (by rw [lS, lS]; omega), _, rfl, _, rfl, p, rfl, x, rfl, small _ (by omega), _, _, rfl, rfl, small _ (by rw [lS, lS, tl_app, List.length_append]; omega), ?_⟩
      exact q _ _ (by rw [tl_app, tl_app]; exact (r1.app ro).app r2) (by rw [tl_app, tl_app, List.length_append, List.length_append]; omega) xx (S6.mono (by omega))
    refine ⟨_, rfl, rfl, _, rfl, ite2 (fun _ => ?_) (fun _ => ?_)⟩
    · refine ⟨_, rfl, _, rfl, p, rfl, x, rfl, small _ (by omega), _, rfl, _, _, rfl, rfl, small _ (by rw [lS, lS]; omega), _, rfl, _, rfl, _, _, rfl, rfl, _, rfl, x, rfl, small _ (by omega), _, _, rfl, rfl, small _ (by rw [lS, lS, tl_app, List.length_append]; omega), ?_⟩
      exact q _ _ (by rw [tl_app, tl_app]; exact (r1.app ro).app r3) (by rw [tl_app, tl_app, List.length_append, List.length_append]; omega) xx (S6.mono (by omega))
    refine ⟨_, rfl, rfl, _, rfl, ite2 (fun _ => ?_) (fun _ => ?_)⟩
    · refine ⟨_, rfl, _, rfl, p, rfl, x, rfl, small _ (by omega), _, rfl, _, rfl, _, _, rfl, rfl, _, rfl, x, rfl, small _ (by omega), _, _, rfl, rfl, small _ (by rw [lS, lS]; omega), ?_⟩
      exact q _ _ (by rw [tl_app]; exact r1.app r3) (by rw [tl_app, List.length_append]; omega) xx (S6.mono (by omega))
    refine ⟨_, rfl, rfl, _, rfl, ite2 (fun _ => ?_) (fun _ => ?_)⟩
    · refine ⟨_, rfl, _, _, rfl, rfl, small _ (by show _ + 1 ≤ _; omega), ?_⟩
      exact q _ _ (by rw [tl_app]; exact rx.app rsp) (by rw [tl_app, List.length_append]; show _ + 1 ≤ _; omega) xx (S6.mono (by omega))
    refine ⟨_, rfl, rfl, _, rfl, ite2 (fun _ => ?_) (fun _ => ?_)⟩
    · refine ⟨_, rfl, _, _, rfl, rfl, small _ (by show 1 + _ ≤ _; omega), ?_⟩
      exact q _ _ (by rw [tl_app]; exact rsp.app rx) (by rw [tl_app, List.length_append]; show 1 + _ ≤ _; omega) xx (S6.mono (by omega))
    refine ⟨_, rfl, rfl, _, rfl, ite2 (fun _ => ?_) (fun _ => ?_)⟩
    · have sq := tl_rep_sp x (Str.ofString "  ")
      have hl : ((wds (tl x)).map fun l => l.length + 1).sum = (tl x).length + 1 := by
        have key : ∀ ls : List (List Nat), ls ≠ [] → (ls.map fun l => l.length + 1).sum = (TL.joinL [32] ls).length + 1 := by
          intro ls
          induction ls with
          | nil => intro h; exact absurd rfl h
          | cons u r ih =>
            intro _
            cases r with
            | nil => show u.length + 1 + 0 = _; rfl
            | cons v t =>
              rw [List.map_cons, List.sum_cons, ih (by simp)]
              show _ = (u ++ ([32] ++ TL.joinL [32] (v :: t))).length + 1
              rw [List.length_append, List.length_append]; show _ = _ + (1 + _) + 1; omega
        rw [key (wds (tl x)) (spl_ne _ _), wds_join]
      have hd : ∀ ls : List (List Nat), (TL.joinL (tl (Str.ofString "  ")) ls).length ≤ (ls.map fun l => l.length + 2).sum := by
        intro ls
        induction ls with
        | nil => exact Nat.le_refl _
        | cons u r ih =>
          cases r with
          | nil => show u.length ≤ u.length + 2 + 0; omega
          | cons v t =>
            rw [List.map_cons, List.sum_cons]
            show (u ++ (tl (Str.ofString "  ") ++ TL.joinL (tl (Str.ofString "  ")) (v :: t))).length ≤ _
            rw [List.length_append, List.length_append]
            show _ + (2 + _) ≤ _
            omega
      have hs : ∀ ls : List (List Nat), (ls.map fun l => l.length + 2).sum = (ls.map fun l => l.length + 1).sum + ls.length := by
        intro ls
        induction ls with
        | nil => rfl
        | cons u r ih => rw [List.map_cons, List.sum_cons, List.map_cons, List.sum_cons, ih, List.length_cons]; omega
      have hb := hd (wds (tl x))
      rw [hs, hl] at hb
      refine ⟨_, rfl, x, rfl, by show x.length + (x.length + 1) * 2 ≤ _; omega, q _ _ (rep_rw rx (List.all_eq_true.mp (by decide +kernel))) (by rw [sq]; omega) xx (S6.mono (by omega))⟩
    refine ⟨_, rfl, rfl, _, rfl, ite2 (fun _ => ?_) (fun _ => ?_)⟩
    · have wm : wl ∈ wds (tl x) := by rw [ew]; simp
      have ll := wds_len wm
      have at1 : atI (((wds (tl x)).map S).map V.str) ((((wds (tl x)).map S).map V.str).length - 1) = some (.str (S wl)) := by
        rw [nW]
        refine at_of (j := ws'.length) (by omega) ?_
        rw [List.getElem?_map, List.getElem?_map, ew, List.getElem?_append_right (Nat.le_refl _), Nat.sub_self]; rfl
      refine ⟨_, rfl, _, _, rfl, rfl, small _ (by show _ + 1 ≤ _; omega), _, rfl, _, rfl, B, _, rfl, .inl (SqL.of hB6), _, _, rfl, rfl, B, _, _, .str (S wl), rfl, rfl, SqL.of hB6, at1, _, _, rfl, rfl, small _ (by rw [lS, lS, tl_app, List.length_append, tl_S wl]; show _ + 1 + _ ≤ _; omega), ?_⟩
      exact q _ _ (by rw [tl_app, tl_app, tl_S wl]; exact (rx.app rsp).app (rx.wd wm)) (by rw [tl_app, tl_app, List.length_append, List.length_append, tl_S wl]; show _ + 1 + _ ≤ _; omega) xx (S6.mono (by omega))
    refine ⟨_, rfl, rfl, _, rfl, ite2 (fun _ => ?_) (fun _ => ?_)⟩
    · refine ⟨⟨_, rfl⟩, _, rfl, _, rfl, B, _, rfl, .inl (SqL.of hB6), _, _, rfl, rfl, _, rfl, B, _, rfl, SqL.of hB6, fun X hX => ?_⟩
      have cv : cutV (((wds (tl x)).map S).map V.str) none (some ((((wds (tl x)).map S).map V.str).length - 1)) = (ws'.map S).map V.str := by
        rw [nW, cutV_to (by omega), show ((ws'.length : Int) + 1 - 1).toNat = ws'.length by omega, ew, List.map_append, List.map_append, List.take_left' (by rw [List.length_map, List.length_map])]
      rw [cv]
      have wm : ∀ l ∈ ws', l ∈ wds (tl x) := fun l hl => by rw [ew]; exact List.mem_append_left _ hl
      have lj : (TL.joinL [32] ws').length ≤ (tl x).length := by
        have e := wds_join (tl x)
        rw [ew] at e
        rw [← e]
        have key : ∀ ls : List (List Nat), (TL.joinL [32] ls).length ≤ (TL.joinL [32] (ls ++ [wl])).length := by
          intro ls
          induction ls with
          | nil => exact Nat.zero_le _
          | cons u r ih =>
            cases r with
            | nil => show u.length ≤ (u ++ ([32] ++ wl)).length; rw [List.length_append]; omega
            | cons v t =>
              show (u ++ ([32] ++ TL.joinL [32] (v :: t))).length ≤ (u ++ ([32] ++ TL.joinL [32] (v :: t ++ [wl]))).length
              rw [List.length_append, List.length_append, List.length_append, List.length_append]
              omega
        exact key ws'
      have sm := sum_len (n := 700) (xs := ws'.map S) fun y hy => by
        obtain ⟨l, hl, rfl⟩ := List.mem_map.mp hy
        rw [tl_S]; have := wds_len (wm l hl); omega
      rw [List.length_map] at sm
      have wl2 : ws'.length ≤ 701 := by rw [ew, List.length_append] at wn; show _ ≤ 701; have : [wl].length = 1 := rfl; omega
      have tj : tl (Txt.join (Str.ofString " ") (ws'.map S)) = TL.joinL [32] ws' := by
        rw [tl_joinS, List.map_map]
        congr 1
        exact (List.map_congr_left fun d _ => tl_S d).trans (List.map_id _)
      refine ⟨_, X, ws'.map S, rfl, rfl, .inl (SqL.of upd_same), ?_, ?_⟩
      · rw [List.length_map]; show _ + ws'.length * 1 ≤ _
        have : ws'.length * 700 ≤ 701 * 700 := Nat.mul_le_mul_right _ wl2
        omega
      · refine q _ _ ?_ (by rw [tj]; omega) (xx.trans (Ext.new hX)) ((S6.new hX).mono (by omega))
        rw [tj]
        intro d hd
        rcases joinL_mem39 hd with e | ⟨l, hl, e⟩
        · exact rsp d e
        · exact rx.wd (wm l hl) d e
    refine ⟨_, rfl, rfl, _, rfl, ite2 (fun _ => ?_) (fun _ => ?_)⟩
    · refine ⟨_, rfl, _, rfl, by show 4 ≤ sizeLine; decide, fun Y hY => ?_⟩
      refine .inl ⟨s, a, Y, [V.int 1, V.int 2, V.int 52, V.int 59], c + 6, rfl, SqL.of upd_same, S6.ne hY, (fun h => (by cases h)), by show 4 ≤ 100000; decide, S6.new hY, fun z H7 zm x7 S7 => ?_⟩
      obtain ⟨k, rfl, k0, k1⟩ : ∃ k : Int, z = .int k ∧ 0 ≤ k ∧ k ≤ 59 := by
        simp only [List.mem_cons, List.not_mem_nil, or_false] at zm
        rcases zm with e | e | e | e <;> subst e <;> exact ⟨_, rfl, by decide, by decide⟩
      refine ⟨_, _, rfl, rfl, by omega, by omega, Nat.le_trans (Nat.mul_le_mul (show _ ≤ 1 from Nat.le_refl _) (show k.toNat ≤ 59 by omega)) (by decide), fun r hr2 => ?_⟩
      have lr : (tl r).length ≤ 59 := by rw [hr2, rep_len]; show k.toNat * 1 ≤ 59; omega
      have rr : Rw (tl r) := fun d hd => by rw [hr2] at hd; rw [List.mem_singleton.mp (rep_mem hd)]; decide +kernel
      refine ⟨_, _, rfl, rfl, small _ (by rw [lS, lS]; omega), ?_⟩
      exact q _ _ (by rw [tl_app]; exact rx.app rr) (by rw [tl_app, List.length_append]; omega) (xx.trans ((Ext.new hY).trans x7)) (S7.mono (by omega))
    have up := rw_upper rx
    exact ⟨_, rfl, ⟨_, rfl⟩, x, rfl, rfl, by omega, q _ _ up.1 (by omega) xx (S6.mono (by omega))⟩
end

end Z
namespace Z
open PySem L2 SX
section
variable {P : Program} {w : World} {K : PySem.W.Frag} {mg : Str → Option Value} {base : Heap}
theorem ok__law_word (D : Df K mg "_law_word" s__law_word ["source"]) (T : Tx mg)  (C__law_draw : Cal P w K mg base "_law_draw" ["source", "many"] 2 sp__law_draw) (C__law_key : Cal P w K mg base "_law_key" ["source"] 4 (sp39_text 200 130)) (C__law_new_name : Cal P w K mg base "_law_new_name" ["source", "used"] 3 (sp8__law_new_name K)) (C__law_pick : Cal P w K mg base "_law_pick" ["source", "row"] 3 (sp__law_pick K)) : Cal P w K mg base "_law_word" ["source"] 5 (sp39_text 1000 200) := by
  obtain ⟨f__law_draw, fd__law_draw, G__law_draw, g__law_draw, k__law_draw, b__law_draw⟩ := C__law_draw
  obtain ⟨f__law_key, fd__law_key, G__law_key, g__law_key, k__law_key, b__law_key⟩ := C__law_key
  obtain ⟨f__law_new_name, fd__law_new_name, G__law_new_name, g__law_new_name, k__law_new_name, b__law_new_name⟩ := C__law_new_name
  obtain ⟨f__law_pick, fd__law_pick, G__law_pick, g__law_pick, k__law_pick, b__law_pick⟩ := C__law_pick
  obtain ⟨f, fd, F, gf, bf⟩ := D
  refine ⟨f, fd, F.ok sc__law_word (fun vs H Q E h => ?_) (fun cdv A outer s₀ H vs Q E hr h => ?_), gf, F.kp, bf⟩
  · obtain ⟨s, a, c, rfl, _⟩ := h; rfl
  · obtain ⟨s, a, c, rfl, hS, q⟩ := h
    refine ⟨_, (pss_cons (ps_set (i := 1) sc__law_word.nd rfl (Or.inl rfl) (pe_call G__law_draw (hr.mono (by decide)) (by rfl) g__law_draw k__law_draw b__law_draw .nil pass0 (pa_cons (pv 0) (pa_cons pe_int pa_nil))))
      (pss_cons (ps_if (pt_cmpR op_eq (pv 1) pe_int (nomark _))
      (pss_one (ps_ret (pe_call G__law_pick (hr.mono (by decide)) (by rfl) g__law_pick k__law_pick b__law_pick .nil pass0 (pa_cons (pv 0) (pa_cons (pe_lst (pa_cons pe_str (pa_cons pe_str (pa_cons pe_str (pa_cons pe_str pa_nil))))) pa_nil)))))
      pss_nil)
      (pss_cons (ps_if (pt_cmpR op_eq (pv 1) pe_int (nomark _))
      (pss_cons (ps_set (i := 2) sc__law_word.nd rfl (Or.inl rfl) (pe_call G__law_pick (hr.mono (by decide)) (by rfl) g__law_pick k__law_pick b__law_pick .nil pass0 (pa_cons (pv 0) (pa_cons (pe_lst (pa_cons (pe_call G__law_new_name (hr.mono (by decide)) (by rfl) g__law_new_name k__law_new_name b__law_new_name .nil pass0 (pa_cons (pv 0) (pa_cons (pe_lst pa_nil) pa_nil))) (pa_cons (pe_op op_mul_str pe_str pe_int) (pa_cons pe_str pa_nil)))) pa_nil))))
        (pss_one (ps_ret (pe_op op_add_str (pe_op op_add_str (pe_op op_add_str pe_str (pv 2)) pe_str) (pe_call G__law_pick (hr.mono (by decide)) (by rfl) g__law_pick k__law_pick b__law_pick .nil pass0 (pa_cons (pv 0) (pa_cons (pe_lst (pa_cons (pe_call G__law_new_name (hr.mono (by decide)) (by rfl) g__law_new_name k__law_new_name b__law_new_name .nil pass0 (pa_cons (pv 0) (pa_cons (pe_lst pa_nil) pa_nil))) (pa_cons pe_str pa_nil))) pa_nil)))))))
      pss_nil)
      (pss_cons (ps_if (pt_cmpR op_eq (pv 1) pe_int (nomark _))
      (pss_cons (ps_set (i := 3) sc__law_word.nd rfl (Or.inl rfl) (pe_call G__law_pick (hr.mono (by decide)) (by rfl) g__law_pick k__law_pick b__law_pick .nil pass0 (pa_cons (pv 0) (pa_cons (pe_lst (pa_cons pe_int (pa_cons pe_int (pa_cons (pe_call G__law_draw (hr.mono (by decide)) (by rfl) g__law_draw k__law_draw b__law_draw .nil pass0 (pa_cons (pv 0) (pa_cons pe_int pa_nil))) (pa_cons (pe_call G__law_draw (hr.mono (by decide)) (by rfl) g__law_draw k__law_draw b__law_draw .nil pass0 (pa_cons (pv 0) (pa_cons pe_int pa_nil))) pa_nil))))) pa_nil))))
        (pss_cons (ps_set (i := 4) sc__law_word.nd rfl (Or.inl rfl) (pe_call G__law_pick (hr.mono (by decide)) (by rfl) g__law_pick k__law_pick b__law_pick .nil pass0 (pa_cons (pv 0) (pa_cons (pe_lst (pa_cons pe_int (pa_cons pe_int (pa_cons (pe_call G__law_draw (hr.mono (by decide)) (by rfl) g__law_draw k__law_draw b__law_draw .nil pass0 (pa_cons (pv 0) (pa_cons pe_int pa_nil))) (pa_cons (pe_call G__law_draw (hr.mono (by decide)) (by rfl) g__law_draw k__law_draw b__law_draw .nil pass0 (pa_cons (pv 0) (pa_cons pe_int pa_nil))) pa_nil))))) pa_nil))))
        (pss_one (ps_ret (pe_op op_add_str (pe_op op_add_str (pe_op op_add_str (pe_op op_add_str (pe_op op_add_str pe_str (pe_call G__law_key (hr.mono (by decide)) (by rfl) g__law_key k__law_key b__law_key .nil pass0 (pa_cons (pv 0) pa_nil))) pe_str) (pe_callTy call_strV (by rfl) T.n_str (by decide +kernel) (pa_cons (pv 3) pa_nil))) pe_str) (pe_callTy call_strV (by rfl) T.n_str (by decide +kernel) (pa_cons (pv 4) pa_nil)))))))
      pss_nil)
      (pss_cons (ps_set (i := 5) sc__law_word.nd rfl (Or.inl rfl) (pe_lst (pa_cons pe_str (pa_cons pe_str (pa_cons pe_str (pa_cons pe_str (pa_cons pe_str (pa_cons pe_str (pa_cons pe_str (pa_cons pe_str (pa_cons pe_str pa_nil)))))))))))
      (pss_one (ps_ret (pe_op op_add_str (pe_op op_add_str (pe_call G__law_pick (hr.mono (by decide)) (by rfl) g__law_pick k__law_pick b__law_pick .nil pass0 (pa_cons (pv 0) (pa_cons (pv 5) pa_nil))) pe_str) (pe_call G__law_key (hr.mono (by decide)) (by rfl) g__law_key k__law_key b__law_key .nil pass0 (pa_cons (pv 0) pa_nil)))))))))), ?_⟩
    have small : ∀ n : Nat, n ≤ 30000 → n ≤ sizeLine := fun n h => Nat.le_trans h (by decide)
    have lS : ∀ y : Str, y.length = (tl y).length := tl_len
    have lit : ∀ y : Str, (tl y).all rch = true → Rw (tl y) := fun y h => List.all_eq_true.mp h
    have rsp := lit (Str.ofString " ") (by decide +kernel)
    refine ⟨_, rfl, s, a, _, c + 999, rfl, by decide, by decide, hS, fun way H1 _ _ x1 S1 => ?_⟩
    refine ⟨_, rfl, rfl, _, rfl, ite2 (fun _ => ?_) (fun _ => ?_)⟩
    · refine ⟨_, rfl, by show 4 ≤ sizeLine; decide, fun L hL => ?_⟩
      refine .inl ⟨s, a, L, [Str.ofString ".", Str.ofString "close", Str.ofString "ready", Str.ofString "closed"].map V.str, c + 998, rfl, SqL.of upd_same, S1.ne hL, (fun h => (by cases h)), by show 4 ≤ 100000; decide, (S1.new hL).mono (by omega), fun w H2 wm x2 S2 => ?_⟩
      obtain ⟨y, rfl, ry, ly⟩ := row_strs (n := 9) wm (by decide +kernel)
      exact q y H2 ry (by omega) (x1.trans ((Ext.new hL).trans x2)) (S2.mono (by omega))
    refine ⟨_, rfl, rfl, _, rfl, ite2 (fun _ => ?_) (fun _ => ?_)⟩
    · refine ⟨_, rfl, _, rfl, Nat.zero_le _, fun U hU => ?_⟩
      refine ⟨s, a, U, [], c + 980, rfl, SqL.of upd_same, S1.ne hU, by decide, (S1.new hU).mono (by omega), fun n1 H2 N1 l1 x2 S2 => ?_⟩
      refine ⟨_, _, rfl, rfl, by decide, by decide, by decide, fun r hr2 => ?_⟩
      have lr : (tl r).length = 8 := by rw [hr2, rep_len]; rfl
      have rr : Rw (tl r) := fun d hd => by rw [hr2] at hd; rw [List.mem_singleton.mp (rep_mem hd)]; decide +kernel
      refine ⟨by show 3 ≤ sizeLine; decide, fun L hL => ?_⟩
      refine .inl ⟨s, a, L, [n1, r, Str.ofString "b"].map V.str, c + 979, rfl, SqL.of upd_same, S2.ne hL, (fun h => (by cases h)), by show 3 ≤ 100000; decide, (S2.new hL).mono (by omega), fun w H3 wm x3 S3 => ?_⟩
      obtain ⟨f, rfl, rf, lf⟩ : ∃ f : Str, w = .str f ∧ Rw (tl f) ∧ (tl f).length ≤ 8 := by
        obtain ⟨f, m, rfl⟩ := List.mem_map.mp wm
        simp only [List.mem_cons, List.not_mem_nil, or_false] at m
        rcases m with e | e | e <;> subst e
        · exact ⟨_, rfl, N1.2.rw, l1⟩
        · exact ⟨_, rfl, rr, by omega⟩
        · exact ⟨_, rfl, lit _ (by decide +kernel), by decide⟩
      have e3 : Ext s H H3 := x1.trans (((Ext.new hU).trans x2).trans ((Ext.new hL).trans x3))
      have r1 : Rw (tl (Str.ofString "open " ++ f ++ Str.ofString " ")) := by rw [tl_app, tl_app]; exact ((lit (Str.ofString "open ") (by decide +kernel)).app rf).app rsp
      have l2 : (tl (Str.ofString "open " ++ f ++ Str.ofString " ")).length ≤ 14 := by rw [tl_app, tl_app, List.length_append, List.length_append]; show 5 + _ + 1 ≤ 14; omega
      have lF := lS f
      refine ⟨_, rfl, _, _, rfl, rfl, small _ (by show 5 + _ ≤ _; omega), _, _, rfl, rfl, small _ (by rw [lS, tl_app, List.length_append]; show 5 + _ + 1 ≤ _; omega), ?_⟩
      refine ⟨_, rfl, _, rfl, Nat.zero_le _, fun U2 hU2 => ?_⟩
      refine ⟨s, a, U2, [], c + 960, rfl, SqL.of upd_same, S3.ne hU2, by decide, (S3.new hU2).mono (by omega), fun n2 H4 N2 l3 x4 S4 => ?_⟩
      refine ⟨by show 2 ≤ sizeLine; decide, fun L2 hL2 => ?_⟩
      refine .inl ⟨s, a, L2, [n2, Str.ofString "z2345678"].map V.str, c + 959, rfl, SqL.of upd_same, S4.ne hL2, (fun h => (by cases h)), by show 2 ≤ 100000; decide, (S4.new hL2).mono (by omega), fun w H5 wm2 x5 S5 => ?_⟩
      obtain ⟨g, rfl, rg, lg⟩ : ∃ f : Str, w = .str f ∧ Rw (tl f) ∧ (tl f).length ≤ 8 := by
        obtain ⟨f, m, rfl⟩ := List.mem_map.mp wm2
        simp only [List.mem_cons, List.not_mem_nil, or_false] at m
        rcases m with e | e <;> subst e
        · exact ⟨_, rfl, N2.2.rw, l3⟩
        · exact ⟨_, rfl, lit _ (by decide +kernel), by decide⟩
      refine ⟨_, _, rfl, rfl, small _ (by rw [lS, lS]; omega), ?_⟩
      exact q _ H5 (by rw [tl_app]; exact r1.app rg) (by rw [tl_app, List.length_append]; omega) (e3.trans (((Ext.new hU2).trans x4).trans ((Ext.new hL2).trans x5))) (S5.mono (by omega))
    refine ⟨_, rfl, rfl, _, rfl, ite2 (fun _ => ?_) (fun _ => ?_)⟩
    · refine ⟨_, rfl, _, rfl, s, a, _, c + 998, rfl, by decide, by decide, S1.mono (by omega), fun v1 H2 a0 a1 x2 S2 => ?_⟩
      refine ⟨_, rfl, s, a, _, c + 997, rfl, by decide, by decide, S2.mono (by omega), fun v2 H3 b0 b1 x3 S3 => ?_⟩
      refine ⟨by show 4 ≤ sizeLine; decide, fun L hL => ?_⟩
      refine .inl ⟨s, a, L, [V.int 0, V.int 999, V.int v1, V.int v2], c + 996, rfl, SqL.of upd_same, S3.ne hL, (fun h => (by cases h)), by show 4 ≤ 100000; decide, (S3.new hL).mono (by omega), fun w H4 wm x4 S4 => ?_⟩
      obtain ⟨h, rfl, hh⟩ : ∃ h : Nat, w = .int (h : Int) ∧ h < 10 ^ 7 := by
        simp only [List.mem_cons, List.not_mem_nil, or_false] at wm
        rcases wm with e | e | e | e <;> subst e
        · exact ⟨0, rfl, by decide⟩
        · exact ⟨999, rfl, by decide⟩
        · exact ⟨v1.toNat, by rw [Int.toNat_of_nonneg a0], by omega⟩
        · exact ⟨v2.toNat, by rw [Int.toNat_of_nonneg b0], by omega⟩
      refine ⟨_, rfl, _, rfl, s, a, _, c + 995, rfl, by decide, by decide, S4.mono (by omega), fun v3 H5 c0 c1 x5 S5 => ?_⟩
      refine ⟨_, rfl, s, a, _, c + 994, rfl, by decide, by decide, S5.mono (by omega), fun v4 H6 d0 d1 x6 S6 => ?_⟩
      refine ⟨by show 4 ≤ sizeLine; decide, fun L2 hL2 => ?_⟩
      refine .inl ⟨s, a, L2, [V.int 0, V.int 9999999, V.int v3, V.int v4], c + 993, rfl, SqL.of upd_same, S6.ne hL2, (fun h => (by cases h)), by show 4 ≤ 100000; decide, (S6.new hL2).mono (by omega), fun w H7 wm2 x7 S7 => ?_⟩
      obtain ⟨d, rfl, hd⟩ : ∃ h : Nat, w = .int (h : Int) ∧ h < 10 ^ 7 := by
        simp only [List.mem_cons, List.not_mem_nil, or_false] at wm2
        rcases wm2 with e | e | e | e <;> subst e
        · exact ⟨0, rfl, by decide⟩
        · exact ⟨9999999, rfl, by decide⟩
        · exact ⟨v3.toNat, by rw [Int.toNat_of_nonneg c0], by omega⟩
        · exact ⟨v4.toNat, by rw [Int.toNat_of_nonneg d0], by omega⟩
      have e7 : Ext s H H7 := x1.trans ((x2.trans (x3.trans ((Ext.new hL).trans x4))).trans (x5.trans (x6.trans ((Ext.new hL2).trans x7))))
      refine ⟨_, rfl, s, a, c + 700, rfl, S7.mono (by omega), fun ky H8 rk lk x8 S8 => ?_⟩
      have lK := lS ky
      have lh := TL.numL_len (n := h) (k := 7) (by decide) hh
      have ld := TL.numL_len (n := d) (k := 7) (by decide) hd
      have eh : (Str.ofString (toString ((h : Nat) : Int))) = S (TL.numL h) := num_S h
      have ed : (Str.ofString (toString ((d : Nat) : Int))) = S (TL.numL d) := num_S d
      refine ⟨_, _, rfl, rfl, small _ (by show 6 + _ ≤ _; omega), _, _, rfl, rfl, small _ (by rw [lS, tl_app, List.length_append]; show 6 + _ + 1 ≤ _; omega), ?_⟩
      have l1 : (tl (Str.ofString "offer " ++ ky ++ Str.ofString " ")).length ≤ 137 := by rw [tl_app, tl_app, List.length_append, List.length_append]; show 6 + _ + 1 ≤ 137; omega
      have r1 : Rw (tl (Str.ofString "offer " ++ ky ++ Str.ofString " ")) := by rw [tl_app, tl_app]; exact ((lit (Str.ofString "offer ") (by decide +kernel)).app rk).app rsp
      have l1' := lS (Str.ofString "offer " ++ ky ++ Str.ofString " ")
      generalize Str.ofString "offer " ++ ky ++ Str.ofString " " = A1 at l1 r1 l1' ⊢
      refine ⟨_, rfl, .inl ⟨_, rfl, log_b (Nat.lt_trans hh (by decide)), ?_⟩⟩
      have l2 : (A1 ++ Str.ofString (toString ((h : Nat) : Int)) ++ Str.ofString " ").length ≤ 145 := by rw [lS, tl_app, tl_app, List.length_append, List.length_append, num_S, tl_S (TL.numL h)]; show _ + _ + 1 ≤ 145; omega
      have l2a : (A1 ++ Str.ofString (toString ((h : Nat) : Int))).length ≤ 144 := by rw [lS, tl_app, List.length_append, num_S, tl_S (TL.numL h)]; omega
      have r2 : Rw (tl (A1 ++ Str.ofString (toString ((h : Nat) : Int)) ++ Str.ofString " ")) := by rw [tl_app, tl_app, num_S, tl_S (TL.numL h)]; exact (r1.app (low_num h).rw).app rsp
      have hl : (Str.ofString (toString ((h : Nat) : Int))).length ≤ 7 := by rw [num_S, S_len]; exact lh
      have dl : (Str.ofString (toString ((d : Nat) : Int))).length ≤ 7 := by rw [num_S, S_len]; exact ld
      refine ⟨_, _, rfl, rfl, small _ (by show A1.length + (Str.ofString (toString ((h : Nat) : Int))).length ≤ _; omega), _, _, rfl, rfl, small _ (by show (A1 ++ Str.ofString (toString ((h : Nat) : Int))).length + 1 ≤ _; omega), ?_⟩
      refine ⟨_, rfl, .inl ⟨_, rfl, log_b (Nat.lt_trans hd (by decide)), ?_⟩⟩
      refine ⟨_, _, rfl, rfl, small _ (by show (A1 ++ Str.ofString (toString ((h : Nat) : Int)) ++ Str.ofString " ").length + (Str.ofString (toString ((d : Nat) : Int))).length ≤ _; omega), ?_⟩
      have l2' := lS (A1 ++ Str.ofString (toString ((h : Nat) : Int)) ++ Str.ofString " ")
      refine q (A1 ++ Str.ofString (toString ((h : Nat) : Int)) ++ Str.ofString " " ++ Str.ofString (toString ((d : Nat) : Int))) H8 ?_ ?_ (e7.trans x8) (S8.mono (by omega))
      · rw [tl_app, ed, tl_S (TL.numL d)]; exact r2.app (low_num d).rw
      · rw [tl_app, List.length_append, ed, tl_S (TL.numL d)]; omega
    refine ⟨by show 9 ≤ sizeLine; decide, fun L hL => ?_⟩
    refine ⟨_, rfl, _, rfl, .inl ⟨s, a, L, K9s.map V.str, c + 998, rfl, SqL.of upd_same, S1.ne hL, (fun h => (by cases h)), by show 9 ≤ 100000; decide, (S1.new hL).mono (by omega), fun w H2 wm x2 S2 => ?_⟩⟩
    obtain ⟨y, rfl, ry, ly⟩ := row_strs (n := 9) wm (by decide +kernel)
    have lY := lS y
    refine ⟨_, _, rfl, rfl, small _ (by show _ + 1 ≤ _; omega), ?_⟩
    refine ⟨_, rfl, s, a, c + 700, rfl, S2.mono (by omega), fun ky H3 rk lk x3 S3 => ?_⟩
    have lK := lS ky
    have l1 : (tl (y ++ Str.ofString " ")).length ≤ 10 := by rw [tl_app, List.length_append]; show _ + 1 ≤ 10; omega
    have l1' := lS (y ++ Str.ofString " ")
    refine ⟨_, _, rfl, rfl, small _ (by omega), ?_⟩
    exact q _ H3 (by rw [tl_app, tl_app]; exact (ry.app rsp).app rk) (by rw [tl_app, List.length_append]; omega) (x1.trans ((Ext.new hL).trans (x2.trans x3))) (S3.mono (by omega))
end
section
variable {P : Program} {w : World} {K : PySem.W.Frag} {mg : Str → Option Value} {base : Heap}
theorem ok__law_row_right (D : Df K mg "_law_row_right" s__law_row_right ["row"]) (T : Tx mg)  (C__law_same : Cal P w K mg base "_law_same" ["actual", "due"] 3 (sp__law_same K 2)) (C_stuffed : Cal P w K mg base "stuffed" ["row"] 1 sp39_stuffed) (C_unstuffed : Cal P w K mg base "unstuffed" ["word"] 1 sp39_unstuffed) : Cal P w K mg base "_law_row_right" ["row"] 4 sp39_row_right := by
  obtain ⟨f__law_same, fd__law_same, G__law_same, g__law_same, k__law_same, b__law_same⟩ := C__law_same
  obtain ⟨f_stuffed, fd_stuffed, G_stuffed, g_stuffed, k_stuffed, b_stuffed⟩ := C_stuffed
  obtain ⟨f_unstuffed, fd_unstuffed, G_unstuffed, g_unstuffed, k_unstuffed, b_unstuffed⟩ := C_unstuffed
  obtain ⟨f, fd, F, gf, bf⟩ := D
  refine ⟨f, fd, F.ok sc__law_row_right (fun vs H Q E h => ?_) (fun cdv A outer s₀ H vs Q E hr h => ?_), gf, F.kp, bf⟩
  · obtain ⟨x, rfl, _⟩ := h; rfl
  · obtain ⟨x, rfl, xl, q⟩ := h
    refine ⟨_, (pss_cons (ps_set (i := 1) sc__law_row_right.nd rfl (Or.inl rfl) (pv 0))
      (C8.pss_cut (ps_if (pt_cmpR op_eq (pe_slice sl_str (pv 0) po_none (po_some pe_int)) pe_str (nomark _))
      (pss_one (ps_set (i := 1) sc__law_row_right.nd rfl (Or.inl rfl) (pe_op op_add_str pe_str (pv 0))))
      pss_nil)
      (pss_one (ps_ret (pe_and (pe_call G__law_same (hr.mono (by decide)) (by rfl) g__law_same k__law_same b__law_same .nil pass0 (pa_cons (pe_call G_stuffed (hr.mono (by decide)) (by rfl) g_stuffed k_stuffed b_stuffed .nil pass0 (pa_cons (pv 0) pa_nil)) (pa_cons (pv 1) pa_nil))) (pe_one (pe_call G__law_same (hr.mono (by decide)) (by rfl) g__law_same k__law_same b__law_same .nil pass0 (pa_cons (pe_call G_unstuffed (hr.mono (by decide)) (by rfl) g_unstuffed k_unstuffed b_unstuffed .nil pass0 (pa_cons (pv 1) pa_nil)) (pa_cons (pv 0) pa_nil))))))))), ?_⟩
    have small : ∀ n : Nat, n ≤ 30000 → n ≤ sizeLine := fun n h => Nat.le_trans h (by decide)
    have lx := tl_len x
    refine ⟨_, rfl, ?_⟩
    refine ⟨fun σ' H' => ∃ d : Str, σ' = [some (.str x), some (.str d)] ∧ H' = H ∧ tl d = stuffL (tl x), ?_, ?_⟩
    · refine ⟨_, rfl, 1, rfl, x, rfl, small _ (by omega), rfl, _, rfl, ite2 (fun cc => ?_) (fun cc => ⟨x, rfl, rfl, ?_⟩)⟩
      · have e : tl (cutS x none (some 1)) = [46] := eqL.mp (of_decide_eq_true cc)
        have e2 : (tl x).take 1 = [46] := by rw [← e, cutS_to (by decide)]; rfl
        refine ⟨_, rfl, _, _, rfl, rfl, small _ (by show 1 + _ ≤ _; omega), _, rfl, rfl, ?_⟩
        unfold stuffL
        rw [tl_app, if_pos e2]; rfl
      · unfold stuffL
        rw [if_neg fun e => cc (decide_eq_true (eqL.mpr ?_))]
        rw [cutS_to (by decide)]; exact e
    rintro σ' H' ⟨d, rfl, rfl, ed⟩
    refine ⟨_, rfl, x, rfl, by omega, fun y ey => ?_⟩
    have e1 : y = d := tl_ext (ey.trans ed.symm)
    subst e1
    refine ⟨_, rfl, .str y, _, _, rfl, by unfold DV; rfl, by unfold DV; rfl, True.intro, _, rfl, iteGo rfl ?_⟩
    refine ⟨_, rfl, y, rfl, ?_, fun z ez => ?_⟩
    · rw [ed]; unfold stuffL; split
      · show (tl x).length + 1 ≤ 2001; omega
      · omega
    have e2 : z = x := tl_ext (by
      rw [ez, ed]
      unfold stuffL unstL
      by_cases h : (tl x).take 1 = [46]
      · rw [if_pos h, if_pos (by rfl)]; rfl
      · rw [if_neg h, if_neg h])
    subst e2
    exact ⟨_, rfl, .str z, _, _, rfl, by unfold DV; rfl, by unfold DV; rfl, True.intro, q _ (Same.refl _)⟩
end

end Z
namespace Z
open PySem L2 SX
def sp39_hot : Sp := fun vs H Q _ => ∃ (x : Str), vs = [.str x, .str x] ∧ Q (.bl true) H
section
variable {P : Program} {w : World} {K : PySem.W.Frag} {mg : Str → Option Value} {base : Heap}
theorem ok_hotsame (D : Df K mg "_law_same" s__law_same ["actual", "due"]) (T : Tx mg) : CalL P w K mg base "_law_same" ["actual", "due"] 1 sp39_hot := by
  obtain ⟨f, fd, F, gf, bf⟩ := D
  refine ⟨f, fd, Fun.okL F sc__law_same (fun vs H Q E h => ?_) (fun cdv A outer s₀ H vs Q E h => ?_), gf, F.kp, bf⟩
  · obtain ⟨x, rfl, _⟩ := h; rfl
  · obtain ⟨x, rfl, q⟩ := h
    refine ⟨_, (pss_cons (ps_if (pt_val (pe_callB call_isi (by rfl) T.n_isinstance (by decide +kernel) (pa_cons (pv 1) (pa_cons (pe_bltn (v := .ty "tuple") (by rfl) T.n_tuple (by decide +kernel) rfl) pa_nil)))) pss_dead pss_nil)
      (pss_cons (ps_if (pt_cmpR op_isN (pv 1) pe_non (nomark _)) pss_dead pss_nil)
      (pss_cons (ps_if (pt_val (pe_callB call_isi (by rfl) T.n_isinstance (by decide +kernel) (pa_cons (pv 1) (pa_cons (pe_bltn (v := .ty "bool") (by rfl) T.n_bool (by decide +kernel) rfl) pa_nil)))) pss_dead pss_nil)
      (pss_cons (ps_if (pt_val (pe_callB call_isi (by rfl) T.n_isinstance (by decide +kernel) (pa_cons (pv 1) (pa_cons (pe_bltn (v := .ty "int") (by rfl) T.n_int (by decide +kernel) rfl) pa_nil)))) pss_dead pss_nil)
      (pss_one (ps_ret (pe_and (pe_callB call_isi (by rfl) T.n_isinstance (by decide +kernel) (pa_cons (pv 0) (pa_cons (pe_bltn (v := .ty "str") (by rfl) T.n_str (by decide +kernel) rfl) pa_nil))) (pe_one (pe_cmpR op_eq (pv 0) (pv 1) (nomark _)))))))))), ?_⟩
    refine ⟨_, rfl, _, _, _, _, false, rfl, .ty _, .base (.str x), kit_ty (by decide +kernel), _, rfl, iteF ?_⟩
    refine ⟨_, rfl, rfl, _, rfl, iteF ?_⟩
    refine ⟨_, rfl, _, _, _, _, false, rfl, .ty _, .base (.str x), kit_ty (by decide +kernel), _, rfl, iteF ?_⟩
    refine ⟨_, rfl, _, _, _, _, false, rfl, .ty _, .base (.str x), kit_ty (by decide +kernel), _, rfl, iteF ?_⟩
    refine ⟨_, rfl, _, _, _, _, true, rfl, .ty _, .base (.str x), kit_ty (by decide +kernel), _, rfl, iteT ?_⟩
    refine ⟨_, rfl, _, rfl, rfl, ?_⟩
    rw [decide_eq_true rfl]; exact q
end
end Z
namespace Z
open PySem L2 SX
theorem Lf.eq {K : PySem.W.Frag} {H : Hp} : ∀ {ds : List D} {us : List V}, Lf ds → DVs K H ds us → us = ds.map dV
  | [], us, _, h => by unfold DVs at h; exact h
  | d :: ds, us, l, h => by
    obtain ⟨v, r, rfl, hv, hr⟩ := h
    rw [List.map_cons, ← Lf.eq (fun x hx => l x (List.mem_cons_of_mem _ hx)) hr]
    congr 1
    rcases l d (by simp) with ⟨x, rfl, _⟩ | ⟨n, rfl, _⟩ <;> (unfold DV at hv; exact hv)
theorem Lf.dl {ds : List D} (l : Lf ds) (h : ds.length ≤ 4) : DL 2 (.tup ds) := ⟨by omega, fun d hd => by rcases l d hd with ⟨x, rfl, _⟩ | ⟨n, rfl, _⟩ <;> exact True.intro⟩
def W0 : List Str := [Str.ofString "", Str.ofString " ", Str.ofString "  ", Str.ofString "hello", Str.ofString "Open a b", Str.ofString "open a", Str.ofString "open a b c", Str.ofString "offer 1@a 1", Str.ofString "offer 1@a 1 2 3", Str.ofString "want a b"] ++
  [Str.ofString "offer 1@a 1000 2", Str.ofString "offer 1@a 1 10000000", Str.ofString "offer 1@a -1 2", Str.ofString "offer 1@a 01 2", Str.ofString "offer 1@a 1 2"] ++
  [Str.ofString "..", Str.ofString "close ", Str.ofString "ready x", Str.ofString "want", Str.ofString "body", Str.ofString "offer hello 0 0", Str.ofString "want a", Str.ofString "open a a"]
theorem w0_ok : ∀ x ∈ W0, (tl x).all rch = true ∧ (tl x).length ≤ 30 := by decide +kernel
def R0 : List Str := [Str.ofString "", Str.ofString ".", Str.ofString "..", Str.ofString "...", Str.ofString ".x", Str.ofString "x.", Str.ofString " .", Str.ofString ". .", Str.ofString "close"]
theorem r0_ok : ∀ x ∈ R0, (tl x).length ≤ 30 := by decide +kernel
section
variable {P : Program} {w : World} {K : PySem.W.Frag} {mg : Str → Option Value} {base : Heap}
theorem ok__law_read_right (D : Df K mg "_law_read_right" s__law_read_right ["word"]) (T : Tx mg) {A_MootError A_TextError A_LimitError A_BadWord : Addr} (Y : Tc K mg A_MootError A_TextError A_LimitError A_BadWord) (C__law_parts : Cal P w K mg base "_law_parts" ["word"] 2 (sp39_law_parts K)) (C__law_same : Cal P w K mg base "_law_same" ["actual", "due"] 3 (sp__law_same K 2)) (C_read_word : CalX P w K mg base "read_word" ["word"] 4 (sp39_read_word K A_BadWord)) (C_write_word : Cal P w K mg base "write_word" ["parts"] 1 (sp39_write_word K)) (C_hotsame : CalL P w K mg base "_law_same" ["actual", "due"] 1 sp39_hot) : Cal P w K mg base "_law_read_right" ["word"] 5 sp39_right := by
  obtain ⟨f__law_parts, fd__law_parts, G__law_parts, g__law_parts, k__law_parts, b__law_parts⟩ := C__law_parts
  obtain ⟨f__law_same, fd__law_same, G__law_same, g__law_same, k__law_same, b__law_same⟩ := C__law_same
  obtain ⟨f_hotsame, fd_hotsame, G_hotsame, g_hotsame, k_hotsame, b_hotsame⟩ := C_hotsame
  obtain ⟨f_read_word, fd_read_word, G_read_word, g_read_word, k_read_word, b_read_word⟩ := C_read_word
  obtain ⟨f_write_word, fd_write_word, G_write_word, g_write_word, k_write_word, b_write_word⟩ := C_write_word
  obtain ⟨f, fd, F, gf, bf⟩ := D
  refine ⟨f, fd, F.ok sc__law_read_right (fun vs H Q E h => ?_) (fun cdv A outer s₀ H vs Q E hr h => ?_), gf, F.kp, bf⟩
  · obtain ⟨x, rfl, _⟩ := h; rfl
  · obtain ⟨x, rfl, xl, rx, q⟩ := h
    refine ⟨_, (pss_cons (ps_set (i := 1) sc__law_read_right.nd rfl (Or.inl rfl) (pe_call G__law_parts (hr.mono (by decide)) (by rfl) g__law_parts k__law_parts b__law_parts .nil pass0 (pa_cons (pv 0) pa_nil)))
      (pss_cons (ps_try_as (i := 3) rfl rfl sc__law_read_right.nd rfl rfl ⟨rfl, by decide, Or.inl Y.g_MootError⟩ takes0 (fun W pn xe tk _ => (pss_one (ps_set (i := 2) sc__law_read_right.nd rfl (Or.inl rfl) (pe_callS G_read_word (hr.mono (by decide)) (by rfl) g_read_word k_read_word b_read_word (fun σ => passAt tk σ) (pa_cons (pv 0) pa_nil)))))
      (fun a oe cls d pn hz hf => (pss_cons (ps_if (PW.pt (pw_or (pt_cmpR op_notN (pv 1) pe_non (nomark _)) (pw_or (pt_not (pt_val (pe_callB (call_isX hz hf) (by rfl) T.n_isinstance (by decide +kernel) (pa_cons (pv 3) (pa_cons (pe_glob (v := .ref A_BadWord) (by rfl) Y.g_BadWord rfl) pa_nil))))) (pw_or1 (pt_val (pe_callB (call_isX hz hf) (by rfl) T.n_isinstance (by decide +kernel) (pa_cons (pv 3) (pa_cons (pe_glob (v := .ref A_TextError) (by rfl) Y.g_TextError rfl) pa_nil))))))))
        (pss_one (ps_ret pe_bl))
        pss_nil)
        (pss_one (ps_ret (pe_and (pe_not (pe_callB (call_isX hz hf) (by rfl) T.n_isinstance (by decide +kernel) (pa_cons (pv 3) (pa_cons (pe_glob (v := .ref A_LimitError) (by rfl) Y.g_LimitError rfl) pa_nil)))) (pe_one (pe_callL G_hotsame (room_suite hr) (by rfl) g_hotsame k_hotsame b_hotsame (pa_cons (pe_xf Y.e_BadWord.xf Y.n_BadWord_word hz hf (pv 3)) (pa_cons (pv 0) pa_nil))))))))))
      (pss_one (ps_ret (pe_and (pe_cmpR op_notN (pv 1) pe_non (nomark _)) (pe_and (pe_call G__law_same (hr.mono (by decide)) (by rfl) g__law_same k__law_same b__law_same .nil pass0 (pa_cons (pv 2) (pa_cons (pv 1) pa_nil))) (pe_one (pe_call G__law_same (hr.mono (by decide)) (by rfl) g__law_same k__law_same b__law_same .nil pass0 (pa_cons (pe_call G_write_word (hr.mono (by decide)) (by rfl) g_write_word k_write_word b_write_word .nil pass0 (pa_cons (pv 1) pa_nil)) (pa_cons (pv 0) pa_nil)))))))))), ?_⟩
    refine ⟨_, rfl, x, rfl, xl, fun u H1 m1 du => ?_⟩
    refine ⟨_, rfl, x, rfl, xl, rx, fun ds e u2 H2 m2 d2 => ?_, fun e dd H2 m2 hd => ⟨true, Y.m_BadWord_MootError, fun _ a ha => ?_, fun h => Bool.noConfusion h⟩⟩
    · have du' : DV K H1 (.tup ds) u := by unfold dueD at du; rw [e] at du; exact du
      obtain ⟨lf, l4⟩ := due_lf (fun q m => Nat.le_trans (wds_len m) xl) e
      have hT2 := DV.same m2 du'
      obtain ⟨t, us, rfl, hT, hds⟩ := hT2
      have eu := lf.eq hds
      refine ⟨_, rfl, rfl, _, rfl, iteGo (by simp) ?_⟩
      refine ⟨_, rfl, _, rfl, .tup ds, _, _, rfl, d2, ⟨t, us, rfl, hT, hds⟩, lf.dl l4, _, rfl, iteGo rfl ?_⟩
      refine ⟨_, rfl, t, ds, rfl, by rw [← eu]; exact hT, lf, l4, fun y H3 ey m3 => ?_⟩
      have eyx : y = x := tl_ext (by rw [ey, due_text e, wds_join])
      subst eyx
      exact ⟨_, rfl, .str y, _, _, rfl, by unfold DV; rfl, by unfold DV; rfl, True.intro, q _ ((m1.trans m2).trans m3)⟩
    have du' : DV K H1 .non u := by unfold dueD at du; rw [e] at du; exact du
    obtain rfl : u = .non := by unfold DV at du'; exact du'
    refine ⟨_, rfl, rfl, _, rfl, iteNo (by simp) ?_⟩
    refine ⟨_, rfl, A_BadWord, dd, _, _, true, _, rfl, rfl, Y.e_BadWord.e, rfl, hd, .own _, Y.k_BadWord_BadWord, _, rfl, iteF ?_⟩
    refine ⟨_, rfl, A_BadWord, dd, _, _, false, _, rfl, rfl, Y.e_BadWord.e, rfl, hd, .own _, Y.k_BadWord_TextError, _, rfl, iteF ?_⟩
    refine ⟨_, rfl, A_BadWord, dd, _, _, false, _, rfl, rfl, Y.e_BadWord.e, rfl, hd, .own _, Y.k_BadWord_LimitError, _, rfl, _, rfl, iteGo rfl ?_⟩
    exact ⟨_, rfl, rfl, rfl, dd, _, _, rfl, hd, rfl, _, rfl, x, rfl, q _ (m1.trans m2)⟩
end
section
variable {P : Program} {w : World} {K : PySem.W.Frag} {mg : Str → Option Value} {base : Heap}
theorem ok_law {f : Addr} {fd : FuncData} (F : Fun K "law" "law" s_law f fd) (T : Tx mg)  (C__law_bent : Cal P w K mg base "_law_bent" ["source", "word"] 4 sp39_bent) (C__law_draw : Cal P w K mg base "_law_draw" ["source", "many"] 2 sp__law_draw) (C__law_read_right : Cal P w K mg base "_law_read_right" ["word"] 5 sp39_right) (C__law_row : Cal P w K mg base "_law_row" ["source", "size"] 3 sp39_law_row) (C__law_row_right : Cal P w K mg base "_law_row_right" ["row"] 4 sp39_row_right) (C__law_source : Cal P w K mg base "_law_source" ["script"] 2 (sp__law_source K)) (C__law_word : Cal P w K mg base "_law_word" ["source"] 5 (sp39_text 1000 200)) : FnOk P w K mg base CX0 6 f fd ["script"] (sp_law K) := by
  obtain ⟨f__law_bent, fd__law_bent, G__law_bent, g__law_bent, k__law_bent, b__law_bent⟩ := C__law_bent
  obtain ⟨f__law_draw, fd__law_draw, G__law_draw, g__law_draw, k__law_draw, b__law_draw⟩ := C__law_draw
  obtain ⟨f__law_read_right, fd__law_read_right, G__law_read_right, g__law_read_right, k__law_read_right, b__law_read_right⟩ := C__law_read_right
  obtain ⟨f__law_row, fd__law_row, G__law_row, g__law_row, k__law_row, b__law_row⟩ := C__law_row
  obtain ⟨f__law_row_right, fd__law_row_right, G__law_row_right, g__law_row_right, k__law_row_right, b__law_row_right⟩ := C__law_row_right
  obtain ⟨f__law_source, fd__law_source, G__law_source, g__law_source, k__law_source, b__law_source⟩ := C__law_source
  obtain ⟨f__law_word, fd__law_word, G__law_word, g__law_word, k__law_word, b__law_word⟩ := C__law_word
  refine F.ok sc_law (fun vs H Q E h => ?_) (fun cdv A outer s₀ H vs Q E hr h => ?_)
  · obtain ⟨a, ns, rfl, _⟩ := h; rfl
  · obtain ⟨a, ns, rfl, hA, hlen, q⟩ := h
    refine ⟨_, (pss_cons (ps_set (i := 1) sc_law.nd rfl (Or.inl rfl) (pe_call G__law_source (hr.mono (by decide)) (by rfl) g__law_source k__law_source b__law_source .nil pass0 (pa_cons (pv 0) pa_nil)))
      (pss_cons (ps_set (i := 2) sc_law.nd rfl (Or.inl rfl) (pe_lst (pa_cons pe_str (pa_cons pe_str (pa_cons pe_str (pa_cons pe_str (pa_cons pe_str (pa_cons pe_str (pa_cons pe_str (pa_cons pe_str (pa_cons pe_str (pa_cons pe_str pa_nil))))))))))))
      (pss_cons (ps_set (i := 2) sc_law.nd rfl (Or.inl rfl) (pe_op L2.op_cat (pv 2) (pe_lst (pa_cons pe_str (pa_cons pe_str (pa_cons pe_str (pa_cons pe_str (pa_cons pe_str pa_nil))))))))
      (pss_cons (ps_set (i := 2) sc_law.nd rfl (Or.inl rfl) (pe_op L2.op_cat (pv 2) (pe_lst (pa_cons pe_str (pa_cons pe_str (pa_cons pe_str (pa_cons pe_str (pa_cons pe_str (pa_cons pe_str (pa_cons pe_str (pa_cons pe_str pa_nil)))))))))))
      (pss_cons (ps_for PassesOwn.never rfl (pi_range1 (by rfl) T.n_range (pa_cons pe_int pa_nil)) (pg_name (i := 3) sc_law.nd rfl (Or.inl rfl))
      (pss_cons (ps_set (i := 4) sc_law.nd rfl (Or.inl rfl) (pe_call G__law_word (hr.mono (by decide)) (by rfl) g__law_word k__law_word b__law_word .nil pass0 (pa_cons (pv 1) pa_nil)))
        (pss_cons (ps_expr (pe_bm PySem.F.plainAttrs_list PySem.F.slot_list_append PySem.F.type_list_append mt_append (pv 2) (pa_cons (pv 4) pa_nil)))
        (pss_cons (ps_set (i := 4) sc_law.nd rfl (Or.inl rfl) (pe_call G__law_bent (hr.mono (by decide)) (by rfl) g__law_bent k__law_bent b__law_bent .nil pass0 (pa_cons (pv 1) (pa_cons (pv 4) pa_nil))))
        (pss_cons (ps_expr (pe_bm PySem.F.plainAttrs_list PySem.F.slot_list_append PySem.F.type_list_append mt_append (pv 2) (pa_cons (pv 4) pa_nil)))
        (pss_one (ps_if (pt_cmpR op_eq (pe_call G__law_draw (hr.mono (by decide)) (by rfl) g__law_draw k__law_draw b__law_draw .nil pass0 (pa_cons (pv 1) (pa_cons pe_int pa_nil))) pe_int (nomark _))
        (pss_one (ps_expr (pe_bm PySem.F.plainAttrs_list PySem.F.slot_list_append PySem.F.type_list_append mt_append (pv 2) (pa_cons (pe_call G__law_bent (hr.mono (by decide)) (by rfl) g__law_bent k__law_bent b__law_bent .nil pass0 (pa_cons (pv 1) (pa_cons (pv 4) pa_nil))) pa_nil))))
        pss_nil)))))))
      (pss_cons (ps_for PassesOwn.never rfl (pi_list (pv 2)) (pg_name (i := 4) sc_law.nd rfl (Or.inl rfl))
      (pss_one (ps_if (pt_not (pt_val (pe_call G__law_read_right (hr.mono (by decide)) (by rfl) g__law_read_right k__law_read_right b__law_read_right .nil pass0 (pa_cons (pv 4) pa_nil))))
        (pss_one (ps_ret pe_bl))
        pss_nil)))
      (pss_cons (ps_set (i := 5) sc_law.nd rfl (Or.inl rfl) (pe_lst (pa_cons pe_str (pa_cons pe_str (pa_cons pe_str (pa_cons pe_str (pa_cons pe_str (pa_cons pe_str (pa_cons pe_str (pa_cons pe_str (pa_cons pe_str pa_nil)))))))))))
      (pss_cons (ps_for PassesOwn.never rfl (pi_range1 (by rfl) T.n_range (pa_cons pe_int pa_nil)) (pg_name (i := 3) sc_law.nd rfl (Or.inl rfl))
      (pss_cons (ps_set (i := 6) sc_law.nd rfl (Or.inl rfl) (pe_call G__law_row (hr.mono (by decide)) (by rfl) g__law_row k__law_row b__law_row .nil pass0 (pa_cons (pv 1) (pa_cons (pe_call G__law_draw (hr.mono (by decide)) (by rfl) g__law_draw k__law_draw b__law_draw .nil pass0 (pa_cons (pv 1) (pa_cons pe_int pa_nil))) pa_nil))))
        (pss_one (ps_set (i := 5) sc_law.nd rfl (Or.inl rfl) (pe_op L2.op_cat (pv 5) (pe_lst (pa_cons (pv 6) (pa_cons (pe_op op_add_str (pe_op op_mul_str pe_str (pe_call G__law_draw (hr.mono (by decide)) (by rfl) g__law_draw k__law_draw b__law_draw .nil pass0 (pa_cons (pv 1) (pa_cons pe_int pa_nil)))) (pv 6)) (pa_cons (pe_call G__law_word (hr.mono (by decide)) (by rfl) g__law_word k__law_word b__law_word .nil pass0 (pa_cons (pv 1) pa_nil)) pa_nil)))))))))
      (pss_cons (ps_for PassesOwn.never rfl (pi_list (pv 5)) (pg_name (i := 6) sc_law.nd rfl (Or.inl rfl))
      (pss_one (ps_if (pt_not (pt_val (pe_call G__law_row_right (hr.mono (by decide)) (by rfl) g__law_row_right k__law_row_right b__law_row_right .nil pass0 (pa_cons (pv 6) pa_nil))))
        (pss_one (ps_ret pe_bl))
        pss_nil)))
      (pss_one (ps_ret pe_bl))))))))))), ?_⟩
    have small : ∀ n : Nat, n ≤ 30000 → n ≤ sizeLine := fun n h => Nat.le_trans h (by decide)
    have lS : ∀ y : Str, y.length = (tl y).length := tl_len
    refine ⟨_, rfl, a, ns, rfl, hA, hlen, fun s b H1 hs x1 S1 => ?_⟩
    refine ⟨by show 10 ≤ sizeLine; decide, fun L1 h1 => ?_⟩
    refine ⟨_, rfl, by show 5 ≤ sizeLine; decide, fun L2 h2 => ?_⟩
    have n2 := same_new (o := HO.lst [V.str (Str.ofString "offer 1@a 1000 2"), V.str (Str.ofString "offer 1@a 1 10000000"), V.str (Str.ofString "offer 1@a -1 2"), V.str (Str.ofString "offer 1@a 01 2"), V.str (Str.ofString "offer 1@a 1 2")]) h2
    refine ⟨L1, L2, _, _, rfl, rfl, n2 _ _ upd_same, upd_same, by show 10 + 5 ≤ sizeLine; decide, fun L3 h3 => ?_⟩
    refine ⟨_, rfl, by show 8 ≤ sizeLine; decide, fun L4 h4 => ?_⟩
    have n4 := same_new (o := HO.lst [V.str (Str.ofString ".."), V.str (Str.ofString "close "), V.str (Str.ofString "ready x"), V.str (Str.ofString "want"), V.str (Str.ofString "body"), V.str (Str.ofString "offer hello 0 0"), V.str (Str.ofString "want a"), V.str (Str.ofString "open a a")]) h4
    refine ⟨L3, L4, _, _, rfl, rfl, n4 _ _ upd_same, upd_same, by show 15 + 8 ≤ sizeLine; decide, fun W hW => ?_⟩
    have hW1 : H1 W = none := Same.free ((same_new h1).trans (n2.trans ((same_new h3).trans n4))) hW
    have Sx := S1.ext ((same_new h1).trans (n2.trans ((same_new h3).trans n4)))
    have Ws := Sx.ne hW
    have Wa := Sx.nea hW
    have E0 : Ext s H1 _ := (Ext.of ((same_new h1).trans (n2.trans ((same_new h3).trans n4)))).trans (Ext.new (o := HO.lst (W0.map V.str)) hW)
    have keep : ∀ {G : Hp} (o : HO), Ext s H1 G → Ext s H1 (upd G W o) := fun o x d w hb hh => by
      rw [upd_ne (ne_of_none hh hW1)]; exact x _ _ hb hh
    have S0 := Sx.new (o := HO.lst (W0.map V.str)) hW
    refine ⟨6, rfl, by decide, by decide, ?_⟩
    refine for_range (lo := 0) (n := 6) (fun i σ H' => ∃ (us : List Str) (v3 v4 : Option V), σ = [some (.ref a), some (.ref s), some (.ref W), v3, v4, none, none] ∧ H' W = some (.lst (us.map V.str)) ∧ us.length ≤ 23 + 3 * i ∧ (∀ x ∈ us, Rw (tl x) ∧ (tl x).length ≤ 1200) ∧ Ext s H1 H' ∧ Src H' s b (1000000 - 2000 * i)) ?_ ?_ ?_
    · exact ⟨W0, _, _, rfl, upd_same, Nat.le_refl _, fun x hx => ⟨List.all_eq_true.mp (w0_ok x hx).1, by have := (w0_ok x hx).2; omega⟩, E0, S0.mono (by decide)⟩
    · rintro i σ H2 hi ⟨us, v3, v4, rfl, h2', ul, uA, e2, S2⟩
      refine ⟨_, rfl, s, b, 1000000 - 2000 * i - 1000, rfl, S2.mono (by omega), fun x H3 rx lx x3 S3 => ?_⟩
      refine ⟨_, rfl, .inl ⟨rfl, _, SqL.of (x3 _ _ Ws h2')⟩, _, rfl, W, _, _, rfl, rfl, x3 _ _ Ws h2', by rw [List.length_map]; exact small1000 (by omega), ?_⟩
      have e3 := keep (HO.lst (us.map V.str ++ [V.str x])) (e2.trans x3)
      have S3' := S3.put (o := HO.lst (us.map V.str ++ [V.str x])) Ws Wa
      have hG : (upd H3 W (HO.lst (us.map V.str ++ [V.str x]))) W = some (.lst ((us ++ [x]).map V.str)) := by rw [upd_same, List.map_append]; rfl
      generalize upd H3 W (HO.lst (us.map V.str ++ [V.str x])) = H4 at e3 S3' hG ⊢
      refine ⟨_, rfl, _, rfl, s, b, x, 1000000 - 2000 * i - 1010, rfl, by omega, rx, S3'.mono (by omega), fun y H5 ry ly x5 S5 => ?_⟩
      refine ⟨_, rfl, .inl ⟨rfl, _, SqL.of (x5 _ _ Ws hG)⟩, _, rfl, W, _, _, rfl, rfl, x5 _ _ Ws hG, by rw [List.length_map, List.length_append]; exact small1000 (by show us.length + 1 ≤ _; omega), ?_⟩
      have e5 := keep (HO.lst ((us ++ [x]).map V.str ++ [V.str y])) (e3.trans x5)
      have S5' := S5.put (o := HO.lst ((us ++ [x]).map V.str ++ [V.str y])) Ws Wa
      have hG5 : (upd H5 W (HO.lst ((us ++ [x]).map V.str ++ [V.str y]))) W = some (.lst ((us ++ [x] ++ [y]).map V.str)) := by rw [upd_same, List.map_append (l₂ := [y])]; rfl
      generalize upd H5 W (HO.lst ((us ++ [x]).map V.str ++ [V.str y])) = H6 at e5 S5' hG5 ⊢
      have l2 : (us ++ [x] ++ [y]).length ≤ 25 + 3 * i := by rw [List.length_append, List.length_append]; show us.length + 1 + 1 ≤ _; omega
      have A2 : ∀ z ∈ us ++ [x] ++ [y], Rw (tl z) ∧ (tl z).length ≤ 1200 := fun z hz => by
        rcases List.mem_append.mp hz with h | h
        · rcases List.mem_append.mp h with h | h
          · exact uA z h
          · rw [List.mem_singleton.mp h]; exact ⟨rx, by omega⟩
        · rw [List.mem_singleton.mp h]; exact ⟨ry, by omega⟩
      refine ⟨_, rfl, s, b, _, 1000000 - 2000 * i - 1011, rfl, by decide, by decide, S5'.mono (by omega), fun v H7 _ _ x7 S7 => ⟨rfl, _, rfl, ite2 (fun _ => ?_) (fun _ => ⟨_, _, _, rfl, x7 _ _ Ws hG5, by omega, A2, e5.trans x7, S7.mono (by omega)⟩)⟩⟩
      have hG7 := x7 _ _ Ws hG5
      refine ⟨_, rfl, .inl ⟨rfl, _, SqL.of hG7⟩, _, rfl, _, rfl, s, b, y, 1000000 - 2000 * i - 1021, rfl, by omega, ry, S7.mono (by omega), fun z H8 rz lz x8 S8 => ?_⟩
      refine ⟨W, _, _, rfl, rfl, x8 _ _ Ws hG7, by rw [List.length_map]; exact small1000 (by omega), us ++ [x] ++ [y] ++ [z], _, _, rfl, by rw [upd_same, List.map_append (l₂ := [z])]; rfl, by rw [List.length_append]; show _ + 1 ≤ _; omega, fun t ht => ?_, keep _ ((e5.trans x7).trans x8), (S8.put Ws Wa).mono (by omega)⟩
      rcases List.mem_append.mp ht with h | h
      · exact A2 t h
      · rw [List.mem_singleton.mp h]; exact ⟨rz, by omega⟩
    rintro σ H2 ⟨us, v3, v4, rfl, h2', ul, uA, e2, S2⟩
    refine ⟨_, rfl, W, rfl, ⟨_, SqL.of h2'⟩, ?_⟩
    refine for_list (K := K) (a := W) (xs := us.map V.str) (fun i σ H' => (∃ v4 : Option V, σ = [some (.ref a), some (.ref s), some (.ref W), v3, v4, none, none]) ∧ Same H2 H') ⟨⟨_, rfl⟩, Same.refl _⟩ (fun i σ H' _ h => SqL.of (h.2 _ _ h2')) ?_ ?_
    · rintro i x σ H' hi ⟨⟨v4, rfl⟩, m⟩
      rw [List.getElem?_map] at hi
      obtain ⟨x, hx, rfl⟩ := Option.map_eq_some_iff.mp hi
      have xx := uA x (List.mem_of_getElem? hx)
      exact ⟨_, rfl, x, rfl, by omega, xx.1, fun H3 m3 => ⟨_, rfl, iteF ⟨⟨_, rfl⟩, m.trans m3⟩⟩⟩
    rintro σ H3 ⟨⟨v4', rfl⟩, m3⟩
    have S3 := S2.ext m3
    refine ⟨by show 9 ≤ sizeLine; decide, fun R hR => ?_⟩
    refine ⟨4, rfl, by decide, by decide, ?_⟩
    refine for_range (lo := 0) (n := 4) (fun i σ H' => ∃ (R : Addr) (us : List Str) (v3 v6 : Option V), σ = [some (.ref a), some (.ref s), some (.ref W), v3, v4', some (.ref R), v6] ∧ H' R = some (.lst (us.map V.str)) ∧ R ≠ s ∧ us.length ≤ 9 + 3 * i ∧ (∀ x ∈ us, (tl x).length ≤ 300) ∧ Src H' s b (900000 - 2000 * i)) ?_ ?_ ?_
    · exact ⟨R, R0, _, _, rfl, upd_same, S3.ne hR, Nat.le_refl _, fun x hx => by have := r0_ok x hx; omega, (S3.new hR).mono (by decide)⟩
    · rintro i σ H4 hi ⟨R, us, v3, v6, rfl, h4', Rs, ul, uA, S4⟩
      refine ⟨_, rfl, _, rfl, s, b, _, 900000 - 2000 * i - 1, rfl, by decide, by decide, S4.mono (by omega), fun v H5 v0 v1 x5 S5 => ?_⟩
      obtain ⟨v, rfl⟩ := Int.eq_ofNat_of_zero_le v0
      refine ⟨s, b, v, 900000 - 2000 * i - 100, rfl, by omega, S5.mono (by omega), fun x H6 rx lx x6 S6 => ?_⟩
      refine ⟨_, rfl, _, rfl, _, rfl, s, b, _, 900000 - 2000 * i - 101, rfl, by decide, by decide, S6.mono (by omega), fun k H7 k0 k1 x7 S7 => ?_⟩
      refine ⟨_, _, rfl, rfl, by omega, by omega, Nat.le_trans (Nat.mul_le_mul (show _ ≤ 1 from Nat.le_refl _) (show k.toNat ≤ 4 by omega)) (by decide), fun r hr2 => ?_⟩
      have lr : (tl r).length ≤ 4 := by rw [hr2, rep_len]; show k.toNat * 1 ≤ 4; omega
      have lX := lS x
      have lR := lS r
      refine ⟨_, rfl, _, _, rfl, rfl, small _ (by omega), _, rfl, s, b, 900000 - 2000 * i - 1101, rfl, S7.mono (by omega), fun z H8 rz lz x8 S8 => ?_⟩
      refine ⟨by show 3 ≤ sizeLine; decide, fun Y hY => ?_⟩
      have hR8 := x8 _ _ Rs (x7 _ _ Rs (x6 _ _ Rs (x5 _ _ Rs h4')))
      have n9 := same_new (o := HO.lst ([x, r ++ x, z].map V.str)) hY
      refine ⟨R, Y, _, _, rfl, rfl, n9 _ _ hR8, upd_same, by rw [List.length_map]; show us.length + 3 ≤ _; exact small _ (by omega), fun Z hZ => ?_⟩
      have S9 := S8.ext n9
      refine ⟨Z, us ++ [x, r ++ x, z], _, _, rfl, by rw [upd_same, List.map_append]; rfl, S9.ne hZ, by rw [List.length_append]; show _ + 3 ≤ _; omega, fun t ht => ?_, (S9.new hZ).mono (by omega)⟩
      rcases List.mem_append.mp ht with h | h
      · exact uA t h
      · simp only [List.mem_cons, List.not_mem_nil, or_false] at h
        rcases h with e | e | e <;> subst e
        · omega
        · rw [tl_app, List.length_append]; omega
        · omega
    rintro σ H4 ⟨R, us, v3', v6, rfl, h4', Rs, ul, uA, S4⟩
    refine ⟨_, rfl, R, rfl, ⟨_, SqL.of h4'⟩, ?_⟩
    refine for_list (K := K) (a := R) (xs := us.map V.str) (fun i σ H' => (∃ v6 : Option V, σ = [some (.ref a), some (.ref s), some (.ref W), v3', v4', some (.ref R), v6]) ∧ Same H4 H') ⟨⟨_, rfl⟩, Same.refl _⟩ (fun i σ H' _ h => SqL.of (h.2 _ _ h4')) ?_ ?_
    · rintro i x σ H' hi ⟨⟨v6, rfl⟩, m⟩
      rw [List.getElem?_map] at hi
      obtain ⟨x, hx, rfl⟩ := Option.map_eq_some_iff.mp hi
      have xx := uA x (List.mem_of_getElem? hx)
      exact ⟨_, rfl, x, rfl, by omega, fun H3 m3 => ⟨_, rfl, iteF ⟨⟨_, rfl⟩, m.trans m3⟩⟩⟩
    rintro σ H5 ⟨⟨v6', rfl⟩, m5⟩
    exact q H5
end

end Z
namespace Z
open PySem L2 SX
set_option maxHeartbeats 0 in
theorem all_mk {l : PySem.W.OpenLaw} {w : World} {K : PySem.W.Frag} {h : Heap} {mg : Str → Option Value} {fa : Addr} (X : K.In h) (G : h.Ns mainGlobals mg) (hfa : mg "law" = some (.ref fa))
    {f0 : Addr} {od0 an0 : Option Addr} {sl0 : Array (Option Value)} {oc0 kV0 dc0 pm0 cd0 ct0 : Value}
    {f1 : Addr} {od1 an1 : Option Addr} {sl1 : Array (Option Value)} {oc1 kV1 dc1 pm1 cd1 ct1 : Value}
    {f2 : Addr} {od2 an2 : Option Addr} {sl2 : Array (Option Value)} {oc2 kV2 dc2 pm2 cd2 ct2 : Value}
    {f3 : Addr} {od3 an3 : Option Addr} {sl3 : Array (Option Value)} {oc3 kV3 dc3 pm3 cd3 ct3 : Value}
    {f4 : Addr} {od4 an4 : Option Addr} {sl4 : Array (Option Value)} {oc4 kV4 dc4 pm4 cd4 ct4 : Value}
    {f5 : Addr} {od5 an5 : Option Addr} {sl5 : Array (Option Value)} {oc5 kV5 dc5 pm5 cd5 ct5 : Value}
    {f6 : Addr} {od6 an6 : Option Addr} {sl6 : Array (Option Value)} {oc6 kV6 dc6 pm6 cd6 ct6 : Value}
    {f7 : Addr} {od7 an7 : Option Addr} {sl7 : Array (Option Value)} {oc7 kV7 dc7 pm7 cd7 ct7 : Value}
    {f8 : Addr} {od8 an8 : Option Addr} {sl8 : Array (Option Value)} {oc8 kV8 dc8 pm8 cd8 ct8 : Value}
    {f9 : Addr} {od9 an9 : Option Addr} {sl9 : Array (Option Value)} {oc9 kV9 dc9 pm9 cd9 ct9 : Value}
    {f10 : Addr} {od10 an10 : Option Addr} {sl10 : Array (Option Value)} {oc10 kV10 dc10 pm10 cd10 ct10 : Value}
    {f11 : Addr} {od11 an11 : Option Addr} {sl11 : Array (Option Value)} {oc11 kV11 dc11 pm11 cd11 ct11 : Value}
    {f12 : Addr} {od12 an12 : Option Addr} {sl12 : Array (Option Value)} {oc12 kV12 dc12 pm12 cd12 ct12 : Value}
    {f13 : Addr} {od13 an13 : Option Addr} {sl13 : Array (Option Value)} {oc13 kV13 dc13 pm13 cd13 ct13 : Value}
    {f14 : Addr} {od14 an14 : Option Addr} {sl14 : Array (Option Value)} {oc14 kV14 dc14 pm14 cd14 ct14 : Value}
    {f15 : Addr} {od15 an15 : Option Addr} {sl15 : Array (Option Value)} {oc15 kV15 dc15 pm15 cd15 ct15 : Value}
    {f16 : Addr} {od16 an16 : Option Addr} {sl16 : Array (Option Value)} {oc16 kV16 dc16 pm16 cd16 ct16 : Value}
    {f17 : Addr} {od17 an17 : Option Addr} {sl17 : Array (Option Value)} {oc17 kV17 dc17 pm17 cd17 ct17 : Value}
    {f18 : Addr} {od18 an18 : Option Addr} {sl18 : Array (Option Value)} {oc18 kV18 dc18 pm18 cd18 ct18 : Value}
    {f19 : Addr} {od19 an19 : Option Addr} {sl19 : Array (Option Value)} {oc19 kV19 dc19 pm19 cd19 ct19 : Value}
    {f20 : Addr} {od20 an20 : Option Addr} {sl20 : Array (Option Value)} {oc20 kV20 dc20 pm20 cd20 ct20 : Value}
    {f21 : Addr} {od21 an21 : Option Addr} {sl21 : Array (Option Value)} {oc21 kV21 dc21 pm21 cd21 ct21 : Value}
    {f22 : Addr} {od22 an22 : Option Addr} {sl22 : Array (Option Value)} {oc22 kV22 dc22 pm22 cd22 ct22 : Value}
    {f23 : Addr} {od23 an23 : Option Addr} {sl23 : Array (Option Value)} {oc23 kV23 dc23 pm23 cd23 ct23 : Value}
    {f24 : Addr} {od24 an24 : Option Addr} {sl24 : Array (Option Value)} {oc24 kV24 dc24 pm24 cd24 ct24 : Value}
    {f25 : Addr} {od25 an25 : Option Addr} {sl25 : Array (Option Value)} {oc25 kV25 dc25 pm25 cd25 ct25 : Value}
    {f26 : Addr} {od26 an26 : Option Addr} {sl26 : Array (Option Value)} {oc26 kV26 dc26 pm26 cd26 ct26 : Value}
    {A_MootError A_TextError A_LimitError A_BadWord : Addr}
    {nm_BadWord q_BadWord : Str} {N_BadWord fI_BadWord : Addr} {bs_BadWord bm_BadWord : List Value} {sn_BadWord : List Str} {sub_BadWord : List Value} {ab_BadWord : Bool} {col_BadWord : Option Bool} {dd_BadWord : Option Addr} {m0_BadWord m1_BadWord m2_BadWord m3_BadWord m5_BadWord : Option Value} {oI_BadWord kI0_BadWord dI_BadWord pI_BadWord cdI_BadWord ctI_BadWord : Value} {odI_BadWord anI_BadWord : Option Addr} {slI_BadWord : Array (Option Value)}
    {A_FORMS : Addr}
    (a0 : PySem.W.nsIn K mainGlobals "is_row" = some (some (.ref f0))) (l0 : K.lookup f0 = some ⟨oc0, od0, .func (PySem.W.fnOf "is_row" "is_row" (defArgs s_is_row) (defBody s_is_row) (defScope s_is_row) .none kV0 dc0 pm0 an0 cd0 ct0), sl0⟩) (c0 : PySem.W.codeIn K cd0 "is_row" = true) (k0 : PySem.W.keepIn K (.ref f0) = true)
    (a1 : PySem.W.nsIn K mainGlobals "number_of" = some (some (.ref f1))) (l1 : K.lookup f1 = some ⟨oc1, od1, .func (PySem.W.fnOf "number_of" "number_of" (defArgs s_number_of) (defBody s_number_of) (defScope s_number_of) .none kV1 dc1 pm1 an1 cd1 ct1), sl1⟩) (c1 : PySem.W.codeIn K cd1 "number_of" = true) (k1 : PySem.W.keepIn K (.ref f1) = true)
    (a2 : PySem.W.nsIn K mainGlobals "is_word" = some (some (.ref f2))) (l2 : K.lookup f2 = some ⟨oc2, od2, .func (PySem.W.fnOf "is_word" "is_word" (defArgs s_is_word) (defBody s_is_word) (defScope s_is_word) .none kV2 dc2 pm2 an2 cd2 ct2), sl2⟩) (c2 : PySem.W.codeIn K cd2 "is_word" = true) (k2 : PySem.W.keepIn K (.ref f2) = true)
    (a3 : PySem.W.nsIn K mainGlobals "is_name" = some (some (.ref f3))) (l3 : K.lookup f3 = some ⟨oc3, od3, .func (PySem.W.fnOf "is_name" "is_name" (defArgs s_is_name) (defBody s_is_name) (defScope s_is_name) .none kV3 dc3 pm3 an3 cd3 ct3), sl3⟩) (c3 : PySem.W.codeIn K cd3 "is_name" = true) (k3 : PySem.W.keepIn K (.ref f3) = true)
    (a4 : PySem.W.nsIn K mainGlobals "is_key" = some (some (.ref f4))) (l4 : K.lookup f4 = some ⟨oc4, od4, .func (PySem.W.fnOf "is_key" "is_key" (defArgs s_is_key) (defBody s_is_key) (defScope s_is_key) .none kV4 dc4 pm4 an4 cd4 ct4), sl4⟩) (c4 : PySem.W.codeIn K cd4 "is_key" = true) (k4 : PySem.W.keepIn K (.ref f4) = true)
    (a5 : PySem.W.nsIn K mainGlobals "read_part" = some (some (.ref f5))) (l5 : K.lookup f5 = some ⟨oc5, od5, .func (PySem.W.fnOf "read_part" "read_part" (defArgs s_read_part) (defBody s_read_part) (defScope s_read_part) .none kV5 dc5 pm5 an5 cd5 ct5), sl5⟩) (c5 : PySem.W.codeIn K cd5 "read_part" = true) (k5 : PySem.W.keepIn K (.ref f5) = true)
    (a6 : PySem.W.nsIn K mainGlobals "read_word" = some (some (.ref f6))) (l6 : K.lookup f6 = some ⟨oc6, od6, .func (PySem.W.fnOf "read_word" "read_word" (defArgs s_read_word) (defBody s_read_word) (defScope s_read_word) .none kV6 dc6 pm6 an6 cd6 ct6), sl6⟩) (c6 : PySem.W.codeIn K cd6 "read_word" = true) (k6 : PySem.W.keepIn K (.ref f6) = true)
    (a7 : PySem.W.nsIn K mainGlobals "write_word" = some (some (.ref f7))) (l7 : K.lookup f7 = some ⟨oc7, od7, .func (PySem.W.fnOf "write_word" "write_word" (defArgs s_write_word) (defBody s_write_word) (defScope s_write_word) .none kV7 dc7 pm7 an7 cd7 ct7), sl7⟩) (c7 : PySem.W.codeIn K cd7 "write_word" = true) (k7 : PySem.W.keepIn K (.ref f7) = true)
    (a8 : PySem.W.nsIn K mainGlobals "stuffed" = some (some (.ref f8))) (l8 : K.lookup f8 = some ⟨oc8, od8, .func (PySem.W.fnOf "stuffed" "stuffed" (defArgs s_stuffed) (defBody s_stuffed) (defScope s_stuffed) .none kV8 dc8 pm8 an8 cd8 ct8), sl8⟩) (c8 : PySem.W.codeIn K cd8 "stuffed" = true) (k8 : PySem.W.keepIn K (.ref f8) = true)
    (a9 : PySem.W.nsIn K mainGlobals "unstuffed" = some (some (.ref f9))) (l9 : K.lookup f9 = some ⟨oc9, od9, .func (PySem.W.fnOf "unstuffed" "unstuffed" (defArgs s_unstuffed) (defBody s_unstuffed) (defScope s_unstuffed) .none kV9 dc9 pm9 an9 cd9 ct9), sl9⟩) (c9 : PySem.W.codeIn K cd9 "unstuffed" = true) (k9 : PySem.W.keepIn K (.ref f9) = true)
    (a10 : PySem.W.nsIn K mainGlobals "_law_mix" = some (some (.ref f10))) (l10 : K.lookup f10 = some ⟨oc10, od10, .func (PySem.W.fnOf "_law_mix" "_law_mix" (defArgs s__law_mix) (defBody s__law_mix) (defScope s__law_mix) .none kV10 dc10 pm10 an10 cd10 ct10), sl10⟩) (c10 : PySem.W.codeIn K cd10 "_law_mix" = true) (k10 : PySem.W.keepIn K (.ref f10) = true)
    (a11 : PySem.W.nsIn K mainGlobals "_law_source" = some (some (.ref f11))) (l11 : K.lookup f11 = some ⟨oc11, od11, .func (PySem.W.fnOf "_law_source" "_law_source" (defArgs s__law_source) (defBody s__law_source) (defScope s__law_source) .none kV11 dc11 pm11 an11 cd11 ct11), sl11⟩) (c11 : PySem.W.codeIn K cd11 "_law_source" = true) (k11 : PySem.W.keepIn K (.ref f11) = true)
    (a12 : PySem.W.nsIn K mainGlobals "_law_draw" = some (some (.ref f12))) (l12 : K.lookup f12 = some ⟨oc12, od12, .func (PySem.W.fnOf "_law_draw" "_law_draw" (defArgs s__law_draw) (defBody s__law_draw) (defScope s__law_draw) .none kV12 dc12 pm12 an12 cd12 ct12), sl12⟩) (c12 : PySem.W.codeIn K cd12 "_law_draw" = true) (k12 : PySem.W.keepIn K (.ref f12) = true)
    (a13 : PySem.W.nsIn K mainGlobals "_law_pick" = some (some (.ref f13))) (l13 : K.lookup f13 = some ⟨oc13, od13, .func (PySem.W.fnOf "_law_pick" "_law_pick" (defArgs s__law_pick) (defBody s__law_pick) (defScope s__law_pick) .none kV13 dc13 pm13 an13 cd13 ct13), sl13⟩) (c13 : PySem.W.codeIn K cd13 "_law_pick" = true) (k13 : PySem.W.keepIn K (.ref f13) = true)
    (a14 : PySem.W.nsIn K mainGlobals "_law_new_name" = some (some (.ref f14))) (l14 : K.lookup f14 = some ⟨oc14, od14, .func (PySem.W.fnOf "_law_new_name" "_law_new_name" (defArgs s__law_new_name) (defBody s__law_new_name) (defScope s__law_new_name) .none kV14 dc14 pm14 an14 cd14 ct14), sl14⟩) (c14 : PySem.W.codeIn K cd14 "_law_new_name" = true) (k14 : PySem.W.keepIn K (.ref f14) = true)
    (a15 : PySem.W.nsIn K mainGlobals "_law_row" = some (some (.ref f15))) (l15 : K.lookup f15 = some ⟨oc15, od15, .func (PySem.W.fnOf "_law_row" "_law_row" (defArgs s__law_row) (defBody s__law_row) (defScope s__law_row) .none kV15 dc15 pm15 an15 cd15 ct15), sl15⟩) (c15 : PySem.W.codeIn K cd15 "_law_row" = true) (k15 : PySem.W.keepIn K (.ref f15) = true)
    (a16 : PySem.W.nsIn K mainGlobals "_law_is_int" = some (some (.ref f16))) (l16 : K.lookup f16 = some ⟨oc16, od16, .func (PySem.W.fnOf "_law_is_int" "_law_is_int" (defArgs s__law_is_int) (defBody s__law_is_int) (defScope s__law_is_int) .none kV16 dc16 pm16 an16 cd16 ct16), sl16⟩) (c16 : PySem.W.codeIn K cd16 "_law_is_int" = true) (k16 : PySem.W.keepIn K (.ref f16) = true)
    (a17 : PySem.W.nsIn K mainGlobals "_law_same" = some (some (.ref f17))) (l17 : K.lookup f17 = some ⟨oc17, od17, .func (PySem.W.fnOf "_law_same" "_law_same" (defArgs s__law_same) (defBody s__law_same) (defScope s__law_same) .none kV17 dc17 pm17 an17 cd17 ct17), sl17⟩) (c17 : PySem.W.codeIn K cd17 "_law_same" = true) (k17 : PySem.W.keepIn K (.ref f17) = true)
    (a18 : PySem.W.nsIn K mainGlobals "_law_is_name" = some (some (.ref f18))) (l18 : K.lookup f18 = some ⟨oc18, od18, .func (PySem.W.fnOf "_law_is_name" "_law_is_name" (defArgs s__law_is_name) (defBody s__law_is_name) (defScope s__law_is_name) .none kV18 dc18 pm18 an18 cd18 ct18), sl18⟩) (c18 : PySem.W.codeIn K cd18 "_law_is_name" = true) (k18 : PySem.W.keepIn K (.ref f18) = true)
    (a19 : PySem.W.nsIn K mainGlobals "_law_number" = some (some (.ref f19))) (l19 : K.lookup f19 = some ⟨oc19, od19, .func (PySem.W.fnOf "_law_number" "_law_number" (defArgs s__law_number) (defBody s__law_number) (defScope s__law_number) .none kV19 dc19 pm19 an19 cd19 ct19), sl19⟩) (c19 : PySem.W.codeIn K cd19 "_law_number" = true) (k19 : PySem.W.keepIn K (.ref f19) = true)
    (a20 : PySem.W.nsIn K mainGlobals "_law_parts" = some (some (.ref f20))) (l20 : K.lookup f20 = some ⟨oc20, od20, .func (PySem.W.fnOf "_law_parts" "_law_parts" (defArgs s__law_parts) (defBody s__law_parts) (defScope s__law_parts) .none kV20 dc20 pm20 an20 cd20 ct20), sl20⟩) (c20 : PySem.W.codeIn K cd20 "_law_parts" = true) (k20 : PySem.W.keepIn K (.ref f20) = true)
    (a21 : PySem.W.nsIn K mainGlobals "_law_key" = some (some (.ref f21))) (l21 : K.lookup f21 = some ⟨oc21, od21, .func (PySem.W.fnOf "_law_key" "_law_key" (defArgs s__law_key) (defBody s__law_key) (defScope s__law_key) .none kV21 dc21 pm21 an21 cd21 ct21), sl21⟩) (c21 : PySem.W.codeIn K cd21 "_law_key" = true) (k21 : PySem.W.keepIn K (.ref f21) = true)
    (a22 : PySem.W.nsIn K mainGlobals "_law_word" = some (some (.ref f22))) (l22 : K.lookup f22 = some ⟨oc22, od22, .func (PySem.W.fnOf "_law_word" "_law_word" (defArgs s__law_word) (defBody s__law_word) (defScope s__law_word) .none kV22 dc22 pm22 an22 cd22 ct22), sl22⟩) (c22 : PySem.W.codeIn K cd22 "_law_word" = true) (k22 : PySem.W.keepIn K (.ref f22) = true)
    (a23 : PySem.W.nsIn K mainGlobals "_law_bent" = some (some (.ref f23))) (l23 : K.lookup f23 = some ⟨oc23, od23, .func (PySem.W.fnOf "_law_bent" "_law_bent" (defArgs s__law_bent) (defBody s__law_bent) (defScope s__law_bent) .none kV23 dc23 pm23 an23 cd23 ct23), sl23⟩) (c23 : PySem.W.codeIn K cd23 "_law_bent" = true) (k23 : PySem.W.keepIn K (.ref f23) = true)
    (a24 : PySem.W.nsIn K mainGlobals "_law_read_right" = some (some (.ref f24))) (l24 : K.lookup f24 = some ⟨oc24, od24, .func (PySem.W.fnOf "_law_read_right" "_law_read_right" (defArgs s__law_read_right) (defBody s__law_read_right) (defScope s__law_read_right) .none kV24 dc24 pm24 an24 cd24 ct24), sl24⟩) (c24 : PySem.W.codeIn K cd24 "_law_read_right" = true) (k24 : PySem.W.keepIn K (.ref f24) = true)
    (a25 : PySem.W.nsIn K mainGlobals "_law_row_right" = some (some (.ref f25))) (l25 : K.lookup f25 = some ⟨oc25, od25, .func (PySem.W.fnOf "_law_row_right" "_law_row_right" (defArgs s__law_row_right) (defBody s__law_row_right) (defScope s__law_row_right) .none kV25 dc25 pm25 an25 cd25 ct25), sl25⟩) (c25 : PySem.W.codeIn K cd25 "_law_row_right" = true) (k25 : PySem.W.keepIn K (.ref f25) = true)
    (a26 : PySem.W.nsIn K mainGlobals "law" = some (some (.ref f26))) (l26 : K.lookup f26 = some ⟨oc26, od26, .func (PySem.W.fnOf "law" "law" (defArgs s_law) (defBody s_law) (defScope s_law) .none kV26 dc26 pm26 an26 cd26 ct26), sl26⟩) (c26 : PySem.W.codeIn K cd26 "law" = true) (k26 : PySem.W.keepIn K (.ref f26) = true)
    (z_abs : PySem.W.nsIn K mainGlobals "abs" = some none)
    (z_all : PySem.W.nsIn K mainGlobals "all" = some none)
    (z_bool : PySem.W.nsIn K mainGlobals "bool" = some none)
    (z_int : PySem.W.nsIn K mainGlobals "int" = some none)
    (z_isinstance : PySem.W.nsIn K mainGlobals "isinstance" = some none)
    (z_len : PySem.W.nsIn K mainGlobals "len" = some none)
    (z_list : PySem.W.nsIn K mainGlobals "list" = some none)
    (z_range : PySem.W.nsIn K mainGlobals "range" = some none)
    (z_str : PySem.W.nsIn K mainGlobals "str" = some none)
    (z_tuple : PySem.W.nsIn K mainGlobals "tuple" = some none)
    (z_zip : PySem.W.nsIn K mainGlobals "zip" = some none)
    {t_LETTERS : Tok} (v_LETTERS : PySem.W.nsIn K mainGlobals "LETTERS" = some (some (.str ("abcdefghijklmnopqrstuvwxyz") t_LETTERS)))
    {t_DIGITS : Tok} (v_DIGITS : PySem.W.nsIn K mainGlobals "DIGITS" = some (some (.str ("0123456789") t_DIGITS)))
    {t_CHARACTERS : Tok} (v_CHARACTERS : PySem.W.nsIn K mainGlobals "CHARACTERS" = some (some (.str (" !\"#$&'()*+,-./0123456789:;<=>?@ABCDEFGHIJKLMNOPQRSTUVWXYZ[\\]^_`abcdefghijklmnopqrstuvwxyz{|}~") t_CHARACTERS)))
    {t_LONGEST_NAME : Tok} (v_LONGEST_NAME : PySem.W.nsIn K mainGlobals "LONGEST_NAME" = some (some (.int 8 t_LONGEST_NAME)))
    {t_LONGEST_KEY : Tok} (v_LONGEST_KEY : PySem.W.nsIn K mainGlobals "LONGEST_KEY" = some (some (.int 60 t_LONGEST_KEY)))
    {t_LONGEST_HOPS : Tok} (v_LONGEST_HOPS : PySem.W.nsIn K mainGlobals "LONGEST_HOPS" = some (some (.int 3 t_LONGEST_HOPS)))
    {t_LONGEST_DATE : Tok} (v_LONGEST_DATE : PySem.W.nsIn K mainGlobals "LONGEST_DATE" = some (some (.int 7 t_LONGEST_DATE)))
    (aC_MootError : PySem.W.nsIn K mainGlobals "MootError" = some (some (.ref A_MootError)))
    (aC_TextError : PySem.W.nsIn K mainGlobals "TextError" = some (some (.ref A_TextError)))
    (aC_LimitError : PySem.W.nsIn K mainGlobals "LimitError" = some (some (.ref A_LimitError)))
    (aC_BadWord : PySem.W.nsIn K mainGlobals "BadWord" = some (some (.ref A_BadWord)))
    (hn_ : PySem.W.specialIn K (.builtin "object.__class__") "__get__" = some (some (.builtin "getset_descriptor.__get__")))
    (ht_ : PySem.W.takesIn K (.builtin "object.__class__") = some true)
    (xL_BadWord : K.lookup A_BadWord = some (excClassObj nm_BadWord q_BadWord A_BadWord N_BadWord bs_BadWord bm_BadWord true sn_BadWord sub_BadWord ab_BadWord col_BadWord dd_BadWord m0_BadWord m1_BadWord m2_BadWord m3_BadWord m5_BadWord "ValueError.__new__"))
    (rb_BadWord : PySem.HandSPX.refsVE bm_BadWord = true)
    (sa_BadWord : PySem.W.findIn K (.ref A_BadWord) "__setattr__" = some (some (.builtin "object.__setattr__")))
    (ex_BadWord : PySem.W.subIn K (.ref A_BadWord) (.type "BaseException") = some true)
    (ty_BadWord : PySem.W.typeIn K (.ref A_BadWord) = some (.type "type"))
    (kC_BadWord : PySem.W.keepIn K (.ref A_BadWord) = true)
    (hg_BadWord : PySem.W.findIn K (.ref A_BadWord) "__getattribute__" = some (some (.builtin "BaseException.__getattribute__")))
    (hk_BadWord : PySem.W.findIn K (.ref A_BadWord) "__getattr__" = some none)
    (hd_BadWord : PySem.W.hasDictIn K A_BadWord = true)
    (ha_BadWord : PySem.W.findIn K (.ref A_BadWord) "__class__" = some (some (.builtin "object.__class__")))
    (hm_BadWord : PySem.W.mroIn K A_BadWord (.type "object") = some true)
    (nf_BadWord_word : PySem.W.findIn K (.ref A_BadWord) "word" = some none)
    (iC_BadWord : PySem.W.findIn K (.ref A_BadWord) "__init__" = some (some (.ref fI_BadWord)))
    (tI_BadWord : PySem.W.typeIn K (.ref fI_BadWord) = some (.type "function"))
    (lI_BadWord : K.lookup fI_BadWord = some ⟨oI_BadWord, odI_BadWord, .func (PySem.W.fnOf "__init__" "BadWord.__init__" (defArgs s_init_BadWord) (defBody s_init_BadWord) (defScope s_init_BadWord) .none kI0_BadWord dI_BadWord pI_BadWord anI_BadWord cdI_BadWord ctI_BadWord), slI_BadWord⟩)
    (cI_BadWord : PySem.W.codeIn K cdI_BadWord "BadWord.__init__" = true)
    (kF_BadWord : PySem.W.keepIn K (.ref fI_BadWord) = true)
    (hdD_MootError : PySem.W.hasDictIn K A_MootError = true)
    (tyD_MootError : PySem.W.typeIn K (.ref A_MootError) = some (.type "type"))
    (exD_MootError : PySem.W.subIn K (.ref A_MootError) (.type "BaseException") = some true)
    (su_BadWord_MootError : PySem.W.subIn K (.ref A_BadWord) (.ref A_MootError) = some true)
    (ki_BadWord_TextError : PySem.W.kitOne K (.ref A_BadWord) (.ref A_TextError) = some false)
    (ki_BadWord_BadWord : PySem.W.kitOne K (.ref A_BadWord) (.ref A_BadWord) = some true)
    (ki_BadWord_LimitError : PySem.W.kitOne K (.ref A_BadWord) (.ref A_LimitError) = some false)
    (aT_FORMS : PySem.W.nsIn K mainGlobals "FORMS" = some (some (.ref A_FORMS)))
    (dT_FORMS : He.dicW K A_FORMS = some (He.keysIn w.params ["open", "offer", "bring", "body", ".", "clear", "close", "ready", "want", "have", "old", "took", "spoilt", "cleared", "closed"]))
    (tT_FORMS : tabQ K A_FORMS = some tab_FORMS) :
    ∃ fd : FuncData, (∀ (s : Shared) (v : Value), BindsTo s fd ⟨[v], []⟩ [("script", v)]) ∧ ∀ base : Heap, K.In base → base.Ns mainGlobals mg → FnOk l.prog w K mg base CX0 6 fa fd ["script"] (sp_law K) := by
  have e := hfa.symm.trans (PySem.W.mg_of X G a26)
  cases e
  have T : Tx mg := ⟨PySem.W.mg_none_of X G z_abs, PySem.W.mg_none_of X G z_all, PySem.W.mg_none_of X G z_bool, PySem.W.mg_none_of X G z_int, PySem.W.mg_none_of X G z_isinstance, PySem.W.mg_none_of X G z_len, PySem.W.mg_none_of X G z_list, PySem.W.mg_none_of X G z_range, PySem.W.mg_none_of X G z_str, PySem.W.mg_none_of X G z_tuple, PySem.W.mg_none_of X G z_zip, ⟨_, PySem.W.mg_of X G v_LETTERS⟩, ⟨_, PySem.W.mg_of X G v_DIGITS⟩, ⟨_, PySem.W.mg_of X G v_CHARACTERS⟩, ⟨_, PySem.W.mg_of X G v_LONGEST_NAME⟩, ⟨_, PySem.W.mg_of X G v_LONGEST_KEY⟩, ⟨_, PySem.W.mg_of X G v_LONGEST_HOPS⟩, ⟨_, PySem.W.mg_of X G v_LONGEST_DATE⟩⟩
  refine ⟨PySem.W.fnOf "law" "law" (defArgs s_law) (defBody s_law) (defScope s_law) .none kV26 dc26 pm26 an26 cd26 ct26, fun s v => .of_eq rfl, fun base _ _ => ?_⟩
  have D_is_row : Df K mg "is_row" s_is_row ["text", "longest"] := ⟨f0, _, fun_mk (st := s_is_row) l0 c0 k0, PySem.W.mg_of X G a0, (fun_mk (st := s_is_row) l0 c0 k0).binds (ps := ["text", "longest"]) fun _ _ _ _ _ _ us hl => match us, hl with | [_, _], _ => rfl⟩
  have D_number_of : Df K mg "number_of" s_number_of ["text", "longest"] := ⟨f1, _, fun_mk (st := s_number_of) l1 c1 k1, PySem.W.mg_of X G a1, (fun_mk (st := s_number_of) l1 c1 k1).binds (ps := ["text", "longest"]) fun _ _ _ _ _ _ us hl => match us, hl with | [_, _], _ => rfl⟩
  have D_is_word : Df K mg "is_word" s_is_word ["text"] := ⟨f2, _, fun_mk (st := s_is_word) l2 c2 k2, PySem.W.mg_of X G a2, (fun_mk (st := s_is_word) l2 c2 k2).binds (ps := ["text"]) fun _ _ _ _ _ _ us hl => match us, hl with | [_], _ => rfl⟩
  have D_is_name : Df K mg "is_name" s_is_name ["text"] := ⟨f3, _, fun_mk (st := s_is_name) l3 c3 k3, PySem.W.mg_of X G a3, (fun_mk (st := s_is_name) l3 c3 k3).binds (ps := ["text"]) fun _ _ _ _ _ _ us hl => match us, hl with | [_], _ => rfl⟩
  have D_is_key : Df K mg "is_key" s_is_key ["text"] := ⟨f4, _, fun_mk (st := s_is_key) l4 c4 k4, PySem.W.mg_of X G a4, (fun_mk (st := s_is_key) l4 c4 k4).binds (ps := ["text"]) fun _ _ _ _ _ _ us hl => match us, hl with | [_], _ => rfl⟩
  have D_read_part : Df K mg "read_part" s_read_part ["form", "text"] := ⟨f5, _, fun_mk (st := s_read_part) l5 c5 k5, PySem.W.mg_of X G a5, (fun_mk (st := s_read_part) l5 c5 k5).binds (ps := ["form", "text"]) fun _ _ _ _ _ _ us hl => match us, hl with | [_, _], _ => rfl⟩
  have D_read_word : Df K mg "read_word" s_read_word ["word"] := ⟨f6, _, fun_mk (st := s_read_word) l6 c6 k6, PySem.W.mg_of X G a6, (fun_mk (st := s_read_word) l6 c6 k6).binds (ps := ["word"]) fun _ _ _ _ _ _ us hl => match us, hl with | [_], _ => rfl⟩
  have D_write_word : Df K mg "write_word" s_write_word ["parts"] := ⟨f7, _, fun_mk (st := s_write_word) l7 c7 k7, PySem.W.mg_of X G a7, (fun_mk (st := s_write_word) l7 c7 k7).binds (ps := ["parts"]) fun _ _ _ _ _ _ us hl => match us, hl with | [_], _ => rfl⟩
  have D_stuffed : Df K mg "stuffed" s_stuffed ["row"] := ⟨f8, _, fun_mk (st := s_stuffed) l8 c8 k8, PySem.W.mg_of X G a8, (fun_mk (st := s_stuffed) l8 c8 k8).binds (ps := ["row"]) fun _ _ _ _ _ _ us hl => match us, hl with | [_], _ => rfl⟩
  have D_unstuffed : Df K mg "unstuffed" s_unstuffed ["word"] := ⟨f9, _, fun_mk (st := s_unstuffed) l9 c9 k9, PySem.W.mg_of X G a9, (fun_mk (st := s_unstuffed) l9 c9 k9).binds (ps := ["word"]) fun _ _ _ _ _ _ us hl => match us, hl with | [_], _ => rfl⟩
  have D__law_mix : Df K mg "_law_mix" s__law_mix ["seed", "turn"] := ⟨f10, _, fun_mk (st := s__law_mix) l10 c10 k10, PySem.W.mg_of X G a10, (fun_mk (st := s__law_mix) l10 c10 k10).binds (ps := ["seed", "turn"]) fun _ _ _ _ _ _ us hl => match us, hl with | [_, _], _ => rfl⟩
  have D__law_source : Df K mg "_law_source" s__law_source ["script"] := ⟨f11, _, fun_mk (st := s__law_source) l11 c11 k11, PySem.W.mg_of X G a11, (fun_mk (st := s__law_source) l11 c11 k11).binds (ps := ["script"]) fun _ _ _ _ _ _ us hl => match us, hl with | [_], _ => rfl⟩
  have D__law_draw : Df K mg "_law_draw" s__law_draw ["source", "many"] := ⟨f12, _, fun_mk (st := s__law_draw) l12 c12 k12, PySem.W.mg_of X G a12, (fun_mk (st := s__law_draw) l12 c12 k12).binds (ps := ["source", "many"]) fun _ _ _ _ _ _ us hl => match us, hl with | [_, _], _ => rfl⟩
  have D__law_pick : Df K mg "_law_pick" s__law_pick ["source", "row"] := ⟨f13, _, fun_mk (st := s__law_pick) l13 c13 k13, PySem.W.mg_of X G a13, (fun_mk (st := s__law_pick) l13 c13 k13).binds (ps := ["source", "row"]) fun _ _ _ _ _ _ us hl => match us, hl with | [_, _], _ => rfl⟩
  have D__law_new_name : Df K mg "_law_new_name" s__law_new_name ["source", "used"] := ⟨f14, _, fun_mk (st := s__law_new_name) l14 c14 k14, PySem.W.mg_of X G a14, (fun_mk (st := s__law_new_name) l14 c14 k14).binds (ps := ["source", "used"]) fun _ _ _ _ _ _ us hl => match us, hl with | [_, _], _ => rfl⟩
  have D__law_row : Df K mg "_law_row" s__law_row ["source", "size"] := ⟨f15, _, fun_mk (st := s__law_row) l15 c15 k15, PySem.W.mg_of X G a15, (fun_mk (st := s__law_row) l15 c15 k15).binds (ps := ["source", "size"]) fun _ _ _ _ _ _ us hl => match us, hl with | [_, _], _ => rfl⟩
  have D__law_is_int : Df K mg "_law_is_int" s__law_is_int ["value"] := ⟨f16, _, fun_mk (st := s__law_is_int) l16 c16 k16, PySem.W.mg_of X G a16, (fun_mk (st := s__law_is_int) l16 c16 k16).binds (ps := ["value"]) fun _ _ _ _ _ _ us hl => match us, hl with | [_], _ => rfl⟩
  have D__law_same : Df K mg "_law_same" s__law_same ["actual", "due"] := ⟨f17, _, fun_mk (st := s__law_same) l17 c17 k17, PySem.W.mg_of X G a17, (fun_mk (st := s__law_same) l17 c17 k17).binds (ps := ["actual", "due"]) fun _ _ _ _ _ _ us hl => match us, hl with | [_, _], _ => rfl⟩
  have D__law_is_name : Df K mg "_law_is_name" s__law_is_name ["text"] := ⟨f18, _, fun_mk (st := s__law_is_name) l18 c18 k18, PySem.W.mg_of X G a18, (fun_mk (st := s__law_is_name) l18 c18 k18).binds (ps := ["text"]) fun _ _ _ _ _ _ us hl => match us, hl with | [_], _ => rfl⟩
  have D__law_number : Df K mg "_law_number" s__law_number ["text", "digits"] := ⟨f19, _, fun_mk (st := s__law_number) l19 c19 k19, PySem.W.mg_of X G a19, (fun_mk (st := s__law_number) l19 c19 k19).binds (ps := ["text", "digits"]) fun _ _ _ _ _ _ us hl => match us, hl with | [_, _], _ => rfl⟩
  have D__law_parts : Df K mg "_law_parts" s__law_parts ["word"] := ⟨f20, _, fun_mk (st := s__law_parts) l20 c20 k20, PySem.W.mg_of X G a20, (fun_mk (st := s__law_parts) l20 c20 k20).binds (ps := ["word"]) fun _ _ _ _ _ _ us hl => match us, hl with | [_], _ => rfl⟩
  have D__law_key : Df K mg "_law_key" s__law_key ["source"] := ⟨f21, _, fun_mk (st := s__law_key) l21 c21 k21, PySem.W.mg_of X G a21, (fun_mk (st := s__law_key) l21 c21 k21).binds (ps := ["source"]) fun _ _ _ _ _ _ us hl => match us, hl with | [_], _ => rfl⟩
  have D__law_word : Df K mg "_law_word" s__law_word ["source"] := ⟨f22, _, fun_mk (st := s__law_word) l22 c22 k22, PySem.W.mg_of X G a22, (fun_mk (st := s__law_word) l22 c22 k22).binds (ps := ["source"]) fun _ _ _ _ _ _ us hl => match us, hl with | [_], _ => rfl⟩
  have D__law_bent : Df K mg "_law_bent" s__law_bent ["source", "word"] := ⟨f23, _, fun_mk (st := s__law_bent) l23 c23 k23, PySem.W.mg_of X G a23, (fun_mk (st := s__law_bent) l23 c23 k23).binds (ps := ["source", "word"]) fun _ _ _ _ _ _ us hl => match us, hl with | [_, _], _ => rfl⟩
  have D__law_read_right : Df K mg "_law_read_right" s__law_read_right ["word"] := ⟨f24, _, fun_mk (st := s__law_read_right) l24 c24 k24, PySem.W.mg_of X G a24, (fun_mk (st := s__law_read_right) l24 c24 k24).binds (ps := ["word"]) fun _ _ _ _ _ _ us hl => match us, hl with | [_], _ => rfl⟩
  have D__law_row_right : Df K mg "_law_row_right" s__law_row_right ["row"] := ⟨f25, _, fun_mk (st := s__law_row_right) l25 c25 k25, PySem.W.mg_of X G a25, (fun_mk (st := s__law_row_right) l25 c25 k25).binds (ps := ["row"]) fun _ _ _ _ _ _ us hl => match us, hl with | [_], _ => rfl⟩
  have Y : Tc K mg A_MootError A_TextError A_LimitError A_BadWord := { g_MootError := PySem.W.mg_of X G aC_MootError, g_TextError := PySem.W.mg_of X G aC_TextError, g_LimitError := PySem.W.mg_of X G aC_LimitError, g_BadWord := PySem.W.mg_of X G aC_BadWord, e_BadWord := ⟨PySem.W.mg_of X G aC_BadWord, ⟨⟨nm_BadWord, q_BadWord, N_BadWord, bs_BadWord, bm_BadWord, sn_BadWord, sub_BadWord, ab_BadWord, col_BadWord, dd_BadWord, m0_BadWord, m1_BadWord, m2_BadWord, m3_BadWord, m5_BadWord, xL_BadWord, rb_BadWord⟩, sa_BadWord, ex_BadWord, ty_BadWord, kC_BadWord⟩, ⟨hg_BadWord, hk_BadWord, ex_BadWord, hd_BadWord, ha_BadWord, hn_, ht_, hm_BadWord⟩⟩, n_BadWord_word := nf_BadWord_word, i_BadWord := ⟨fI_BadWord, _, fun_mk (st := s_init_BadWord) lI_BadWord cI_BadWord kF_BadWord, iC_BadWord, tI_BadWord, (fun_mk (st := s_init_BadWord) lI_BadWord cI_BadWord kF_BadWord).binds (ps := ["self", "word"]) fun _ _ _ _ _ _ us hl => match us, hl with | [_, _], _ => rfl⟩, m_BadWord_MootError := PySem.W.exm_ref exD_MootError hdD_MootError tyD_MootError su_BadWord_MootError, k_BadWord_TextError := ki_BadWord_TextError, k_BadWord_BadWord := ki_BadWord_BadWord, k_BadWord_LimitError := ki_BadWord_LimitError }
  have W : Tw K w mg A_FORMS := { g_FORMS := PySem.W.mg_of X G aT_FORMS, t_FORMS := tab_ok2 dT_FORMS tT_FORMS }
  have C__law_mix := ok__law_mix (P := l.prog) (w := w) (base := base) D__law_mix T 
  have C__law_draw := ok__law_draw (P := l.prog) (w := w) (base := base) D__law_draw T C__law_mix
  have C__law_pick := ok__law_pick (P := l.prog) (w := w) (base := base) D__law_pick T C__law_draw
  have C__law_bent := ok__law_bent (P := l.prog) (w := w) (base := base) D__law_bent T C__law_draw C__law_pick
  have C__law_is_name := ok__law_is_name (P := l.prog) (w := w) (base := base) D__law_is_name T 
  have C__law_number := ok__law_number (P := l.prog) (w := w) (base := base) D__law_number T 
  have C__law_parts := ok__law_parts (P := l.prog) (w := w) (base := base) D__law_parts T C__law_is_name C__law_number
  have C__law_is_int := ok__law_is_int (P := l.prog) (w := w) (base := base) D__law_is_int T 
  have C__law_same := ok__law_same (P := l.prog) (w := w) (base := base) D__law_same T C__law_is_int 2
  have C_is_row := ok_is_row (P := l.prog) (w := w) (base := base) D_is_row T 
  have C_is_key := ok_is_key (P := l.prog) (w := w) (base := base) D_is_key T C_is_row
  have C_is_word := ok_is_word (P := l.prog) (w := w) (base := base) D_is_word T 
  have C_is_name := ok_is_name (P := l.prog) (w := w) (base := base) D_is_name T C_is_word
  have C_number_of := ok_number_of (P := l.prog) (w := w) (base := base) D_number_of T 
  have C_read_part := ok_read_part (P := l.prog) (w := w) (base := base) D_read_part T C_is_key C_is_name C_number_of
  have C_read_word := ok_read_word (P := l.prog) (w := w) (base := base) D_read_word T Y W C_read_part
  have C_write_word := ok_write_word (P := l.prog) (w := w) (base := base) D_write_word T 
  have C_hotsame := ok_hotsame (P := l.prog) (w := w) (base := base) D__law_same T 
  have C__law_read_right := ok__law_read_right (P := l.prog) (w := w) (base := base) D__law_read_right T Y C__law_parts C__law_same C_read_word C_write_word C_hotsame
  have C__law_row := ok__law_row (P := l.prog) (w := w) (base := base) D__law_row T C__law_draw
  have C_stuffed := ok_stuffed (P := l.prog) (w := w) (base := base) D_stuffed T 
  have C_unstuffed := ok_unstuffed (P := l.prog) (w := w) (base := base) D_unstuffed T 
  have C__law_row_right := ok__law_row_right (P := l.prog) (w := w) (base := base) D__law_row_right T C__law_same C_stuffed C_unstuffed
  have C__law_source := ok__law_source (P := l.prog) (w := w) (base := base) D__law_source T C__law_mix
  have C__law_new_name := ok__law_new_name (P := l.prog) (w := w) (base := base) D__law_new_name T C__law_draw
  have C__law_key := ok__law_key (P := l.prog) (w := w) (base := base) D__law_key T C__law_draw C__law_new_name C__law_pick C__law_row
  have C__law_word := ok__law_word (P := l.prog) (w := w) (base := base) D__law_word T C__law_draw C__law_key C__law_new_name C__law_pick
  exact ok_law (fun_mk (st := s_law) l26 c26 k26) T C__law_bent C__law_draw C__law_read_right C__law_row C__law_row_right C__law_source C__law_word
theorem walk {l : PySem.W.OpenLaw} {q : Program} {loose : List Str} {XP : (Str → Option Value) → Heap → Prop} {YP : World → Heap → Prop} {d : DefRec} {K : Params → PySem.W.Frag} (hn : l.most = some 63) (hdf : d.params.defaults = [])
    (hY : ∀ (w : World) (h : Heap), YP w h → (K w.params).In h)
    (F : ∀ (w : World) (mg : Str → Option Value) (fa : Addr) (h : Heap), (K w.params).In h → h.Ns mainGlobals mg → mg d.name = some (.ref fa) →
      ∃ fd : FuncData, (∀ (s : Shared) (u : Value), BindsTo s fd ⟨[u], []⟩ [("script", u)]) ∧ ∀ base : Heap, (K w.params).In base → base.Ns mainGlobals mg → FnOk l.prog w (K w.params) mg base CX0 6 fa fd ["script"] (sp_law (K w.params))) :
    PySem.W.WalkO q loose XP YP l.row.toRowW d [] (fun f vs => PySem.call f vs) :=
  L2.walk_of (n := 63) (k := 6) (x := "script") (CX := fun _ => CX0) (sp := fun w => sp_law (K w.params)) hn (by decide) hdf ⟨rfl, by decide, by decide⟩ hY F (fun _ _ a ns hl _ hS => ⟨a, ns, rfl, hS, hl, fun _ => rfl⟩) fun _ _ _ _ _ z => z
end Z
open PySem PySem.W PyProof.Rows in
set_option maxRecDepth 100000 in
set_option maxHeartbeats 0 in
theorem PySem.Challenge.cw_criermoot_k39_words_read_holds : PySem.Challenge.rw_criermoot_k39_words_read.Holds := by
  w_on; o_law; k_head; (case hw => w_witness2)
  k_fill
  refine Z.walk (l := PySem.Challenge.rw_criermoot_k39_words_read) rfl rfl (fun w h Y => PySem.W.kIn_of Y) ?F
  case F =>
    intro w mg fa h KX G hmg
    refine' Z.all_mk KX G hmg ?a0 ?l0 ?c0 ?k0 ?a1 ?l1 ?c1 ?k1 ?a2 ?l2 ?c2 ?k2 ?a3 ?l3 ?c3 ?k3 ?a4 ?l4 ?c4 ?k4 ?a5 ?l5 ?c5 ?k5 ?a6 ?l6 ?c6 ?k6 ?a7 ?l7 ?c7 ?k7 ?a8 ?l8 ?c8 ?k8 ?a9 ?l9 ?c9 ?k9 ?a10 ?l10 ?c10 ?k10 ?a11 ?l11 ?c11 ?k11 ?a12 ?l12 ?c12 ?k12 ?a13 ?l13 ?c13 ?k13 ?a14 ?l14 ?c14 ?k14 ?a15 ?l15 ?c15 ?k15 ?a16 ?l16 ?c16 ?k16 ?a17 ?l17 ?c17 ?k17 ?a18 ?l18 ?c18 ?k18 ?a19 ?l19 ?c19 ?k19 ?a20 ?l20 ?c20 ?k20 ?a21 ?l21 ?c21 ?k21 ?a22 ?l22 ?c22 ?k22 ?a23 ?l23 ?c23 ?k23 ?a24 ?l24 ?c24 ?k24 ?a25 ?l25 ?c25 ?k25 ?a26 ?l26 ?c26 ?k26 ?z_abs ?z_all ?z_bool ?z_int ?z_isinstance ?z_len ?z_list ?z_range ?z_str ?z_tuple ?z_zip ?v_LETTERS ?v_DIGITS ?v_CHARACTERS ?v_LONGEST_NAME ?v_LONGEST_KEY ?v_LONGEST_HOPS ?v_LONGEST_DATE ?aC_MootError ?aC_TextError ?aC_LimitError ?aC_BadWord ?hn_ ?ht_ ?xL_BadWord ?rb_BadWord ?sa_BadWord ?ex_BadWord ?ty_BadWord ?kC_BadWord ?hg_BadWord ?hk_BadWord ?hd_BadWord ?ha_BadWord ?hm_BadWord ?nf_BadWord_word ?iC_BadWord ?tI_BadWord ?lI_BadWord ?cI_BadWord ?kF_BadWord ?hdD_MootError ?tyD_MootError ?exD_MootError ?su_BadWord_MootError ?ki_BadWord_TextError ?ki_BadWord_BadWord ?ki_BadWord_LimitError ?aT_FORMS ?dT_FORMS ?tT_FORMS
    (case a0 => k_is)
    (case l0 => k_is)
    (case c0 => k_is)
    (case k0 => k_is)
    (case a1 => k_is)
    (case l1 => k_is)
    (case c1 => k_is)
    (case k1 => k_is)
    (case a2 => k_is)
    (case l2 => k_is)
    (case c2 => k_is)
    (case k2 => k_is)
    (case a3 => k_is)
    (case l3 => k_is)
    (case c3 => k_is)
    (case k3 => k_is)
    (case a4 => k_is)
    (case l4 => k_is)
    (case c4 => k_is)
    (case k4 => k_is)
    (case a5 => k_is)
    (case l5 => k_is)
    (case c5 => k_is)
    (case k5 => k_is)
    (case a6 => k_is)
    (case l6 => k_is)
    (case c6 => k_is)
    (case k6 => k_is)
    (case a7 => k_is)
    (case l7 => k_is)
    (case c7 => k_is)
    (case k7 => k_is)
    (case a8 => k_is)
    (case l8 => k_is)
    (case c8 => k_is)
    (case k8 => k_is)
    (case a9 => k_is)
    (case l9 => k_is)
    (case c9 => k_is)
    (case k9 => k_is)
    (case a10 => k_is)
    (case l10 => k_is)
    (case c10 => k_is)
    (case k10 => k_is)
    (case a11 => k_is)
    (case l11 => k_is)
    (case c11 => k_is)
    (case k11 => k_is)
    (case a12 => k_is)
    (case l12 => k_is)
    (case c12 => k_is)
    (case k12 => k_is)
    (case a13 => k_is)
    (case l13 => k_is)
    (case c13 => k_is)
    (case k13 => k_is)
    (case a14 => k_is)
    (case l14 => k_is)
    (case c14 => k_is)
    (case k14 => k_is)
    (case a15 => k_is)
    (case l15 => k_is)
    (case c15 => k_is)
    (case k15 => k_is)
    (case a16 => k_is)
    (case l16 => k_is)
    (case c16 => k_is)
    (case k16 => k_is)
    (case a17 => k_is)
    (case l17 => k_is)
    (case c17 => k_is)
    (case k17 => k_is)
    (case a18 => k_is)
    (case l18 => k_is)
    (case c18 => k_is)
    (case k18 => k_is)
    (case a19 => k_is)
    (case l19 => k_is)
    (case c19 => k_is)
    (case k19 => k_is)
    (case a20 => k_is)
    (case l20 => k_is)
    (case c20 => k_is)
    (case k20 => k_is)
    (case a21 => k_is)
    (case l21 => k_is)
    (case c21 => k_is)
    (case k21 => k_is)
    (case a22 => k_is)
    (case l22 => k_is)
    (case c22 => k_is)
    (case k22 => k_is)
    (case a23 => k_is)
    (case l23 => k_is)
    (case c23 => k_is)
    (case k23 => k_is)
    (case a24 => k_is)
    (case l24 => k_is)
    (case c24 => k_is)
    (case k24 => k_is)
    (case a25 => k_is)
    (case l25 => k_is)
    (case c25 => k_is)
    (case k25 => k_is)
    (case a26 => k_is)
    (case l26 => k_is)
    (case c26 => k_is)
    (case k26 => k_is)
    (case z_abs => k_is)
    (case z_all => k_is)
    (case z_bool => k_is)
    (case z_int => k_is)
    (case z_isinstance => k_is)
    (case z_len => k_is)
    (case z_list => k_is)
    (case z_range => k_is)
    (case z_str => k_is)
    (case z_tuple => k_is)
    (case z_zip => k_is)
    (case v_LETTERS => k_is)
    (case v_DIGITS => k_is)
    (case v_CHARACTERS => k_is)
    (case v_LONGEST_NAME => k_is)
    (case v_LONGEST_KEY => k_is)
    (case v_LONGEST_HOPS => k_is)
    (case v_LONGEST_DATE => k_is)
    (case aC_MootError => k_is)
    (case aC_TextError => k_is)
    (case aC_LimitError => k_is)
    (case aC_BadWord => k_is)
    (case hn_ => k_is)
    (case ht_ => k_is)
    (case xL_BadWord => k_is)
    (case rb_BadWord => first | rfl | decide +kernel)
    (case sa_BadWord => k_is)
    (case ex_BadWord => k_is)
    (case ty_BadWord => k_is)
    (case kC_BadWord => k_is)
    (case hg_BadWord => k_is)
    (case hk_BadWord => k_is)
    (case hd_BadWord => k_is)
    (case ha_BadWord => k_is)
    (case hm_BadWord => k_is)
    (case nf_BadWord_word => k_is)
    (case iC_BadWord => k_is)
    (case tI_BadWord => k_is)
    (case lI_BadWord => k_is)
    (case cI_BadWord => k_is)
    (case kF_BadWord => k_is)
    (case hdD_MootError => k_is)
    (case tyD_MootError => k_is)
    (case exD_MootError => k_is)
    (case su_BadWord_MootError => k_is)
    (case ki_BadWord_TextError => kit_is)
    (case ki_BadWord_BadWord => kit_is)
    (case ki_BadWord_LimitError => kit_is)
    (case aT_FORMS => k_is)
    (case dT_FORMS => first | rfl | k_is)
    (case tT_FORMS => first | rfl | decide +kernel | k_is)
