import PyProof.Rows.All
import Wide.All
import OpenK.AllK
import Wide.FinOn
import HandS.ForMost
import HandS.IsInst
import HandS.TupAny
import HandS.TupMul
import HandS.Wide
import HandS.OwnEq
import HandS.Walk
import HandS.Defaults
import HandS.Head0
import HandS.Head1
import HandS.Head2
import HandS.HeadEnd
import HandS.HeadHook1
import HandS.HeadHook2
import PySem.Challenge.RW_emptyfilters_k03_values_that_are_rows
set_option Elab.async false
set_option linter.all false
set_option maxRecDepth 100000
set_option maxHeartbeats 2000000
namespace Own
open PySem PySem.Spec PyProof.Rows L2
section
variable {X : Cx} {n : Nat}
theorem run_own {CX : CXT} {f : Addr} {fd : FuncData} {ps : List Str} {sp : Sp} {E : XK} (F : FnOk X.prog X.w X.K X.mg X.base CX n f fd ps sp)
    (hb : Binds X.K fd ps []) (hx : Passes CX X E) (hr : Room n X.A) {pins : List (Addr × Obj)} {s : Shared} {σ : L2.St} {H : Hp} {vs : List V} {us : List Value} {Q : V → Hp → Prop} (I : Inv X pins σ H s) (r : Vals vs us)
    (hsp : sp vs H Q E) : wpAny (model X.prog X.w) X.A (call (.ref f) us) (EP X pins σ Q) X.xe s :=
  run_fn (ds := []) (dvs := []) F hr hb .nil hx I r (by rw [List.append_nil]; exact hsp)
/-- x in o, by an own __contains__ at f -/
def rInOwn (C : Addr) (neg : Bool) (sp : Sp) (E : XK) : R2 := fun x y H Q => ∃ a dx fs, y = .ref a ∧ H a = some (.ins C dx fs) ∧ sp [.ref a, x] H (fun v H' => ∃ b, v = .bl b ∧ Q (.bl (if neg then !b else b)) H') E
theorem contains_own {CX : CXT} {C f : Addr} {fd : FuncData} {ps : List Str} {sp : Sp} {E : XK} (F : FnOk X.prog X.w X.K X.mg X.base CX n f fd ps sp)
    (hm : Meth X.K C "__contains__" f) (hb : Binds X.K fd ps []) (hx : Passes CX X E) (hr : Room n X.A) {pins : List (Addr × Obj)} {s : Shared} {σ : L2.St} {H : Hp} {x : V} {v : Value} {a dx : Addr} {fs : List (Str × V)} {Q : Bool → Hp → Prop} (I : Inv X pins σ H s) (rx : RelV x v)
    (ha : H a = some (.ins C dx fs)) (hsp : sp [.ref a, x] H (fun v H' => ∃ b, v = .bl b ∧ Q b H') E) :
    wpAny (model X.prog X.w) X.A (contains (.ref a) v) (fun b s' => ∃ H', Inv X pins σ H' s' ∧ Q b H') X.xe s := by
  obtain ⟨mA, J, _⟩ := ins_get I.hok ha
  obtain ⟨od, J, _⟩ := J.look
  have hK := I.kIn
  have hf := PySem.W.looks_findIn (M := model X.prog X.w) hK hm.at_
  unfold contains
  refine wpAny_holding ?_
  have hs0 : stdlibNamesSay? (.ref a) v = none := by rfl
  rw [hs0]
  show wpAny (model X.prog X.w) X.A (specialOf (.ref a) "__contains__" >>= _) _ _ _
  unfold specialOf
  refine wpAny_bind (wpAny_bind (J.type.here (hf.here ?_)))
  have e1 : ((some (Value.ref f)) == some Value.none) = false := by rfl
  dsimp only
  rw [e1]
  simp only [Bool.false_eq_true, if_false]
  unfold callSpecialUnlessNone? specialOf
  refine wpAny_bind (wpAny_bind (wpAny_bind (J.type.here (hf.here ?_))))
  refine wpAny_holding (wpAny_bind ((PySem.W.bind_fn hK _ (beq_iff_eq.mp hm.fn)).here ?_))
  dsimp only
  have e2 : (Value.ref f == Value.none) = false := by rfl
  rw [e2]
  simp only [Bool.false_eq_true, if_false]
  show wpAny (model X.prog X.w) X.A (call (.ref f) [.ref a, v] >>= _) _ _ _
  have r2 : Vals [V.ref a, x] [Value.ref a, v] := .cons rfl (.cons rx .nil)
  refine wpAny_bind (thn (run_own (n := n) F hb hx hr I r2 hsp) fun u s1 ⟨z, H1, I1, rz, b, ez, q⟩ => ?_)
  subst ez
  cases rz
  refine wpAny_pure ?_
  show wpAny (model X.prog X.w) X.A (truthy (.bool b)) _ _ _
  exact wpAny_pure ⟨H1, I1, q⟩
theorem op_in_own {CX : CXT} {C f : Addr} {fd : FuncData} {ps : List Str} {sp : Sp} {E : XK} (F : FnOk X.prog X.w X.K X.mg X.base CX n f fd ps sp)
    (hm : Meth X.K C "__contains__" f) (hb : Binds X.K fd ps []) (hx : Passes CX X E) (hr : Room n X.A) : OpR X (compareOp .In) (rInOwn C false sp E) := by
  intro pins s σ H x y v u Q I rx ry hq
  obtain ⟨a, dx, fs, rfl, ha, h⟩ := hq
  cases ry
  refine wpAny_bind (thn (contains_own F hm hb hx hr I rx ha (Q := fun b H' => Q (.bl b) H') h) fun b s1 ⟨H1, I1, q⟩ => ?_)
  exact wpAny_pure ⟨.bl b, H1, I1, rfl, q⟩
theorem op_notIn_own {CX : CXT} {C f : Addr} {fd : FuncData} {ps : List Str} {sp : Sp} {E : XK} (F : FnOk X.prog X.w X.K X.mg X.base CX n f fd ps sp)
    (hm : Meth X.K C "__contains__" f) (hb : Binds X.K fd ps []) (hx : Passes CX X E) (hr : Room n X.A) : OpR X (compareOp .NotIn) (rInOwn C true sp E) := by
  intro pins s σ H x y v u Q I rx ry hq
  obtain ⟨a, dx, fs, rfl, ha, h⟩ := hq
  cases ry
  refine wpAny_bind (thn (contains_own F hm hb hx hr I rx ha (Q := fun b H' => Q (.bl (!b)) H') h) fun b s1 ⟨H1, I1, q⟩ => ?_)
  exact wpAny_pure ⟨.bl (!b), H1, I1, rfl, q⟩
end
/-! ### callees by name -/
structure Cal (P : Program) (w : World) (K : PySem.W.Frag) (mg : Str → Option Value) (base : Heap) (CX : CXT) (k : Nat) (x : Str) (f : Addr) (fd : FuncData) (ps : List Str) (sp : Sp) : Prop where
  ok : FnOk P w K mg base CX k f fd ps sp
  at_ : mg x = some (.ref f)
  kp : PySem.W.keepIn K (.ref f) = true
  b : Binds K fd ps []
theorem pe_cal {X : Cx} {k : Nat} {x : Str} {f : Addr} {fd : FuncData} {ps : List Str} {sp : Sp} {e : Expr} {es : List Expr} {t : TA} {p pos : Pos} (c : Cal X.prog X.w X.K X.mg X.base CX0 k x f fd ps sp) (hr : Room k X.A) (ha : PA X (e :: es) t)
    (hg : Gl X x := by rfl) (hdb : (x == ("__debug__" : Str)) = false := by decide) (he : starEach (e :: es) X.env = (false, eval e X.env) :: starEach es X.env := by rfl) (hpl : (backTo pos (starEach es X.env)).any (·.1) = false := by rfl) :
    PE X (.Call (.Name x p) (e :: es) [] pos) (tCall sp [] E0 t) := pe_call c.ok hr hg c.at_ c.kp c.b .nil pass0 ha hdb he hpl
theorem pe_gint {X : Cx} {x : Str} {i : Int} {pos : Pos} (hg : Gl X x) (hm : ∃ t, X.mg x = some (.int i t)) (hd : (x == ("__debug__" : Str)) = false := by decide) : PE X (.Name x pos) (tC (.int i)) := by
  obtain ⟨t, h⟩ := hm
  exact pe_glob hg h ⟨t, rfl⟩ hd
theorem hu_of' {k : Nat} {A : Around} (hr : Room k A) : A.units + 64 < cLine := hr.units
/-! ### builtins that the top leaves -/
structure Free (mg : Str → Option Value) : Prop where
  len : mg "len" = none
  range : mg "range" = none
  enumerate : mg "enumerate" = none
  int : mg "int" = none
  abs : mg "abs" = none
  list : mg "list" = none
  tuple : mg "tuple" = none
  all : mg "all" = none
  isinstance : mg "isinstance" = none
  max : mg "max" = none
  min : mg "min" = none
  str : mg "str" = none
  bool : mg "bool" = none
  repr : mg "repr" = none
  sorted : mg "sorted" = none
  set : mg "set" = none
  sum : mg "sum" = none
  any : mg "any" = none
  dict : mg "dict" = none
/-! ### the bag: a list of two ints, and what a draw from it leaves -/
def Bag (H : Hp) (b : Addr) : Prop := ∃ x y : Int, H b = some (.lst [.int x, .int y]) ∧ 0 ≤ x ∧ 0 ≤ y
def But (b : Addr) (H H' : Hp) : Prop := ∀ a o, a ≠ b → H a = some o → H' a = some o
theorem But.refl {b : Addr} {H : Hp} : But b H H := fun _ _ _ h => h
theorem But.trans {b : Addr} {H H1 H2 : Hp} (x : But b H H1) (y : But b H1 H2) : But b H H2 := fun a o n h => y a o n (x a o n h)
theorem But.same {b : Addr} {H H1 : Hp} (x : Same H H1) : But b H H1 := fun a o _ h => x a o h
theorem But.new {b p : Addr} {H H1 : Hp} {o : HO} (x : But b H H1) (hp : H1 p = none) : But b H (upd H1 p o) := fun a u n h => by
  have q := x a u n h
  rw [upd_ne (ne_of_none q hp)]
  exact q
theorem But.put {b : Addr} {H H1 : Hp} {o : HO} (x : But b H H1) : But b H (upd H1 b o) := fun a u n h => by
  rw [upd_ne n]
  exact x a u n h
theorem But.putb {b p : Addr} {H H1 : Hp} {o : HO} (x : But b H H1) (hp : H p = none) : But b H (upd H1 p o) := fun a u n h => by
  rw [upd_ne (ne_of_none h hp)]
  exact x a u n h
theorem But.list {K : PySem.W.Frag} {b a : Addr} {H H1 : Hp} {xs : List V} (x : But b H H1) (n : a ≠ b) (h : SqL K H a xs) : SqL K H1 a xs := by
  rcases h with (h | ⟨o, h⟩) | h
  · exact .inl (.inl (x _ _ n h))
  · exact .inl (.inr ⟨o, x _ _ n h⟩)
  · exact .inr h
theorem But.tup {K : PySem.W.Frag} {b a : Addr} {H H1 : Hp} {xs : List V} (x : But b H H1) (n : a ≠ b) (h : SqT K H a xs) : SqT K H1 a xs := by
  rcases h with (h | ⟨o, h⟩) | h
  · exact .inl (.inl (x _ _ n h))
  · exact .inl (.inr ⟨o, x _ _ n h⟩)
  · exact .inr h
theorem Bag.new {b p : Addr} {H : Hp} {o : HO} (x : Bag H b) (hp : H p = none) : Bag (upd H p o) b := by
  obtain ⟨x, y, h, h0, h1⟩ := x
  exact ⟨x, y, by rw [upd_ne (ne_of_none h hp)]; exact h, h0, h1⟩
theorem Bag.ne {b p : Addr} {H : Hp} (x : Bag H b) (hp : H p = none) : b ≠ p := by
  obtain ⟨x, y, h, _, _⟩ := x
  exact ne_of_none h hp
def spTake : Sp := fun vs H Q _ => ∃ (b : Addr) (m : Int), vs = [.ref b, .int m] ∧ Bag H b ∧ 0 < m ∧ m < 1073741824 ∧ ∀ (d : Int) (H' : Hp), 0 ≤ d → d < m → But b H H' → Bag H' b → Q (.int d) H'
/-- some[draw]: one of the items of a list -/
def spOf (K : PySem.W.Frag) : Sp := fun vs H Q _ => ∃ (b l : Addr) (xs : List V), vs = [.ref b, .ref l] ∧ Bag H b ∧ l ≠ b ∧ SqL K H l xs ∧ xs ≠ [] ∧ xs.length < 1000000 ∧ ∀ (v : V) (H' : Hp), v ∈ xs → But b H H' → Bag H' b → Q v H'
def spBag (K : PySem.W.Frag) : Sp := fun vs H Q _ => ∃ (a : Addr) (ns : List Int) (n : Nat), vs = [.ref a, .int n] ∧ SqL K H a (ns.map V.int) ∧ ns.length ≤ 63 ∧ n ≤ 63 ∧ ∀ (b : Addr) (H' : Hp), Same H H' → H b = none → Bag H' b → Q (.ref b) H'
theorem mem_cut {xs : List V} {lo hi : Option Int} {x : V} (h : x ∈ cutV xs lo hi) : x ∈ xs := by
  unfold cutV at h
  exact List.mem_of_mem_drop (List.mem_of_mem_take h)
theorem int_of_mem {ns : List Int} {x : V} (h : x ∈ ns.map V.int) : ∃ u, x = V.int u := by
  obtain ⟨u, _, e⟩ := List.mem_map.mp h
  exact ⟨u, e.symm⟩
theorem same_new {p : Addr} {H H1 : Hp} {o : HO} (x : Same H H1) (hp : H1 p = none) : Same H (upd H1 p o) := fun a u h => by
  have q := x a u h
  rw [upd_ne (ne_of_none q hp)]
  exact q
theorem same_newH {p : Addr} {H : Hp} {o : HO} (hp : H p = none) : Same H (upd H p o) := same_new (Same.refl H) hp
theorem len_ints {ns : List Int} : (ns.map V.int).length = ns.length := List.length_map ..
/-- two ways to one value: what is to be shown behind is shown once -/
theorem pick {α : Type} {P : α → Prop} {G : Prop} (main : (∀ c, P c) → G) (rest : ∀ c, P c) : G := main rest
theorem pickP {α : Type} (R : α → Prop) {P : α → Prop} {G : Prop} (main : (∀ c, R c → P c) → G) (rest : ∀ c, R c → P c) : G := main rest
theorem abs_nn (i : Int) : 0 ≤ (if i < 0 then -i else i) := by
  split <;> omega
/-! ### kinds of values -/
inductive Kd where
  | non | bl | int | str | lst | tup
  deriving DecidableEq
def Kd.nm : Kd → String
  | .non => "NoneType"
  | .bl => "bool"
  | .int => "int"
  | .str => "str"
  | .lst => "list"
  | .tup => "tuple"
def kdO : Option HO → Option Kd
  | some (.lst _) => some .lst
  | some (.tup _) => some .tup
  | _ => none
def kd (H : Hp) : V → Option Kd
  | .non => some .non
  | .bl _ => some .bl
  | .int _ => some .int
  | .str _ => some .str
  | .ref a => kdO (H a)
  | _ => none
theorem kdO_lst {o : Option HO} (h : kdO o = some .lst) : ∃ xs, o = some (.lst xs) := by
  unfold kdO at h
  split at h
  · exact ⟨_, rfl⟩
  · cases h
  · cases h
theorem kdO_tup {o : Option HO} (h : kdO o = some .tup) : ∃ xs, o = some (.tup xs) := by
  unfold kdO at h
  split at h
  · cases h
  · exact ⟨_, rfl⟩
  · cases h
theorem kdO_or {o : Option HO} {t : Kd} (h : kdO o = some t) : t = .lst ∨ t = .tup := by
  unfold kdO at h
  split at h
  · cases h; exact .inl rfl
  · cases h; exact .inr rfl
  · cases h
theorem kd_ok {K : PySem.W.Frag} {H : Hp} {v : V} {t : Kd} (h : kd H v = some t) : TyX K H v (.type t.nm) := by
  cases v with
  | non => cases h; exact .base .non
  | bl b => cases h; exact .base (.bl b)
  | int i => cases h; exact .base (.int i)
  | str z => cases h; exact .base (.str z)
  | ref a =>
    have h1 : kdO (H a) = some t := h
    rcases kdO_or h1 with e | e <;> subst e
    · obtain ⟨xs, e⟩ := kdO_lst h1
      exact .base (.lst e)
    · obtain ⟨xs, e⟩ := kdO_tup h1
      exact .base (.tup e)
  | _ => cases h
theorem kd_lst {H : Hp} {a : Addr} {xs : List V} (h : H a = some (.lst xs)) : kd H (.ref a) = some .lst := by
  show kdO (H a) = _
  rw [h] <;> rfl
theorem kd_tup {H : Hp} {a : Addr} {xs : List V} (h : H a = some (.tup xs)) : kd H (.ref a) = some .tup := by
  show kdO (H a) = _
  rw [h] <;> rfl
theorem kd_but {H H' : Hp} {b : Addr} {v : V} {t : Kd} (h : kd H v = some t) (x : But b H H') (n : v ≠ .ref b) : kd H' v = some t := by
  cases v with
  | ref a =>
    have na : a ≠ b := fun e => n (by rw [e])
    have h1 : kdO (H a) = some t := h
    rcases kdO_or h1 with e | e <;> subst e
    · obtain ⟨xs, e⟩ := kdO_lst h1
      exact kd_lst (x _ _ na e)
    · obtain ⟨xs, e⟩ := kdO_tup h1
      exact kd_tup (x _ _ na e)
  | _ => exact h
theorem kd_same {H H' : Hp} {v : V} {t : Kd} (h : kd H v = some t) (x : Same H H') : kd H' v = some t := by
  cases v with
  | ref a =>
    have h1 : kdO (H a) = some t := h
    rcases kdO_or h1 with e | e <;> subst e
    · obtain ⟨xs, e⟩ := kdO_lst h1
      exact kd_lst (x _ _ e)
    · obtain ⟨xs, e⟩ := kdO_tup h1
      exact kd_tup (x _ _ e)
  | _ => exact h
def isIntV : V → Bool
  | .int _ => true
  | _ => false
theorem kit_int {K : PySem.W.Frag} (t : Kd) : PySem.W.kitOne K (.type t.nm) (.type "int") = some (decide (t = .int) || decide (t = .bl)) := by
  cases t <;> exact kit_ty (by decide +kernel)
theorem kit_bool {K : PySem.W.Frag} (t : Kd) : PySem.W.kitOne K (.type t.nm) (.type "bool") = some (decide (t = .bl)) := by
  cases t <;> exact kit_ty (by decide +kernel)
theorem kit_str {K : PySem.W.Frag} (t : Kd) : PySem.W.kitOne K (.type t.nm) (.type "str") = some (decide (t = .str)) := by
  cases t <;> exact kit_ty (by decide +kernel)
theorem kit_tuple {K : PySem.W.Frag} (t : Kd) : PySem.W.kitOne K (.type t.nm) (.type "tuple") = some (decide (t = .tup)) := by
  cases t <;> exact kit_ty (by decide +kernel)
theorem kit_list {K : PySem.W.Frag} (t : Kd) : PySem.W.kitOne K (.type t.nm) (.type "list") = some (decide (t = .lst)) := by
  cases t <;> exact kit_ty (by decide +kernel)
theorem kit_dict {K : PySem.W.Frag} (t : Kd) : PySem.W.kitOne K (.type t.nm) (.type "dict") = some false := by
  cases t <;> exact kit_ty (by decide +kernel)
theorem kd_isInt {H : Hp} {v : V} {t : Kd} (h : kd H v = some t) : isIntV v = decide (t = .int) := by
  cases v with
  | ref a => rcases kdO_or (show kdO (H a) = some t from h) with e | e <;> subst e <;> rfl
  | _ => cases h <;> rfl
theorem kd_str {H : Hp} {v : V} (h : kd H v = some .str) : ∃ z, v = .str z := by
  cases v with
  | str z => exact ⟨z, rfl⟩
  | ref a => rcases kdO_or (show kdO (H a) = some .str from h) with e | e <;> cases e
  | _ => cases h
theorem kd_tuple {H : Hp} {v : V} (h : kd H v = some .tup) : ∃ a xs, v = .ref a ∧ H a = some (.tup xs) := by
  cases v with
  | ref a =>
    obtain ⟨xs, e⟩ := kdO_tup (show kdO (H a) = some .tup from h)
    exact ⟨a, xs, rfl, e⟩
  | _ => cases h
theorem int_not_bool {H : Hp} {v : V} {t : Kd} (h : kd H v = some t) : ((decide (t = .int) || decide (t = .bl)) && !decide (t = .bl)) = isIntV v := by
  rw [kd_isInt h]
  cases t <;> rfl
/-- is_integer -/
def spIsInt : Sp := fun vs H Q _ => ∃ (v : V) (t : Kd), vs = [v] ∧ kd H v = some t ∧ Q (.bl (isIntV v)) H
theorem take_snoc {α : Type} {xs : List α} {i : Nat} {x : α} (h : xs[i]? = some x) : xs.take (i + 1) = xs.take i ++ [x] := by
  rw [List.take_succ, h] <;> rfl
theorem map_take_snoc {α β : Type} {xs : List α} {i : Nat} {x : α} (f : α → β) (h : xs[i]? = some x) : (xs.take (i + 1)).map f = (xs.take i).map f ++ [f x] := by
  rw [take_snoc h, List.map_append] <;> rfl
/-- a value whose kind is known, a tuple's items too -/
def Known (H : Hp) (v : V) : Prop := (∃ t, kd H v = some t) ∧ ∀ a xs, v = .ref a → H a = some (.tup xs) → xs.length ≤ 1000 ∧ ∀ x ∈ xs, ∃ t, kd H x = some t
def rowO : Option HO → Int → Bool
  | some (.tup xs), m => decide ((xs.length : Int) = m) && xs.all isIntV
  | _, _ => false
/-- a tuple of m integers -/
def rowB (H : Hp) (v : V) (m : Int) : Bool := match v with
  | .ref a => rowO (H a) m
  | _ => false
theorem rowB_tup {H : Hp} {a : Addr} {xs : List V} {m : Int} (h : H a = some (.tup xs)) : rowB H (.ref a) m = (decide ((xs.length : Int) = m) && xs.all isIntV) := by
  show rowO (H a) m = _
  rw [h] <;> rfl
theorem rowB_not {H : Hp} {v : V} {t : Kd} {m : Int} (h : kd H v = some t) (n : t ≠ .tup) : rowB H v m = false := by
  cases v with
  | ref a =>
    rcases kdO_or (show kdO (H a) = some t from h) with e | e <;> subst e
    · obtain ⟨xs, e⟩ := kdO_lst (show kdO (H a) = some .lst from h)
      show rowO (H a) m = false
      rw [e] <;> rfl
    · exact absurd rfl n
  | _ => rfl
def spIsRow : Sp := fun vs H Q _ => ∃ (v : V) (m : Int), vs = [v, .int m] ∧ Known H v ∧ ∀ H', Same H H' → Q (.bl (rowB H v m)) H'
theorem all_id_map {α : Type} (xs : List α) (f : α → Bool) : (xs.map f).all id = xs.all f := by
  rw [List.all_map] <;> rfl
def spNumber : Sp := fun vs H Q _ => ∃ (b : Addr), vs = [.ref b] ∧ Bag H b ∧ ∀ (n : Int) (H' : Hp), But b H H' → Bag H' b → Q (.int n) H'
/-! ### words -/
def keptL : List Str := ["def", "if", "else", "for", "in", "break", "skip", "refuse", "take", "guard", "blank", "every", "none", "any", "all", "pick", "given", "or", "and", "not", "true", "false", "self"]
def lowB (c : Nat) : Bool := decide (97 ≤ c) && decide (c ≤ 122)
def wordB (z : Str) : Bool := !(inV (.str z) (keptL.map V.str)) && ((decide ((1 : Int) ≤ (z.length : Nat)) && decide (((z.length : Nat) : Int) ≤ 8)) && z.cps.toList.all lowB)
def wordV : V → Bool
  | .str z => wordB z
  | _ => false
theorem wordV_not {H : Hp} {v : V} {t : Kd} (h : kd H v = some t) (n : t ≠ .str) : wordV v = false := by
  cases v with
  | str z => cases h; exact absurd rfl n
  | _ => rfl
theorem le_sign (c d : Nat) : (!decide (([c] : List Nat) < [d])) = decide (d ≤ c) := by
  have h : (([c] : List Nat) < [d]) ↔ c < d := by
    rw [List.cons_lt_cons_iff]
    constructor
    · rintro (h | ⟨_, h⟩)
      · exact h
      · exact absurd h (by decide)
    · exact fun h => .inl h
  by_cases q : d ≤ c
  · rw [decide_eq_true q, decide_eq_false (fun z => absurd (h.mp z) (by omega))] <;> rfl
  · rw [decide_eq_false q, decide_eq_true (h.mpr (by omega))] <;> rfl
theorem flat_strs (l : List Str) : (l.map V.str).all flatV = true := by
  rw [List.all_map]
  exact List.all_eq_true.mpr fun _ _ => rfl
/-- is_word -/
def spIsWord : Sp := fun vs H Q _ => ∃ (v : V) (t : Kd), vs = [v] ∧ kd H v = some t ∧ (∀ z, v = .str z → z.length ≤ 1000) ∧ ∀ H', Same H H' → Q (.bl (wordV v)) H'
/-! ### the first wrong entry -/
def badFrom (pre : List V) : List V → Option Nat
  | [] => none
  | x :: r => if (!(wordV x) || inV x pre) = true then some pre.length else badFrom (pre ++ [x]) r
def dueV (xs : List V) : V :=
  if (decide ((1 : Int) ≤ (xs.length : Nat)) && decide (((xs.length : Nat) : Int) ≤ 3)) = true then (match badFrom [] xs with
    | some i => .int (i : Nat)
    | none => .non)
  else .int (-1)
theorem cut_take (xs : List V) (i : Nat) : cutV xs none (some (i : Int)) = xs.take i := by
  unfold cutV
  rw [HT.sIx_none, HT.sIx_nat, List.drop_zero, Nat.sub_zero, ← List.take_eq_take_min] 
theorem word_str {x : V} (h : wordV x = true) : ∃ z, x = .str z ∧ wordB z = true := by
  cases x with
  | str z => exact ⟨z, rfl, h⟩
  | _ => cases h
theorem word_flat {x : V} (h : wordV x = true) : flatV x = true := by
  obtain ⟨z, rfl, _⟩ := word_str h
  rfl
/-- items that a word's test may meet -/
def Ent (H : Hp) (x : V) : Prop := ∃ t, kd H x = some t ∧ ∀ z, x = .str z → z.length ≤ 1000
theorem Ent.same {H H' : Hp} {x : V} (e : Ent H x) (s : Same H H') : Ent H' x := by
  obtain ⟨t, h, l⟩ := e
  exact ⟨t, kd_same h s, l⟩
def spFirstBad (K : PySem.W.Frag) : Sp := fun vs H Q _ => ∃ (a : Addr) (xs : List V), vs = [.ref a] ∧ SqL K H a xs ∧ xs.length ≤ 1000 ∧ (∀ x ∈ xs, Ent H x) ∧ ∀ H', Same H H' → Q (dueV xs) H'
/-! ### tables -/
/-- a table at p with the columns xs -/
def TabAt (H : Hp) (C p : Addr) (xs : List V) : Prop := ∃ dx t, H p = some (.ins C dx [("columns", .ref t)]) ∧ H t = some (.tup xs)
theorem TabAt.same {H H' : Hp} {C p : Addr} {xs : List V} (h : TabAt H C p xs) (e : Same H H') : TabAt H' C p xs := by
  obtain ⟨dx, t, h1, h2⟩ := h
  exact ⟨dx, t, e _ _ h1, e _ _ h2⟩
theorem TabAt.but {H H' : Hp} {C p b : Addr} {xs : List V} (h : TabAt H C p xs) (e : But b H H') (hb : Bag H b) : TabAt H' C p xs := by
  obtain ⟨dx, t, h1, h2⟩ := h
  obtain ⟨x, y, h3, _⟩ := hb
  exact ⟨dx, t, e _ _ (ne_of h1 h3 (by intro q; cases q)) h1, e _ _ (ne_of h2 h3 (by intro q; cases q)) h2⟩
/-- Table(list), a right one -/
def spTable (K : PySem.W.Frag) (C : Addr) : Sp := fun vs H Q _ => ∃ (p a dx : Addr) (xs : List V), vs = [.ref p, .ref a] ∧ H p = some (.ins C dx []) ∧ SqL K H a xs ∧ xs.length ≤ 1000 ∧ (∀ x ∈ xs, Ent H x) ∧ dueV xs = .non ∧
  ∀ H', But p H H' → TabAt H' C p xs → Q .non H'
/-- thing in table -/
def spContains (C : Addr) : Sp := fun vs H Q _ => ∃ (p : Addr) (v : V) (xs : List V), vs = [.ref p, v] ∧ TabAt H C p xs ∧ xs.length ≤ 1000 ∧ Known H v ∧ ∀ H', Same H H' → Q (.bl (rowB H v (xs.length : Nat))) H'
/-! ### data: flat lists -/
theorem canAll_of : ∀ {ds : List PyData}, (∀ d ∈ ds, d.canLay0 = true ∧ d.depth = 0) → PyData.canLayAll0 ds = true ∧ PyData.depthAll ds = 0
  | [], _ => ⟨by simp only [PyData.canLayAll0], by simp only [PyData.depthAll]⟩
  | d :: r, h => by
    obtain ⟨h1, h2⟩ := h d (List.mem_cons_self ..)
    obtain ⟨h3, h4⟩ := canAll_of (ds := r) fun x hx => h x (List.mem_cons_of_mem _ hx)
    exact ⟨by simp only [PyData.canLayAll0, h1, h3, Bool.and_self], by simp only [PyData.depthAll, h2, h4, Nat.max_self]⟩
theorem shaped_lst {ds : List PyData} (h : ∀ d ∈ ds, d.canLay0 = true ∧ d.depth = 0) : SeqAt.shaped (.list ds) = true := by
  obtain ⟨h1, h2⟩ := canAll_of h
  unfold SeqAt.shaped
  simp only [PyData.canLay0, PyData.depth, h1, h2, Bool.true_and]
  decide
theorem shaped_tup {ds : List PyData} (h : ∀ d ∈ ds, d.canLay0 = true ∧ d.depth = 0) : SeqAt.shaped (.tuple ds) = true := by
  obtain ⟨h1, h2⟩ := canAll_of h
  unfold SeqAt.shaped
  simp only [PyData.canLay0, PyData.depth, h1, h2, Bool.true_and]
  decide
theorem int_flatD (n : Int) : (PyData.int n).canLay0 = true ∧ (PyData.int n).depth = 0 := ⟨by simp only [PyData.canLay0], by simp only [PyData.depth]⟩
theorem shaped_ints (ns : List Int) : SeqAt.shaped (.list (ns.map PyData.int)) = true := shaped_lst fun d hd => by
  obtain ⟨n, _, rfl⟩ := List.mem_map.mp hd
  exact int_flatD n
theorem shaped_nil : SeqAt.shaped (.list []) = true := shaped_lst fun _ h => by cases h
theorem dp_ints {K : PySem.W.Frag} {H : Hp} : ∀ (ns : List Int), DpAll K H (ns.map V.int) (ns.map PyData.int)
  | [] => .nil
  | n :: r => .cons (.int n) (dp_ints r)
theorem eqv_ints_nil (ns : List Int) : PyData.eqv (.list (ns.map PyData.int)) (.list []) = decide (ns = []) := by
  cases ns with
  | nil => simp [PyData.eqv, PyData.eqvAll]
  | cons n r => simp [PyData.eqv, PyData.eqvAll]
theorem pick2 {P : Option V → Hp → Prop} (R : Option V → Hp → Prop) {G : Prop} (main : (∀ o H, R o H → P o H) → G) (rest : ∀ o H, R o H → P o H) : G := main rest
def spValue : Sp := fun vs H Q _ => ∃ (b : Addr) (m : Int), vs = [.ref b, .int m] ∧ Bag H b ∧ 0 ≤ m ∧ m ≤ 3 ∧ ∀ (v : V) (H' : Hp), Known H' v → But b H H' → Bag H' b → Q v H'
theorem known_flat {H : Hp} {v : V} (h : flatV v = true) : Known H v := by
  cases v with
  | non => exact ⟨⟨_, rfl⟩, fun a xs e => by cases e⟩
  | bl b => exact ⟨⟨_, rfl⟩, fun a xs e => by cases e⟩
  | int b => exact ⟨⟨_, rfl⟩, fun a xs e => by cases e⟩
  | str b => exact ⟨⟨_, rfl⟩, fun a xs e => by cases e⟩
  | _ => cases h
theorem known_lst {H : Hp} {a : Addr} {xs : List V} (h : H a = some (.lst xs)) : Known H (.ref a) :=
  ⟨⟨_, kd_lst h⟩, fun b ys e h2 => by
    cases e
    rw [h] at h2
    cases h2⟩
theorem known_tup {H : Hp} {a : Addr} {xs : List V} (h : H a = some (.tup xs)) (hl : xs.length ≤ 1000) (hx : ∀ x ∈ xs, ∃ t, kd H x = some t) : Known H (.ref a) :=
  ⟨⟨_, kd_tup h⟩, fun b ys e h2 => by
    cases e
    rw [h] at h2
    cases h2
    exact ⟨hl, hx⟩⟩
theorem pss_cut {X : Cx} {sts : List Stmt} {t t' : TS} (h : PSs X sts t) (w : ∀ D σ H, t' D σ H → t D σ H) : PSs X sts t' := ⟨fun pins s σ H D I q => h.run pins s σ H D I (w D σ H q)⟩
theorem But.at {b : Addr} {H H' : Hp} (x : But b H H') {a : Addr} {o : HO} (hb : Bag H b) (h : H a = some o) (n : ∀ x y, o ≠ .lst [.int x, .int y]) : H' a = some o := by
  obtain ⟨x1, y1, h3, _⟩ := hb
  exact x a o (ne_of h h3 (n x1 y1)) h
theorem But.free {b p : Addr} {H H1 : Hp} (x : But b H H1) (n : p ≠ b) (h : H1 p = none) : H p = none := by
  cases e : H p with
  | none => rfl
  | some o =>
    rw [x p o n e] at h
    cases h
theorem Bag.put {b p : Addr} {H : Hp} {o : HO} (x : Bag H b) (n : b ≠ p) : Bag (upd H p o) b := by
  obtain ⟨x1, y1, h, h0, h1⟩ := x
  exact ⟨x1, y1, by rw [upd_ne n]; exact h, h0, h1⟩
theorem kd_put {H : Hp} {v : V} {t : Kd} {p : Addr} {o : HO} (h : kd H v = some t) (n : v ≠ .ref p) : kd (upd H p o) v = some t :=
  kd_but (b := p) h (But.put But.refl) n
theorem kd_new {H : Hp} {v : V} {t : Kd} {p : Addr} {o : HO} (h : kd H v = some t) (hp : H p = none) : kd (upd H p o) v = some t := kd_same h (same_newH hp)
theorem kd_ne {H : Hp} {v : V} {t : Kd} {p : Addr} (h : kd H v = some t) (hp : H p = none) : v ≠ .ref p := by
  intro e
  subst e
  have h1 : kdO (H p) = some t := h
  rw [hp] at h1
  cases h1
theorem ixN_of {n : Nat} {d : Int} (h0 : 0 ≤ d) (h1 : d < (n : Int)) : ixN n d = some d.toNat := by
  unfold ixN
  rw [if_pos h0, if_pos h1]
/-! ### t * 1 is t itself -/
theorem tuple_mul1 (l : Addr) (items : Array Value) (n : Nat) (dd : Option Addr) (sl : Array (Option Value)) (u : Tok) :
    Meets (Builtin.«tuple.__mul__» ⟨[.ref l, .int 1 u], []⟩) (fun _ R s => s.heap.get? l = some { cls := .type "tuple", dict := dd, data := .seq items n, slots := sl } ∧
      R (.ok (.ret (Value.ref l))) s) :=
  .of_wp fun prog w A R s h => by
    obtain ⟨hp, g, d, tk, os⟩ := s
    obtain ⟨hl, h⟩ := h
    have f1 := AutoSeq1.idx_int
    wp_walk using wpAny_loadPart' hl
    exact ⟨_, rfl, h⟩
def rRep1 (K : PySem.W.Frag) : R2 := fun x y H Q => ∃ l xs, x = .ref l ∧ y = .int 1 ∧ SqT K H l xs ∧ Q (.ref l) H
theorem op_rep1 {X : Cx} : OpR X (binaryOp .Mult) (rRep1 X.K) := by
  intro pins s σ H x y v u Q I rx ry h
  obtain ⟨l, xs, rfl, rfl, hT, q⟩ := h
  cases rx
  obtain ⟨t, rfl⟩ := ry
  obtain ⟨its, r, ⟨⟨cls, dd, data, sl⟩, ho, hc, n, hd⟩, hs⟩ := I.tuple hT
  simp only at hc hd
  subst hc hd
  refine wpAny_binaryOp_repeat_ref (T := "tuple") (U := "int") (by decide) ⟨_, ho, rfl⟩ (fun s' => typeIs_int s' 1 t) noFill_tuple_mul F.fills_int_mul F.slot_int_rmul repeat_tuple F.slot_int_index.lookup
    (call_meets F.slot_int_rmul (typeIs_int s 1 t) F.entry_int_rmul (F.args_int_rmul_2 _ _) (int_rmul_tuple 1 t l its.toArray n dd sl)
      ⟨ho, rfl, ⟨_, ho, rfl⟩, call_meets F.slot_tuple_mul ⟨_, ho, rfl⟩ F.entry_tuple_mul (F.args_tuple_mul_2 _ _) (tuple_mul1 l its.toArray n dd sl t) ⟨ho, ?_⟩⟩)
  exact ⟨.ref l, H, I, rfl, q⟩
theorem op_rep {X : Cx} : OpR X (binaryOp .Mult) (fun x y H Q => rRepT X.K x y H Q ∨ rRep1 X.K x y H Q) := OpR.or op_repT op_rep1
/-! ### plainer readings -/
theorem opr_imp {X : Cx} {f : Value → Value → Sem Value} {r r' : R2} (h : OpR X f r) (w : ∀ x y H Q, r' x y H Q → r x y H Q) : OpR X f r' :=
  fun pins s σ H x y v u Q I rx ry q => h pins s σ H x y v u Q I rx ry (w x y H Q q)
/-- a tuple at r, all else as it was -/
def TupTo (H : Hp) (xs : List V) (Q : VK) : Prop := ∀ (r : Addr) (H' : Hp), Same H H' → H' r = some (.tup xs) → Q (.ref r) H'
theorem TupTo.new {H : Hp} {xs : List V} {Q : VK} (h : TupTo H xs Q) : ∀ p, H p = none → Q (.ref p) (upd H p (.tup xs)) := fun p hp => h p _ (same_newH hp) upd_same
def rCatS : R2 := fun x y H Q => ∃ a b xs ys, x = .ref a ∧ y = .ref b ∧ H a = some (.tup xs) ∧ H b = some (.tup ys) ∧ xs.length + ys.length ≤ 1000 ∧ TupTo H (xs ++ ys) Q
theorem op_catS {X : Cx} : OpR X (binaryOp .Add) rCatS := opr_imp op_catA fun x y H Q h => by
  obtain ⟨a, b, xs, ys, rfl, rfl, ha, hb, hl, q⟩ := h
  refine ⟨a, b, xs, ys, rfl, rfl, SqT.of ha, SqT.of hb, Nat.le_of_lt (small1000 hl), fun e => ?_, fun _ e => ?_, fun _ _ => q.new⟩
  · exact q b H (Same.refl H) (by rw [e, List.nil_append]; exact hb)
  · exact q a H (Same.refl H) (by rw [e, List.append_nil]; exact ha)
def rRepS : R2 := fun x y H Q => ∃ l k xs, x = .ref l ∧ y = .int k ∧ H l = some (.tup xs) ∧ xs ≠ [] ∧ 1 ≤ k ∧ k ≤ 1000 ∧ xs.length ≤ 1000 ∧ TupTo H (List.replicate k.toNat xs).flatten Q
theorem op_repS {X : Cx} : OpR X (binaryOp .Mult) rRepS := opr_imp op_rep fun x y H Q h => by
  obtain ⟨l, k, xs, rfl, rfl, hl, hx, h1, h2, h3, q⟩ := h
  by_cases e : k = 1
  · subst e
    exact .inr ⟨l, xs, rfl, rfl, SqT.of hl, q l H (Same.refl H) (by simpa using hl)⟩
  · exact .inl ⟨l, k, xs, rfl, rfl, SqT.of hl, hx, by omega, h2, h3, q.new⟩
def rSlS : V → Option Int → Option Int → Hp → VK → Prop := fun x lo hi H Q => ∃ a xs, x = .ref a ∧ H a = some (.tup xs) ∧ TupTo H (cutV xs lo hi) Q
theorem cut_whole {xs : List V} {lo hi : Option Int} (h : HT.sIx xs.length 0 lo = 0 ∧ HT.sIx xs.length xs.length hi = xs.length) : cutV xs lo hi = xs := by
  unfold cutV
  rw [h.1, h.2, List.drop_zero, Nat.sub_zero, List.take_length]
theorem sl_tupS {X : Cx} : SlR X rSlS := fun pins s σ H x v vl vu lo hi sl Q I rx e1 e2 e3 q => by
  obtain ⟨a, xs, rfl, ha, t⟩ := q
  exact sl_tupA pins s σ H (.ref a) v vl vu lo hi sl Q I rx e1 e2 e3 ⟨a, xs, rfl, SqT.of ha, fun e => t a H (Same.refl H) (by rw [cut_whole e]; exact ha), fun _ => t.new⟩
theorem cut_drop (xs : List V) (i : Nat) : cutV xs (some (i : Int)) none = xs.drop i := by
  unfold cutV
  rw [HT.sIx_none, HT.sIx_nat]
  rw [List.take_of_length_le (by rw [List.length_drop]; exact Nat.le_refl _)]
  rcases Nat.le_total i xs.length with h | h
  · rw [Nat.min_eq_left h]
  · rw [Nat.min_eq_right h, List.drop_length, List.drop_of_length_le h]
/-! ### methods and makers by name -/
structure CalM (P : Program) (w : World) (K : PySem.W.Frag) (mg : Str → Option Value) (base : Heap) (CX : CXT) (k : Nat) (C : Addr) (m : Str) (f : Addr) (fd : FuncData) (ps : List Str) (sp : Sp) : Prop where
  ok : FnOk P w K mg base CX k f fd ps sp
  mt : Meth K C m f
  b : Binds K fd ps []
structure CalI (P : Program) (w : World) (K : PySem.W.Frag) (mg : Str → Option Value) (base : Heap) (CX : CXT) (k : Nat) (x : Str) (C f : Addr) (fd : FuncData) (ps : List Str) (sp : Sp) : Prop where
  ok : FnOk P w K mg base CX k f fd ps sp
  mkr : Mk K C f
  at_ : mg x = some (.ref C)
  b : Binds K fd ps []
section
variable {X : Cx} {k : Nat} {x : Str} {C f : Addr} {fd : FuncData} {ps : List Str} {sp : Sp} {e : Expr} {es : List Expr} {t : TA} {p pos : Pos}
theorem pe_mkr (c : CalI X.prog X.w X.K X.mg X.base CX0 k x C f fd ps sp) (hr : Room (k + 1) X.A) (ha : PA X (e :: es) t)
    (hg : Gl X x := by rfl) (hdb : (x == ("__debug__" : Str)) = false := by decide) (he : starEach (e :: es) X.env = (false, eval e X.env) :: starEach es X.env := by rfl) (hpl : (backTo pos (starEach es X.env)).any (·.1) = false := by rfl) :
    PE X (.Call (.Name x p) (e :: es) [] pos) (tMake C sp [] E0 t) := pe_make c.mkr c.ok hr hg c.at_ c.b .nil pass0 ha hdb he hpl
theorem op_in_cal (c : CalM X.prog X.w X.K X.mg X.base CX0 k C "__contains__" f fd ps sp) (hr : Room k X.A) : OpR X (compareOp .In) (rInOwn C false sp E0) := op_in_own c.ok c.mt c.b pass0 hr
theorem op_notIn_cal (c : CalM X.prog X.w X.K X.mg X.base CX0 k C "__contains__" f fd ps sp) (hr : Room k X.A) : OpR X (compareOp .NotIn) (rInOwn C true sp E0) := op_notIn_own c.ok c.mt c.b pass0 hr
end
theorem Known.same {H H' : Hp} {v : V} (h : Known H v) (e : Same H H') : Known H' v := by
  obtain ⟨⟨t, ht⟩, hk⟩ := h
  refine ⟨⟨t, kd_same ht e⟩, fun a xs ev ha => ?_⟩
  subst ev
  rcases kdO_or (show kdO (H a) = some t from ht) with q | q <;> subst q
  · obtain ⟨ys, q⟩ := kdO_lst (show kdO (H a) = some .lst from ht)
    rw [e _ _ q] at ha
    cases ha
  · obtain ⟨ys, q⟩ := kdO_tup (show kdO (H a) = some .tup from ht)
    rw [e _ _ q] at ha
    cases ha
    obtain ⟨h1, h2⟩ := hk a _ rfl q
    exact ⟨h1, fun x hx => let ⟨t, ht⟩ := h2 x hx; ⟨t, kd_same ht e⟩⟩
theorem rowB_same {H H' : Hp} {v : V} {m : Int} (h : Known H v) (e : Same H H') : rowB H' v m = rowB H v m := by
  obtain ⟨⟨t, ht⟩, _⟩ := h
  by_cases q : t = .tup
  · subst q
    obtain ⟨a, xs, rfl, ha⟩ := kd_tuple ht
    rw [rowB_tup ha, rowB_tup (e _ _ ha)]
  · rw [rowB_not ht q, rowB_not (kd_same ht e) q]
theorem But.to_same {b : Addr} {H H1 H2 : Hp} (s : Same H H1) (x : But b H1 H2) (hb : H b = none) : Same H H2 := fun a o h => x a o (ne_of_none h hb) (s a o h)
theorem Bag.same {b : Addr} {H H' : Hp} (x : Bag H b) (e : Same H H') : Bag H' b := by
  obtain ⟨x, y, h, h0, h1⟩ := x
  exact ⟨x, y, e _ _ h, h0, h1⟩
theorem kd_flat {H : Hp} {v : V} (h : flatV v = true) : ∃ t, kd H v = some t := (known_flat h).1
theorem known_tupF {H : Hp} {a : Addr} {xs : List V} (h : H a = some (.tup xs)) (hl : xs.length ≤ 1000) (hx : ∀ x ∈ xs, flatV x = true) : Known H (.ref a) := known_tup h hl fun x q => kd_flat (hx x q)
theorem cut_len (xs : List V) (lo hi : Option Int) : (cutV xs lo hi).length ≤ xs.length := by
  unfold cutV
  rw [List.length_take, List.length_drop]
  omega
theorem rep_flat {x : V} (n : Nat) : (List.replicate n [x]).flatten = List.replicate n x := by
  induction n with
  | zero => rfl
  | succ n ih => rw [List.replicate_succ, List.flatten_cons, ih, List.replicate_succ] <;> rfl
theorem rowB_bad {H : Hp} {a : Addr} {xs : List V} {m : Int} (h : H a = some (.tup xs)) (hx : ∃ x ∈ xs, isIntV x = false) : rowB H (.ref a) m = false := by
  rw [rowB_tup h]
  obtain ⟨x, h1, h2⟩ := hx
  have e : xs.all isIntV = false := by
    rw [List.all_eq_false]
    exact ⟨x, h1, by rw [h2]; decide⟩
  rw [e, Bool.and_false]
theorem rowB_len {H : Hp} {a : Addr} {xs : List V} {m : Int} (h : H a = some (.tup xs)) (hx : (xs.length : Int) ≠ m) : rowB H (.ref a) m = false := by
  rw [rowB_tup h, decide_eq_false hx, Bool.false_and]
end Own

namespace K03
open PySem PySem.Spec PyProof.Rows L2 Own
def top (i : Nat) : Stmt := PySem.Challenge.pw_emptyfilters_k03_values_that_are_rows.main.body.getD i (.Pass ⟨0, 0, 0, 0⟩)
abbrev s_is_integer : Stmt := top 3
abbrev s_is_word : Stmt := top 4
abbrev s_copied : Stmt := top 5
abbrev s_BadTableinit : Stmt := inClass (top 8) 0
abbrev s_first_bad : Stmt := top 11
abbrev s_Tableinit : Stmt := inClass (top 12) 0
abbrev s_Tablelen : Stmt := inClass (top 12) 1
abbrev s_Tablecontains : Stmt := inClass (top 12) 2
abbrev s_Tableeq : Stmt := inClass (top 12) 3
abbrev s_Tablerepr : Stmt := inClass (top 12) 4
abbrev s_law_bag : Stmt := top 14
abbrev s_law_take : Stmt := top 15
abbrev s_law_of : Stmt := top 16
abbrev s_law_number : Stmt := top 17
abbrev s_law_value : Stmt := top 18
abbrev s_law_is_row : Stmt := top 19
abbrev s_law : Stmt := top 20
abbrev FnP (K : PySem.W.Frag) (x : Str) (st : Stmt) (f : Addr) (fd : FuncData) : Prop := FunD K x x (defArgs st) (defBody st) (defScope st) [] [] f fd
structure Txt (K : PySem.W.Frag) (mg : Str → Option Value) (aK : Addr) : Prop extends Free mg where
  g_KEPT : mg "KEPT" = some (.ref aK)
  s_KEPT : ∀ H, SqT K H aK (keptL.map V.str)
  g_WORD_LETTERS : ∃ t, mg "WORD_LETTERS" = some (.int 8 t)
  g_MOST_COLUMNS : ∃ t, mg "MOST_COLUMNS" = some (.int 3 t)
section
variable {P : Program} {w : World} {K : PySem.W.Frag} {mg : Str → Option Value} {base : Heap} {f : Addr} {fd : FuncData}
theorem sc_law_take : FnScope ["bag", "many", "digit"] ["bag", "many"] (defScope s_law_take) := ⟨rfl, rfl, rfl, by decide +kernel, rfl, by decide +kernel, by decide +kernel⟩
theorem ok_take (F : FnP K "_law_take" s_law_take f fd) (T : Free mg) : FnOk P w K mg base CX0 1 f fd ["bag", "many"] spTake := by
  refine F.ok sc_law_take (fun vs H Q E h => ?_) (fun cdv A outer s H vs Q E hr h => ⟨_, PSs.nox (pss_cons (ps_if (pt_cmpR op_gt (pe_ix ix_list (pv 0) pe_int (fun _ _ => rfl)) pe_int (nomark _))
 (pss_cons (ps_set (i := 2) sc_law_take.nd rfl (Or.inl rfl) (pe_op op_mod (pe_callTy call_int1 (by rfl) T.int boot_int (pa_cons (pe_ix ix_list (pv 0) pe_int (fun _ _ => rfl)) pa_nil)) (pv 1)))
 (pss_cons (ps_asg (pe_op op_fdiv (pe_ix ix_list (pv 0) pe_int (fun _ _ => rfl)) (pv 1)) (pg_sub (pv 0) pe_int set_list))
 (pss_one (ps_ret (pv 2)))))
 pss_nil)
 (pss_cons (ps_asg (pe_op op_mod (pe_callTy call_int1 (by rfl) T.int boot_int (pa_cons (pe_op op_add (pe_op op_mul (pe_ix ix_list (pv 0) pe_int (fun _ _ => rfl)) pe_int) pe_int) pa_nil)) pe_int) (pg_sub (pv 0) pe_int set_list))
 (pss_one (ps_ret (pe_op op_mod (pe_op op_fdiv (pe_op op_mod (pe_callTy call_int1 (by rfl) T.int boot_int (pa_cons (pe_op op_mul (pe_op op_fdiv (pe_ix ix_list (pv 0) pe_int (fun _ _ => rfl)) pe_int) pe_int) pa_nil)) pe_int) pe_int) (pv 1)))))), ?_⟩)
  · obtain ⟨b, m, rfl, _⟩ := h
    rfl
  · obtain ⟨b, m, rfl, ⟨x, y, hb, hx, hy⟩, hm, hm2, k⟩ := h
    refine ⟨_, rfl, b, _, 0, _, rfl, rfl, SqL.of hb, rfl, _, _, rfl, rfl, _, rfl, ?_⟩
    refine ite2 (fun hgt => ?_) (fun hle => ?_)
    · have hx0 : 0 < x := of_decide_eq_true hgt
      refine ⟨_, rfl, b, _, 0, _, rfl, rfl, SqL.of hb, rfl, .inl ⟨_, rfl, ?_⟩⟩
      refine ⟨_, rfl, _, _, rfl, rfl, hm, ?_⟩
      refine ⟨_, rfl, b, _, 0, _, rfl, rfl, SqL.of hb, rfl, _, rfl, _, _, rfl, rfl, ⟨hm, hm2⟩, ?_⟩
      refine ⟨_, rfl, b, _, 0, 0, rfl, rfl, hb, rfl, ?_⟩
      refine ⟨_, rfl, k _ _ (Int.emod_nonneg _ (by omega)) (Int.emod_lt_of_pos _ hm) (But.put But.refl) ⟨_, _, upd_same, Int.ediv_nonneg hx (by omega), hy⟩⟩
    · refine ⟨_, rfl, b, _, 1, _, rfl, rfl, SqL.of hb, rfl, _, _, rfl, rfl, .inr ⟨by decide, by decide⟩, _, _, rfl, rfl, .inl ⟨_, rfl, _, _, rfl, rfl, (by show (0 : Int) < _; decide), ?_⟩⟩
      refine ⟨_, rfl, b, _, 1, 1, rfl, rfl, hb, rfl, ?_⟩
      refine ⟨_, rfl, b, _, 1, _, rfl, rfl, SqL.of upd_same, rfl, _, _, rfl, rfl, ⟨by decide, by decide⟩, _, _, rfl, rfl, .inr ⟨by decide, by decide⟩, .inl ⟨_, rfl, _, _, rfl, rfl, (by show (0 : Int) < _; decide), ?_⟩⟩
      refine ⟨_, _, rfl, rfl, ⟨by decide, by decide⟩, _, rfl, _, _, rfl, rfl, hm, ?_⟩
      refine k _ _ (Int.emod_nonneg _ (by omega)) (Int.emod_lt_of_pos _ hm) (But.put But.refl) ⟨_, _, upd_same, hx, Int.emod_nonneg _ (by decide)⟩
theorem sc_law_of : FnScope ["bag", "some"] ["bag", "some"] (defScope s_law_of) := ⟨rfl, rfl, rfl, by decide +kernel, rfl, by decide +kernel, by decide +kernel⟩
theorem ok_of {ft : Addr} {fdt : FuncData} (F : FnP K "_law_of" s_law_of f fd) (T : Free mg) (c_law_take : Cal P w K mg base CX0 1 "_law_take" ft fdt ["bag", "many"] spTake) : FnOk P w K mg base CX0 2 f fd ["bag", "some"] (spOf K) := by
  refine F.ok sc_law_of (fun vs H Q E h => ?_) (fun cdv A outer s H vs Q E hr h => ⟨_, PSs.nox (pss_one (ps_ret (pe_ix ix_list (pv 1) (pe_cal c_law_take (hr.mono (by decide)) (pa_cons (pv 0) (pa_cons (pe_callB call_len_seq (by rfl) T.len boot_len (pa_cons (pv 1) pa_nil)) pa_nil))) (fun _ _ => rfl)))), ?_⟩)
  · obtain ⟨b, l, xs, rfl, _⟩ := h
    rfl
  · obtain ⟨b, l, xs, rfl, hb, hne, hl, hx, hlen, k⟩ := h
    have hpos : 0 < xs.length := List.length_pos_iff.mpr hx
    refine ⟨_, rfl, _, rfl, _, rfl, l, _, rfl, .inl hl, b, _, rfl, hb, by omega, by omega, fun d H' h0 h1 hB hb' => ?_⟩
    refine ⟨l, xs, d, xs[d.toNat]'(by omega), rfl, rfl, hB.list hne hl, ?_, ?_⟩
    · exact at_of (j := d.toNat) (by omega) (List.getElem?_eq_getElem _)
    · exact k _ _ (List.getElem_mem _) hB hb'
theorem sc_law_bag : FnScope ["script", "at", "cell", "mixed", "k", "each"] ["script", "at"] (defScope s_law_bag) := ⟨rfl, rfl, rfl, by decide +kernel, rfl, by decide +kernel, by decide +kernel⟩
theorem ok_bag (F : FnP K "_law_bag" s_law_bag f fd) (T : Free mg) : FnOk P w K mg base CX0 1 f fd ["script", "at"] (spBag K) := by
  refine F.ok sc_law_bag (fun vs H Q E h => ?_) (fun cdv A outer s H vs Q E hr h => ⟨_, PSs.nox (pss_cons (ps_set (i := 2) sc_law_bag.nd rfl (Or.inl rfl) (pe_ifExp (pt_cmpR op_lt (pv 1) (pe_callB call_len_seq (by rfl) T.len boot_len (pa_cons (pv 0) pa_nil)) (nomark _)) (pe_ix ix_list (pv 0) (pv 1) (fun _ _ => rfl)) pe_int))
 (pss_cons (ps_set (i := 3) sc_law_bag.nd rfl (Or.inl rfl) (pe_op op_add (pe_op op_mul pe_int (pv 1)) pe_int))
 (pss_cons (ps_for PassesOwn.never rfl (pi_enum (by rfl) T.enumerate (pa_cons (pe_slice sl_list (pv 0) po_none (po_some pe_int)) pa_nil)) (pg_tup rfl (pgs_cons (pg_name (i := 4) sc_law_bag.nd rfl (Or.inl rfl)) (pgs_cons (pg_name (i := 5) sc_law_bag.nd rfl (Or.inl rfl)) pgs_nil)))
 (pss_one (ps_set (i := 3) sc_law_bag.nd rfl (Or.inl rfl) (pe_op op_mod (pe_callTy call_int1 (by rfl) T.int boot_int (pa_cons (pe_op op_add (pe_op op_add (pe_op op_mul (pv 3) pe_int) (pe_op op_mod (pe_callTy call_int1 (by rfl) T.int boot_int (pa_cons (pv 5) pa_nil)) pe_int)) (pe_op op_mul pe_int (pv 4))) pa_nil)) pe_int))))
 (pss_one (ps_ret (pe_lst (pa_cons (pe_ifExp (pt_cmpR op_ge (pe_callB call_abs (by rfl) T.abs boot_abs (pa_cons (pv 2) pa_nil)) (pe_op op_pow pe_int pe_int) (nomark _)) (pe_callB call_abs (by rfl) T.abs boot_abs (pa_cons (pv 2) pa_nil)) pe_int) (pa_cons (pv 3) pa_nil)))))))), ?_⟩)
  · obtain ⟨a, ns, n, rfl, _⟩ := h
    rfl
  · obtain ⟨a, ns, n, rfl, hS, hlen, hn, k⟩ := h
    refine ⟨_, rfl, _, rfl, a, _, rfl, .inl hS, _, _, rfl, rfl, _, rfl, ?_⟩
    refine' pick (α := Int) ?main ?rest
    case main =>
      intro go
      refine ite2 (fun hlt => ?_) (fun _ => ?_)
      have hlt2 : n < ns.length := by
        have q := of_decide_eq_true hlt
        rw [len_ints] at q
        omega
      obtain ⟨u, hu⟩ : ∃ u, ns[n]? = some u := ⟨_, List.getElem?_eq_getElem hlt2⟩
      exact ⟨_, rfl, _, rfl, a, _, _, V.int u, rfl, rfl, hS, at_of rfl (by rw [List.getElem?_map, hu]; rfl), go u⟩
      exact go 0
    case rest =>
      intro c
      refine ⟨_, rfl, _, _, rfl, rfl, .inl ⟨by decide, by decide⟩, _, _, rfl, rfl, ?_⟩
      refine ⟨_, rfl, _, rfl, a, _, rfl, hS, fun p np => ⟨p, _, rfl, SqL.of upd_same, ?_⟩⟩
      refine for_it (walk_enum (xs := cutV (ns.map V.int) none (some 63))) (fun _ σ H' => ∃ (m : Int) (kv ev : Option V), σ = [some (.ref a), some (.int n), some (.int c), some (.int m), kv, ev] ∧ Same (upd H p (.lst (cutV (ns.map V.int) none (some 63)))) H' ∧ 0 ≤ m)
        ⟨2741 * n + 91, none, none, rfl, Same.refl _, by omega⟩ (fun i σ H' _ ⟨m, kv, ev, _, R, _⟩ => SqL.of (R _ _ upd_same)) ?_ ?_
      · rintro i x σ H1 H2 hi ⟨m, kv, ev, rfl, R, hm⟩ ⟨t, k1, x1, rfl, nt, rfl, hk, hx⟩
        cases hk
        obtain ⟨u, rfl⟩ := int_of_mem (mem_cut (List.mem_of_getElem? hx))
        refine ⟨t, _, rfl, .inl (.inl upd_same), rfl, ?_⟩
        refine ⟨_, _, rfl, _, _, rfl, rfl, ?_⟩
        refine ⟨_, rfl, _, _, rfl, rfl, .inr ⟨by decide, by decide⟩, _, rfl, .inl ⟨_, rfl, _, _, rfl, rfl, (by show (0 : Int) < _; decide), _, _, rfl, rfl, _, rfl, _, _, rfl, rfl, .inl ⟨by decide, by decide⟩, _, _, rfl, rfl, .inl ⟨_, rfl, _, _, rfl, rfl, (by show (0 : Int) < _; decide), ?_⟩⟩⟩
        exact ⟨_, _, _, rfl, same_new R nt, Int.emod_nonneg _ (by decide)⟩
      · rintro σ H' ⟨m, kv, ev, rfl, R, hm⟩
        refine ⟨_, rfl, _, rfl, _, _, rfl, rfl, ⟨by decide, by decide, by decide⟩, _, _, rfl, rfl, _, rfl, ?_⟩
        refine' pickP (α := Int) (fun z => 0 ≤ z) ?main2 ?rest2
        case main2 =>
          intro go
          refine ite2 (fun _ => ?_) (fun _ => ?_)
          obtain ⟨u, hu, e⟩ : ∃ u, 0 ≤ u ∧ u = (if c < 0 then -c else c) := ⟨_, abs_nn c, rfl⟩
          refine ⟨_, rfl, _, rfl, ?_⟩
          rw [← e]
          exact go u hu
          exact go 0 (by omega)
        case rest2 =>
          intro x hx
          refine ⟨_, rfl, (by show 2 ≤ sizeLine; decide), fun b nb => ?_⟩
          exact k b _ (same_new ((same_newH np).trans R) nb) ((same_newH np).free (R.free nb)) ⟨_, _, upd_same, hx, hm⟩
theorem sc_is_integer : FnScope ["thing"] ["thing"] (defScope s_is_integer) := ⟨rfl, rfl, rfl, by decide +kernel, rfl, by decide +kernel, by decide +kernel⟩
theorem ok_is_integer (F : FnP K "is_integer" s_is_integer f fd) (T : Free mg) : FnOk P w K mg base CX0 1 f fd ["thing"] spIsInt := by
  refine F.ok sc_is_integer (fun vs H Q E h => ?_) (fun cdv A outer s H vs Q E hr h => ⟨_, PSs.nox (pss_one (ps_ret (pe_and (pe_callB call_isi (by rfl) T.isinstance boot_isinstance (pa_cons (pv 0) (pa_cons (pe_bltn (v := .ty "int") (by rfl) T.int boot_int rfl) pa_nil))) (pe_one (pe_not (pe_callB call_isi (by rfl) T.isinstance boot_isinstance (pa_cons (pv 0) (pa_cons (pe_bltn (v := .ty "bool") (by rfl) T.bool boot_bool rfl) pa_nil)))))))), ?_⟩)
  · obtain ⟨v, t, rfl, _⟩ := h
    rfl
  · obtain ⟨v, t, rfl, ht, k⟩ := h
    refine ⟨_, rfl, _, _, _, _, _, rfl, .ty _, kd_ok ht, kit_int t, _, rfl, ?_⟩
    rw [← int_not_bool ht] at k
    refine ite2 (fun h1 => ?_) (fun h1 => ?_)
    · rw [h1] at k
      exact ⟨_, rfl, _, _, _, _, _, rfl, .ty _, kd_ok ht, kit_bool t, _, rfl, k⟩
    · rw [Bool.not_eq_true] at h1
      rw [h1] at k
      exact k
theorem sc_law_is_row : FnScope ["thing", "many", "part"] ["thing", "many"] (defScope s_law_is_row) := ⟨rfl, rfl, rfl, by decide +kernel, rfl, by decide +kernel, by decide +kernel⟩
theorem ok_is_row (F : FnP K "_law_is_row" s_law_is_row f fd) (T : Free mg) : FnOk P w K mg base CX0 1 f fd ["thing", "many"] spIsRow := by
  refine F.ok sc_law_is_row (fun vs H Q E h => ?_) (fun cdv A outer s H vs Q E hr h => ⟨_, PSs.nox (pss_cons (ps_if (PW.pt (pw_or (pt_not (pt_val (pe_callB call_isi (by rfl) T.isinstance boot_isinstance (pa_cons (pv 0) (pa_cons (pe_bltn (v := .ty "tuple") (by rfl) T.tuple boot_tuple rfl) pa_nil))))) (pw_or1 (pt_cmpR op_ne (pe_callB call_len_seq (by rfl) T.len boot_len (pa_cons (pv 0) pa_nil)) (pv 1) (nomark _)))))
 (pss_one (ps_ret pe_bl))
 pss_nil)
 (pss_one (ps_ret (pe_callB (cr_all rfl) (by rfl) T.all boot_all (pa_cons (pe_lc (own := [("part", 2)]) rfl sc_law_is_row.nd (pi_tup (pv 0)) (blkOk_by (N := ["thing", "many", "part"]) (sc := defScope s_law_is_row) (by decide +kernel)) (fun _ _ _ _ _ => (pg_name (i := 2) sc_law_is_row.nd rfl (Or.inl rfl))) (fun _ _ _ _ _ => pts_nil) (fun _ _ _ _ _ => (pe_and (pe_callB (show CallR _ (.builtin "isinstance") (rIsi K) from call_isi) (by rfl) T.isinstance boot_isinstance (pa_cons (pv 2) (pa_cons (pe_bltn (v := .ty "int") (by rfl) T.int boot_int rfl) pa_nil))) (pe_one (pe_not (pe_callB (show CallR _ (.builtin "isinstance") (rIsi K) from call_isi) (by rfl) T.isinstance boot_isinstance (pa_cons (pv 2) (pa_cons (pe_bltn (v := .ty "bool") (by rfl) T.bool boot_bool rfl) pa_nil)))))))) pa_nil))))), ?_⟩)
  · obtain ⟨v, m, rfl, _⟩ := h
    rfl
  · obtain ⟨v, m, rfl, ⟨⟨t, ht⟩, hk⟩, k⟩ := h
    refine ⟨_, rfl, _, _, _, _, _, rfl, .ty _, kd_ok ht, kit_tuple t, _, rfl, ?_⟩
    by_cases e : t = .tup
    · subst e
      obtain ⟨a, xs, rfl, ha⟩ := kd_tuple ht
      obtain ⟨hlen, hx⟩ := hk a xs rfl ha
      refine iteNS rfl ?_
      refine ⟨_, rfl, a, xs, rfl, .inr (SqT.of ha), _, rfl, rfl, _, rfl, ?_⟩
      by_cases em : (xs.length : Int) = m
      · rw [decide_eq_true (show V.int (xs.length : Int) = V.int m by rw [em])]
        refine iteF ?_
        refine ⟨_, rfl, a, rfl, ⟨xs, SqT.of ha⟩, fun D nD => ?_⟩
        have naD := ne_of_none ha nD
        refine lc_tup (xs := xs) (fun i H' => H' = upd H D (.lst (((xs.take i).map isIntV).map V.bl))) rfl (fun i H' _ e => ?_) (fun i x H' hx1 e => ?_) (fun H' e => ?_)
        · subst e
          exact SqT.of (by rw [upd_ne naD]; exact ha)
        · subst e
          refine ⟨rfl, ?_⟩
          obtain ⟨t2, ht2⟩ := hx x (List.mem_of_getElem? hx1)
          have ht3 : kd (upd H D (.lst (((xs.take i).map isIntV).map V.bl))) x = some t2 := kd_same ht2 (same_newH nD)
          have fin : ∀ b, b = isIntV x → ∃ acc, upd H D (.lst (((xs.take i).map isIntV).map V.bl)) D = some (.lst acc) ∧ acc.length < sizeLine ∧
              upd (upd H D (.lst (((xs.take i).map isIntV).map V.bl))) D (.lst (acc ++ [V.bl b])) = upd H D (.lst (((xs.take (i + 1)).map isIntV).map V.bl)) := by
            intro b eb
            refine ⟨_, upd_same, small1000 (by simp; omega), ?_⟩
            rw [upd_upd, eb, map_take_snoc isIntV hx1, List.map_append] <;> rfl
          refine ⟨_, rfl, _, _, _, _, _, rfl, .ty _, kd_ok ht3, kit_int t2, _, rfl, ?_⟩
          have q := int_not_bool ht3
          refine ite2 (fun h1 => ?_) (fun h1 => ?_)
          · rw [h1] at q
            exact ⟨_, rfl, _, _, _, _, _, rfl, .ty _, kd_ok ht3, kit_bool t2, _, rfl, fin _ q⟩
          · rw [Bool.not_eq_true] at h1
            rw [h1] at q
            exact fin _ q
        · subst e
          refine ⟨D, xs.map isIntV, rfl, SqL.of (by rw [upd_same, List.take_length]), ?_⟩
          have q := k (upd H D (.lst (((xs.take xs.length).map isIntV).map V.bl))) (same_newH nD)
          rw [rowB_tup ha, decide_eq_true em, Bool.true_and] at q
          rw [all_id_map]
          exact q
      · rw [decide_eq_false (show ¬ V.int (xs.length : Int) = V.int m from fun z => em (V.int.inj z))]
        refine iteT ?_
        have q := k H (Same.refl H)
        rw [rowB_tup ha, decide_eq_false em] at q
        exact q
    · rw [decide_eq_false e]
      refine iteT ?_
      have q := k H (Same.refl H)
      rw [rowB_not ht e] at q
      exact q
theorem sc_law_number : FnScope ["bag", "worth", "turn"] ["bag"] (defScope s_law_number) := ⟨rfl, rfl, rfl, by decide +kernel, rfl, by decide +kernel, by decide +kernel⟩
theorem ok_number {ft : Addr} {fdt : FuncData} (F : FnP K "_law_number" s_law_number f fd) (T : Free mg) (c_law_take : Cal P w K mg base CX0 1 "_law_take" ft fdt ["bag", "many"] spTake) : FnOk P w K mg base CX0 2 f fd ["bag"] spNumber := by
  refine F.ok sc_law_number (fun vs H Q E h => ?_) (fun cdv A outer s H vs Q E hr h => ⟨_, PSs.nox (pss_cons (ps_if (pt_cmpR op_eq (pe_cal c_law_take (hr.mono (by decide)) (pa_cons (pv 0) (pa_cons pe_int pa_nil))) pe_int (nomark _))
 (pss_one (ps_ret (pe_op op_sub (pe_cal c_law_take (hr.mono (by decide)) (pa_cons (pv 0) (pa_cons pe_int pa_nil))) pe_int)))
 pss_nil)
 (pss_cons (ps_set (i := 1) sc_law_number.nd rfl (Or.inl rfl) pe_int)
 (pss_cons (ps_for PassesOwn.never rfl (pi_range1 (by rfl) T.range (pa_cons (pe_op op_add pe_int (pe_cal c_law_take (hr.mono (by decide)) (pa_cons (pv 0) (pa_cons pe_int pa_nil)))) pa_nil)) (pg_name (i := 2) sc_law_number.nd rfl (Or.inl rfl))
 (pss_one (ps_set (i := 1) sc_law_number.nd rfl (Or.inl rfl) (pe_op op_add (pe_op op_mul (pv 1) (pe_op op_pow pe_int pe_int)) (pe_cal c_law_take (hr.mono (by decide)) (pa_cons (pv 0) (pa_cons (pe_op op_pow pe_int pe_int) pa_nil)))))))
 (pss_one (ps_ret (pe_ifExp (pt_cmpR op_eq (pe_cal c_law_take (hr.mono (by decide)) (pa_cons (pv 0) (pa_cons pe_int pa_nil))) pe_int (nomark _)) (pv 1) (pe_un un_neg (pv 1)))))))), ?_⟩)
  · obtain ⟨b, rfl, _⟩ := h
    rfl
  · obtain ⟨b, rfl, hb, k⟩ := h
    refine ⟨_, rfl, b, _, rfl, hb, by decide, by decide, fun d H1 h0 h1 B1 hb1 => ?_⟩
    refine ⟨rfl, _, rfl, ite2 (fun _ => ?_) (fun _ => ?_)⟩
    · refine ⟨_, rfl, b, _, rfl, hb1, by decide, by decide, fun d H2 h0 h1 B2 hb2 => ?_⟩
      exact ⟨_, _, rfl, rfl, k _ _ (B1.trans B2) hb2⟩
    · refine ⟨_, rfl, b, _, rfl, hb1, by decide, by decide, fun d H2 h0 h1 B2 hb2 => ?_⟩
      refine ⟨_, _, rfl, rfl, _, rfl, by omega, by omega, ?_⟩
      refine for_range (fun i σ H' => ∃ (n : Int) (tv : Option V), σ = [some (.ref b), some (.int n), tv] ∧ But b H H' ∧ Bag H' b) ⟨0, none, rfl, B1.trans B2, hb2⟩ ?_ ?_
      · rintro i σ H' hi ⟨n, tv, rfl, B, hB⟩
        refine ⟨_, rfl, _, _, rfl, rfl, ⟨by decide, by decide, by decide⟩, _, _, rfl, rfl, .inr ⟨by decide, by decide⟩, ?_⟩
        refine ⟨_, rfl, _, _, rfl, rfl, ⟨by decide, by decide, by decide⟩, b, _, rfl, hB, by decide, by decide, fun d H3 h0 h1 B3 hb3 => ?_⟩
        exact ⟨_, _, rfl, rfl, _, _, rfl, B.trans B3, hb3⟩
      · rintro σ H' ⟨n, tv, rfl, B, hB⟩
        refine ⟨_, rfl, b, _, rfl, hB, by decide, by decide, fun d H3 h0 h1 B3 hb3 => ?_⟩
        refine ⟨rfl, _, rfl, ite2 (fun _ => ?_) (fun _ => ?_)⟩
        · exact ⟨_, rfl, k _ _ (B.trans B3) hb3⟩
        · exact ⟨_, rfl, _, rfl, k _ _ (B.trans B3) hb3⟩
theorem sc_is_word : FnScope ["thing", "letter"] ["thing"] (defScope s_is_word) := ⟨rfl, rfl, rfl, by decide +kernel, rfl, by decide +kernel, by decide +kernel⟩
theorem ok_is_word {aK : Addr} (F : FnP K "is_word" s_is_word f fd) (T : Txt K mg aK) : FnOk P w K mg base CX0 1 f fd ["thing"] spIsWord := by
  refine F.ok sc_is_word (fun vs H Q E h => ?_) (fun cdv A outer s H vs Q E hr h => ⟨_, PSs.nox (pss_cons (ps_if (PW.pt (pw_or (pt_not (pt_val (pe_callB call_isi (by rfl) T.isinstance boot_isinstance (pa_cons (pv 0) (pa_cons (pe_bltn (v := .ty "str") (by rfl) T.str boot_str rfl) pa_nil))))) (pw_or1 (pt_cmpR op_in_seq (pv 0) (pe_glob (v := .ref _) (by rfl) T.g_KEPT rfl) (by rfl)))))
 (pss_one (ps_ret pe_bl))
 pss_nil)
 (pss_one (ps_ret (pe_and (pe_chain op_le op_le pe_int (pe_callB call_len_str (by rfl) T.len boot_len (pa_cons (pv 0) pa_nil)) (pe_gint (by rfl) T.g_WORD_LETTERS)) (pe_one (pe_callB (cr_all rfl) (by rfl) T.all boot_all (pa_cons (pe_lc (own := [("letter", 1)]) rfl sc_is_word.nd (pi_str (pv 0)) (blkOk_by (N := ["thing", "letter"]) (sc := defScope s_is_word) (by decide +kernel)) (fun _ _ _ _ _ => (pg_name (i := 1) sc_is_word.nd rfl (Or.inl rfl))) (fun _ _ _ _ _ => pts_nil) (fun _ _ _ _ _ => (pe_chain op_le_str op_le_str pe_str (pv 1) pe_str))) pa_nil))))))), ?_⟩)
  · obtain ⟨v, t, rfl, _⟩ := h
    rfl
  · obtain ⟨v, t, rfl, ht, hz, k⟩ := h
    refine ⟨_, rfl, _, _, _, _, _, rfl, .ty _, kd_ok ht, kit_str t, _, rfl, ?_⟩
    by_cases e : t = .str
    · subst e
      obtain ⟨z, rfl⟩ := kd_str ht
      have hlen := hz z rfl
      refine iteNS rfl ?_
      refine ⟨_, rfl, aK, keptL.map V.str, rfl, .inr (T.s_KEPT _), rfl, flat_strs _, _, rfl, ?_⟩
      refine ite2 (fun h1 => ?_) (fun h1 => ?_)
      · have h2 : inV (.str z) (keptL.map V.str) = true := h1
        have q : Q (V.bl (wordB z)) H := k H (Same.refl H)
        unfold wordB at q
        rw [h2] at q
        exact q
      · have h2 : inV (.str z) (keptL.map V.str) = false := by
          rw [← Bool.not_eq_true]
          exact h1
        have k0 : ∀ H', Same H H' → Q (V.bl (wordB z)) H' := k
        unfold wordB at k0
        rw [h2] at k0
        have k2 : ∀ H', Same H H' → Q (V.bl ((decide ((1 : Int) ≤ (z.length : Nat)) && decide (((z.length : Nat) : Int) ≤ 8)) && z.cps.toList.all lowB)) H' := k0
        refine ⟨_, rfl, z, rfl, Nat.le_of_lt (small1000 hlen), _, _, rfl, rfl, _, rfl, ?_⟩
        refine ite2 (fun h3 => ?_) (fun h3 => ?_)
        · rw [h3] at k2
          refine ⟨_, _, rfl, rfl, _, rfl, ?_⟩
          refine ite2 (fun h4 => ?_) (fun h4 => ?_)
          · rw [h4] at k2
            refine ⟨_, rfl, z, rfl, fun D nD => ?_⟩
            refine lc_it walk_str (fun i H' => H' = upd H D (.lst (((z.cps.toList.take i).map lowB).map V.bl))) rfl (fun i H' _ e => True.intro) (fun i x H' H2 hi e y => ?_) (fun H' e => ?_)
            · subst e
              obtain ⟨rfl, c, hc, rfl⟩ := y
              have hc2 : z.cps.toList[i]? = some c := by
                rw [Array.getElem?_toList]
                exact hc
              have fin : ∀ b, b = lowB c → ∃ acc, upd H D (.lst (((z.cps.toList.take i).map lowB).map V.bl)) D = some (.lst acc) ∧ acc.length < sizeLine ∧
                  upd (upd H D (.lst (((z.cps.toList.take i).map lowB).map V.bl))) D (.lst (acc ++ [V.bl b])) = upd H D (.lst (((z.cps.toList.take (i + 1)).map lowB).map V.bl)) := by
                intro b eb
                refine ⟨_, upd_same, small1000 ?_, ?_⟩
                · simp
                  have : z.cps.size = z.length := rfl
                  omega
                · rw [upd_upd, eb, map_take_snoc lowB hc2, List.map_append] <;> rfl
              refine ⟨rfl, _, rfl, _, _, rfl, rfl, _, rfl, ?_⟩
              have q1 : (!decide (([c] : List Nat) < [97])) = decide (97 ≤ c) := le_sign c 97
              have q2 : (!decide (([122] : List Nat) < [c])) = decide (c ≤ 122) := le_sign 122 c
              refine ite2 (fun h5 => ?_) (fun h5 => ?_)
              · have h6 : decide (97 ≤ c) = true := q1.symm.trans h5
                refine ⟨_, _, rfl, rfl, fin _ ?_⟩
                unfold lowB
                rw [h6]
                exact q2
              · have h6 : decide (97 ≤ c) = false := by
                  rw [← q1, ← Bool.not_eq_true]
                  exact h5
                refine fin _ ?_
                unfold lowB
                rw [h6]
                rfl
            · subst e
              refine ⟨D, z.cps.toList.map lowB, rfl, SqL.of (by rw [upd_same, List.take_of_length_le (by simp)]), ?_⟩
              rw [all_id_map]
              exact k2 _ (same_newH nD)
          · rw [Bool.not_eq_true] at h4
            rw [h4] at k2
            exact k2 _ (Same.refl H)
        · rw [Bool.not_eq_true] at h3
          rw [h3] at k2
          exact ⟨_, rfl, k2 _ (Same.refl H)⟩
    · rw [decide_eq_false e]
      refine iteT ?_
      have q := k H (Same.refl H)
      rw [wordV_not ht e] at q
      exact q
theorem sc_first_bad : FnScope ["names", "at", "name"] ["names"] (defScope s_first_bad) := ⟨rfl, rfl, rfl, by decide +kernel, rfl, by decide +kernel, by decide +kernel⟩
theorem ok_first_bad {aK fw : Addr} {fdw : FuncData} (F : FnP K "first_bad" s_first_bad f fd) (T : Txt K mg aK) (c_is_word : Cal P w K mg base CX0 1 "is_word" fw fdw ["thing"] spIsWord) : FnOk P w K mg base CX0 2 f fd ["names"] (spFirstBad K) := by
  refine F.ok sc_first_bad (fun vs H Q E h => ?_) (fun cdv A outer s H vs Q E hr h => ⟨_, PSs.nox (pss_cons (ps_if (pt_not (pt_chain op_le op_le pe_int (pe_callB call_len_seq (by rfl) T.len boot_len (pa_cons (pv 0) pa_nil)) (pe_gint (by rfl) T.g_MOST_COLUMNS)))
 (pss_one (ps_ret (pe_un un_neg pe_int)))
 pss_nil)
 (pss_cons (ps_for PassesOwn.never rfl (pi_enum (by rfl) T.enumerate (pa_cons (pv 0) pa_nil)) (pg_tup rfl (pgs_cons (pg_name (i := 1) sc_first_bad.nd rfl (Or.inl rfl)) (pgs_cons (pg_name (i := 2) sc_first_bad.nd rfl (Or.inl rfl)) pgs_nil)))
 (pss_one (ps_if (PW.pt (pw_or (pt_not (pt_val (pe_cal c_is_word (hr.mono (by decide)) (pa_cons (pv 2) pa_nil)))) (pw_or1 (pt_cmpR op_in_seq (pv 2) (pe_slice sl_list (pv 0) po_none (po_some (pv 1))) (by rfl)))))
 (pss_one (ps_ret (pv 1)))
 pss_nil)))
 (pss_one (ps_ret pe_non)))), ?_⟩)
  · obtain ⟨a, xs, rfl, _⟩ := h
    rfl
  · obtain ⟨a, xs, rfl, ha, hlen, hx, k⟩ := h
    have bad : (decide ((1 : Int) ≤ (xs.length : Nat)) && decide (((xs.length : Nat) : Int) ≤ 3)) = false → Q (.int (-1)) H := by
      intro e
      have q := k H (Same.refl H)
      unfold dueV at q
      rw [e] at q
      exact q
    refine ⟨_, rfl, a, xs, rfl, .inl ha, _, _, rfl, rfl, _, rfl, ?_⟩
    refine ite2 (fun h1 => ?_) (fun h1 => ?_)
    rotate_left
    · rw [Bool.not_eq_true] at h1
      refine ⟨_, rfl, iteT ?_⟩
      exact ⟨_, rfl, bad (by rw [h1]; rfl)⟩
    refine ⟨_, _, rfl, rfl, _, rfl, ?_⟩
    refine ite2 (fun h2 => ?_) (fun h2 => ?_)
    · rw [Bool.not_eq_true'] at h2
      exact ⟨_, rfl, bad (by rw [h1, h2]; rfl)⟩
    have h2 : decide (((xs.length : Nat) : Int) ≤ 3) = true := by
      cases q : decide (((xs.length : Nat) : Int) ≤ 3) with
      | true => rfl
      | false => exact absurd (by rw [q]; rfl) h2
    have good : ∀ H', Same H H' → Q (match badFrom [] xs with
        | some i => .int (i : Nat)
        | none => .non) H' := by
      intro H' e
      have q := k H' e
      unfold dueV at q
      rw [h1, h2] at q
      exact q
    refine ⟨_, rfl, a, xs, rfl, ha, ?_⟩
    refine for_it (walk_enum (xs := xs)) (fun i σ H' => ∃ (av nv : Option V), σ = [some (.ref a), av, nv] ∧ Same H H' ∧ badFrom [] xs = badFrom (xs.take i) (xs.drop i) ∧ ∀ x ∈ xs.take i, wordV x = true)
      ⟨none, none, rfl, Same.refl _, by rw [List.take_zero, List.drop_zero], by simp⟩ (fun i σ H' _ ⟨_, _, _, R, _⟩ => R.seq ha) ?_ ?_
    · rintro i x σ H1 H2 hi ⟨av, nv, rfl, R, hb, hw⟩ ⟨t, k1, x1, rfl, nt, rfl, hk, hx1⟩
      cases hk
      have hx1 : xs[i]? = some x1 := hx1
      refine ⟨t, _, rfl, .inl (.inl upd_same), rfl, ?_⟩
      refine ⟨_, _, rfl, _, _, rfl, rfl, ?_⟩
      have R1 := same_new (o := .tup [V.int (i : Nat), x1]) R nt
      obtain ⟨t1, ht1, hz1⟩ := (hx x1 (List.mem_of_getElem? hx1)).same R1
      have hd : xs.drop i = x1 :: xs.drop (i + 1) := by
        obtain ⟨hlt, e⟩ := List.getElem?_eq_some_iff.mp hx1
        rw [← e]
        exact List.drop_eq_getElem_cons hlt
      have hlt : i < xs.length := (List.getElem?_eq_some_iff.mp hx1).1
      have htl : (xs.take i).length = i := by
        rw [List.length_take]
        omega
      have hit : (!(wordV x1) || inV x1 (xs.take i)) = true → badFrom [] xs = some i := by
        intro e
        rw [hb, hd]
        show (if (!(wordV x1) || inV x1 (xs.take i)) = true then some (xs.take i).length else _) = some i
        rw [if_pos e, htl]
      have mis : (!(wordV x1) || inV x1 (xs.take i)) = false → badFrom [] xs = badFrom (xs.take (i + 1)) (xs.drop (i + 1)) := by
        intro e
        rw [hb, hd]
        show (if (!(wordV x1) || inV x1 (xs.take i)) = true then some (xs.take i).length else _) = _
        rw [if_neg (by rw [e]; decide), ← take_snoc hx1]
      refine ⟨_, rfl, x1, t1, rfl, ht1, hz1, fun H3 R3 => ?_⟩
      have RH := R1.trans R3
      refine ⟨_, rfl, ite2 (fun h3 => ?_) (fun h3 => ?_)⟩
      · refine iteT ⟨_, rfl, ?_⟩
        have q := good H3 RH
        rw [hit (by rw [h3]; rfl)] at q
        exact q
      · have hw1 : wordV x1 = true := by
          cases q : wordV x1 with
          | true => rfl
          | false => exact absurd (by rw [q]; rfl) h3
        refine ⟨_, rfl, _, rfl, _, rfl, _, rfl, a, xs, rfl, RH.seq ha, fun p np => ?_⟩
        refine ⟨p, _, rfl, .inl (SqL.of upd_same), word_flat hw1, ?_, _, rfl, ?_⟩
        · rw [cut_take]
          exact List.all_eq_true.mpr fun y hy => word_flat (hw y hy)
        · rw [cut_take]
          refine ite2 (fun h4 => ?_) (fun h4 => ?_)
          · refine ⟨_, rfl, ?_⟩
            have q := good _ (same_new (o := .lst (xs.take i)) RH np)
            rw [hit (by rw [show inV x1 (xs.take i) = true from h4, Bool.or_true])] at q
            exact q
          · have h5 : inV x1 (xs.take i) = false := by
              rw [← Bool.not_eq_true]
              exact h4
            refine ⟨_, _, rfl, same_new RH np, mis (by rw [hw1, h5]; rfl), fun y hy => ?_⟩
            rw [take_snoc hx1] at hy
            rcases List.mem_append.mp hy with hy | hy
            · exact hw y hy
            · rw [List.mem_singleton.mp hy]
              exact hw1
    · rintro σ H' ⟨av, nv, rfl, R, hb, hw⟩
      have q := good H' R
      rw [hb, List.drop_length] at q
      exact q
end
end K03

namespace K03
open PySem PySem.Spec PyProof.Rows L2 Own
abbrev FnM (K : PySem.W.Frag) (x q : Str) (st : Stmt) (f : Addr) (fd : FuncData) : Prop := FunD K x q (defArgs st) (defBody st) (defScope st) [] [] f fd
structure TxC (K : PySem.W.Frag) (C : Addr) : Prop where
  cl : Cls K C
  nC : NoAttr K C "columns"
section
variable {P : Program} {w : World} {K : PySem.W.Frag} {mg : Str → Option Value} {base : Heap} {f C : Addr} {fd : FuncData}
theorem sc_Tableinit : FnScope ["self", "columns", "at"] ["self", "columns"] (defScope s_Tableinit) := ⟨rfl, rfl, rfl, by decide +kernel, rfl, by decide +kernel, by decide +kernel⟩
theorem ok_Tableinit {aK fb : Addr} {fdb : FuncData} (F : FnM K "__init__" "Table.__init__" s_Tableinit f fd) (T : Txt K mg aK) (TC : TxC K C) (c_first_bad : Cal P w K mg base CX0 2 "first_bad" fb fdb ["names"] (spFirstBad K)) : FnOk P w K mg base CX0 3 f fd ["self", "columns"] (spTable K C) := by
  refine F.ok sc_Tableinit (fun vs H Q E h => ?_) (fun cdv A outer s H vs Q E hr h => ⟨_, PSs.nox (pss_cons (ps_set (i := 2) sc_Tableinit.nd rfl (Or.inl rfl) (pe_cal c_first_bad (hr.mono (by decide)) (pa_cons (pv 1) pa_nil)))
 (pss_cons (ps_if (pt_cmpR op_notN (pv 2) pe_non (nomark _))
 (pss_one ps_never)
 pss_nil)
 (pss_one (ps_fld (pv 0) (pe_callTy call_tuple_of (by rfl) T.tuple boot_tuple (pa_cons (pv 1) pa_nil)) rfl)))), ?_⟩)
  · obtain ⟨p, a, dx, xs, rfl, _⟩ := h
    rfl
  · obtain ⟨p, a, dx, xs, rfl, hp, ha, hlen, hx, hd, k⟩ := h
    refine ⟨_, rfl, a, xs, rfl, ha, hlen, hx, fun H1 R1 => ?_⟩
    rw [hd]
    refine ⟨_, rfl, rfl, _, rfl, iteNS rfl ?_⟩
    refine ⟨_, rfl, a, xs, rfl, .inl ⟨R1.seq ha, fun t nt => ?_⟩⟩
    have hp1 := R1 _ _ hp
    have npt := ne_of_none hp1 nt
    refine ⟨_, rfl, p, C, dx, [], rfl, (by rw [upd_ne npt]; exact hp1), TC.cl, TC.nC, (by show 0 < 1000; decide), ?_⟩
    refine k _ (fun q o n e => ?_) ⟨dx, t, upd_same, by rw [upd_ne npt.symm, upd_same]⟩
    rw [upd_ne n, upd_ne (ne_of_none (R1 _ _ e) nt)]
    exact R1 _ _ e
theorem sc_Tablecontains : FnScope ["self", "thing", "part"] ["self", "thing"] (defScope s_Tablecontains) := ⟨rfl, rfl, rfl, by decide +kernel, rfl, by decide +kernel, by decide +kernel⟩
theorem ok_Tablecontains {aK fi : Addr} {fdi : FuncData} (F : FnM K "__contains__" "Table.__contains__" s_Tablecontains f fd) (T : Txt K mg aK) (TC : TxC K C) (c_is_integer : Cal P w K mg base CX0 1 "is_integer" fi fdi ["thing"] spIsInt) : FnOk P w K mg base CX0 2 f fd ["self", "thing"] (spContains C) := by
  refine F.ok sc_Tablecontains (fun vs H Q E h => ?_) (fun cdv A outer s H vs Q E hr h => ⟨_, PSs.nox (pss_cons (ps_if (PW.pt (pw_or (pt_not (pt_val (pe_callB call_isi (by rfl) T.isinstance boot_isinstance (pa_cons (pv 1) (pa_cons (pe_bltn (v := .ty "tuple") (by rfl) T.tuple boot_tuple rfl) pa_nil))))) (pw_or1 (pt_cmpR op_ne (pe_callB call_len_seq (by rfl) T.len boot_len (pa_cons (pv 1) pa_nil)) (pe_callB call_len_seq (by rfl) T.len boot_len (pa_cons (pe_fld (pv 0) rfl) pa_nil)) (nomark _)))))
 (pss_one (ps_ret pe_bl))
 pss_nil)
 (pss_one (ps_ret (pe_callB (cr_all rfl) (by rfl) T.all boot_all (pa_cons (pe_lc (own := [("part", 2)]) rfl sc_Tablecontains.nd (pi_tup (pv 1)) (blkOk_by (N := ["self", "thing", "part"]) (sc := defScope s_Tablecontains) (by decide +kernel)) (fun _ _ _ _ _ => (pg_name (i := 2) sc_Tablecontains.nd rfl (Or.inl rfl))) (fun _ _ _ _ _ => pts_nil) (fun _ _ _ _ _ => (pe_cal c_is_integer (hr.mono (by decide)) (pa_cons (pv 2) pa_nil)))) pa_nil))))), ?_⟩)
  · obtain ⟨p, v, xs, rfl, _⟩ := h
    rfl
  · obtain ⟨p, v, cs, rfl, ⟨dx, ct, hp, hct⟩, hcl, ⟨⟨t, ht⟩, hk⟩, k⟩ := h
    refine ⟨_, rfl, _, _, _, _, _, rfl, .ty _, kd_ok ht, kit_tuple t, _, rfl, ?_⟩
    by_cases e : t = .tup
    · subst e
      obtain ⟨a, xs, rfl, ha⟩ := kd_tuple ht
      obtain ⟨hlen, hx⟩ := hk a xs rfl ha
      refine iteNS rfl ?_
      refine ⟨_, rfl, a, xs, rfl, .inr (SqT.of ha), _, rfl, p, C, dx, _, _, rfl, hp, TC.cl, TC.nC, rfl, ct, cs, rfl, .inr (SqT.of hct), rfl, _, rfl, ?_⟩
      by_cases em : (xs.length : Int) = (cs.length : Nat)
      · rw [decide_eq_true (show V.int (xs.length : Int) = V.int (cs.length : Int) by rw [em])]
        refine iteF ?_
        refine ⟨_, rfl, a, rfl, ⟨xs, SqT.of ha⟩, fun D nD => ?_⟩
        have naD := ne_of_none ha nD
        refine lc_tup (xs := xs) (fun i H' => H' = upd H D (.lst (((xs.take i).map isIntV).map V.bl))) rfl (fun i H' _ e => ?_) (fun i x H' hx1 e => ?_) (fun H' e => ?_)
        · subst e
          exact SqT.of (by rw [upd_ne naD]; exact ha)
        · subst e
          refine ⟨rfl, ?_⟩
          obtain ⟨t2, ht2⟩ := hx x (List.mem_of_getElem? hx1)
          have ht3 : kd (upd H D (.lst (((xs.take i).map isIntV).map V.bl))) x = some t2 := kd_same ht2 (same_newH nD)
          refine ⟨_, rfl, x, t2, rfl, ht3, _, upd_same, small1000 (by simp; omega), ?_⟩
          rw [upd_upd, map_take_snoc isIntV hx1, List.map_append] <;> rfl
        · subst e
          refine ⟨D, xs.map isIntV, rfl, SqL.of (by rw [upd_same, List.take_length]), ?_⟩
          have q := k (upd H D (.lst (((xs.take xs.length).map isIntV).map V.bl))) (same_newH nD)
          rw [rowB_tup ha, decide_eq_true em, Bool.true_and] at q
          rw [all_id_map]
          exact q
      · rw [decide_eq_false (show ¬ V.int (xs.length : Int) = V.int (cs.length : Int) from fun z => em (V.int.inj z))]
        refine iteT ?_
        have q := k H (Same.refl H)
        rw [rowB_tup ha, decide_eq_false em] at q
        exact q
    · rw [decide_eq_false e]
      refine iteT ?_
      have q := k H (Same.refl H)
      rw [rowB_not ht e] at q
      exact q
end
end K03

namespace K03
open PySem PySem.Spec PyProof.Rows L2 Own
section
variable {P : Program} {w : World} {K : PySem.W.Frag} {mg : Str → Option Value} {base : Heap} {f C : Addr} {fd : FuncData}
theorem sc_law_value : FnScope ["bag", "many", "size", "parts", "turn", "way", "some"] ["bag", "many"] (defScope s_law_value) := ⟨rfl, rfl, rfl, by decide +kernel, rfl, by decide +kernel, by decide +kernel⟩
theorem ok_value {ft fo fn : Addr} {fdt fdo fdn : FuncData} (F : FnP K "_law_value" s_law_value f fd) (T : Free mg) (c_law_take : Cal P w K mg base CX0 1 "_law_take" ft fdt ["bag", "many"] spTake)
    (c_law_of : Cal P w K mg base CX0 2 "_law_of" fo fdo ["bag", "some"] (spOf K)) (c_law_number : Cal P w K mg base CX0 2 "_law_number" fn fdn ["bag"] spNumber) : FnOk P w K mg base CX0 3 f fd ["bag", "many"] spValue := by
  refine F.ok sc_law_value (fun vs H Q E h => ?_) (fun cdv A outer s H vs Q E hr h => ?_)
  · obtain ⟨b, m, rfl, _⟩ := h
    rfl
  · obtain ⟨b, m, rfl, hb, hm0, hm3, k⟩ := h
    refine ⟨_, PSs.nox (pss_cons (ps_set (i := 2) sc_law_value.nd rfl (Or.inl rfl) (pe_ifExp (pt_cmpR op_gt (pe_cal c_law_take (hr.mono (by decide)) (pa_cons (pv 0) (pa_cons pe_int pa_nil))) pe_int (nomark _)) (pv 1) (pe_cal c_law_take (hr.mono (by decide)) (pa_cons (pv 0) (pa_cons pe_int pa_nil)))))
 (pss_cut (t' := fun D σ H' => ∃ (z : Int), σ = [some (.ref b), some (.int m), some (.int z), none, none, none, none] ∧ 0 ≤ z ∧ z ≤ 4 ∧ But b H H' ∧ Bag H' b ∧ ∀ (v : V) (H2 : Hp), Known H2 v → But b H H2 → Bag H2 b → D.rt v H2) (pss_cons (ps_set (i := 3) sc_law_value.nd rfl (Or.inl rfl) (pe_lst pa_nil))
 (pss_cons (ps_for PassesOwn.never rfl (pi_range1 (by rfl) T.range (pa_cons (pv 2) pa_nil)) (pg_name (i := 4) sc_law_value.nd rfl (Or.inl rfl))
 (pss_one (ps_expr (pe_bm PySem.F.plainAttrs_list PySem.F.slot_list_append PySem.F.type_list_append mt_append (pv 3) (pa_cons (pe_cal c_law_number (hr.mono (by decide)) (pa_cons (pv 0) pa_nil)) pa_nil)))))
 (pss_cons (ps_set (i := 5) sc_law_value.nd rfl (Or.inl rfl) (pe_cal c_law_take (hr.mono (by decide)) (pa_cons (pv 0) (pa_cons pe_int pa_nil))))
 (pss_cons (ps_if (PW.pt (pw_and (pt_cmpR op_eq (pv 5) pe_int (nomark _)) (pw_and1 (pt_cmpR (op_neD (hu_of' hr)) (pv 3) (pe_lst pa_nil) (nomark _)))))
 (pss_cons (ps_set (i := 6) sc_law_value.nd rfl (Or.inl rfl) (pe_lst (pa_cons pe_bl (pa_cons pe_bl (pa_cons pe_non (pa_cons pe_str (pa_cons (pe_tup (pa_cons pe_int pa_nil)) (pa_cons (pe_lst (pa_cons pe_int pa_nil)) (pa_cons pe_str (pa_cons (pe_tup pa_nil) pa_nil))))))))))
 (pss_one (ps_asg (pe_cal c_law_of (hr.mono (by decide)) (pa_cons (pv 0) (pa_cons (pv 6) pa_nil))) (pg_sub (pv 3) (pe_cal c_law_take (hr.mono (by decide)) (pa_cons (pv 0) (pa_cons (pe_callB call_len_seq (by rfl) T.len boot_len (pa_cons (pv 3) pa_nil)) pa_nil))) set_list))))
 pss_nil)
 (pss_cut (t' := fun D σ H' => ∃ (z way : Int) (tv so : Option V) (l : Addr) (ps : List V), σ = [some (.ref b), some (.int m), some (.int z), some (.ref l), tv, some (.int way), so] ∧ But b H H' ∧ Bag H' b ∧ l ≠ b ∧ H' l = some (.lst ps) ∧ ps.length ≤ 4 ∧ (∀ x ∈ ps, (∃ t, kd H' x = some t) ∧ x ≠ .ref b) ∧ ∀ (v : V) (H2 : Hp), Known H2 v → But b H H2 → Bag H2 b → D.rt v H2) (pss_cons (ps_if (pt_cmpR op_eq (pv 5) pe_int (nomark _))
 (pss_one (ps_ret (pe_cal c_law_of (hr.mono (by decide)) (pa_cons (pv 0) (pa_cons (pe_lst (pa_cons pe_non (pa_cons pe_bl (pa_cons pe_int (pa_cons pe_str (pa_cons (pe_callTy call_list_of (by rfl) T.list boot_list (pa_cons (pv 3) pa_nil)) (pa_cons (pe_tup (pa_cons (pe_callTy call_tuple_of (by rfl) T.tuple boot_tuple (pa_cons (pv 3) pa_nil)) pa_nil)) (pa_cons (pe_lst (pa_cons (pe_callTy call_tuple_of (by rfl) T.tuple boot_tuple (pa_cons (pv 3) pa_nil)) pa_nil)) pa_nil)))))))) pa_nil)))))
 pss_nil)
 (pss_one (ps_ret (pe_callTy call_tuple_of (by rfl) T.tuple boot_tuple (pa_cons (pv 3) pa_nil))))) ?c2))))) ?c1)), ?_⟩
    case c1 =>
      rintro D σ H1 ⟨z, rfl, hz0, hz4, B1, hb1, k1⟩
      refine ⟨Nat.zero_le _, fun l nl => ?_⟩
      have nlb : l ≠ b := (hb1.ne nl).symm
      refine ⟨_, rfl, _, rfl, by omega, by omega, ?_⟩
      refine for_range (fun i σ H' => ∃ (ns : List Int) (tv : Option V), σ = [some (.ref b), some (.int m), some (.int z), some (.ref l), tv, none, none] ∧ But b H H' ∧ Bag H' b ∧ H' l = some (.lst (ns.map V.int)) ∧ ns.length = i)
        ⟨[], none, rfl, B1.new nl, hb1.new nl, upd_same, rfl⟩ ?_ ?_
      · rintro i σ H' hi ⟨ns, tv, rfl, B, hB, hl, hn⟩
        refine ⟨_, rfl, .inl ⟨rfl, _, SqL.of hl⟩, _, rfl, b, rfl, hB, fun n H2 B2 hB2 => ?_⟩
        have hl2 := B2 _ _ nlb hl
        refine ⟨l, _, _, rfl, rfl, hl2, small1000 (by rw [len_ints]; omega), ?_⟩
        have hHl : H l = none := B1.free nlb nl
        exact ⟨ns ++ [n], _, rfl, (B.trans B2).putb hHl, hB2.put nlb.symm, by rw [upd_same, List.map_append]; rfl, by rw [List.length_append, hn]; rfl⟩
      · rintro σ H' ⟨ns, tv, rfl, B, hB, hl, hn⟩
        have hHl : H l = none := B1.free nlb nl
        have hn4 : ns.length ≤ 4 := by omega
        refine ⟨_, rfl, b, _, rfl, hB, by decide, by decide, fun way H2 w0 w1 B2 hB2 => ?_⟩
        have hl2 := B2 _ _ nlb hl
        have B02 := B.trans B2
        have hints : ∀ x ∈ ns.map V.int, (∃ t, kd H2 x = some t) ∧ x ≠ .ref b := by
          intro x hx
          obtain ⟨u, rfl⟩ := int_of_mem hx
          exact ⟨⟨_, rfl⟩, nofun⟩
        refine ⟨_, rfl, rfl, _, rfl, ?_⟩
        refine ite2 (fun hw => ?_) (fun hw => ?_)
        rotate_left
        · exact ⟨z, way, tv, none, l, _, rfl, B02, hB2, nlb, hl2, by rw [len_ints]; exact hn4, hints, k1⟩
        refine ⟨_, rfl, Nat.zero_le _, fun e ne => ?_⟩
        have nle := ne_of_none hl2 ne
        refine ⟨.list (ns.map PyData.int), .list [], .lst (SqL.of (by rw [upd_ne nle]; exact hl2)) (dp_ints ns), .lst (SqL.of upd_same) .nil, shaped_ints ns, shaped_nil, _, rfl, ?_⟩
        rw [eqv_ints_nil]
        have B3 := B02.new (o := .lst []) ne
        have hB3 : Bag (upd H2 e (.lst [])) b := hB2.new ne
        have hl3 : upd H2 e (.lst []) l = some (.lst (ns.map V.int)) := by
          rw [upd_ne nle]
          exact hl2
        refine ite2 (fun hne => ?_) (fun hne => ?_)
        rotate_left
        · refine ⟨z, way, tv, none, l, _, rfl, B3, hB3, nlb, hl3, by rw [len_ints]; exact hn4, fun x hx => ?_, k1⟩
          obtain ⟨⟨t, ht⟩, hxb⟩ := hints x hx
          exact ⟨⟨t, kd_new ht ne⟩, hxb⟩
        have hne2 : ns ≠ [] := by
          intro q
          rw [decide_eq_true q] at hne
          cases hne
        refine ⟨(by show 1 ≤ sizeLine; decide), fun p1 n1 => ?_⟩
        refine ⟨(by show 1 ≤ sizeLine; decide), fun p2 n2 => ?_⟩
        refine ⟨(by show 0 ≤ sizeLine; decide), fun p3 n3 => ?_⟩
        refine ⟨(by show 8 ≤ sizeLine; decide), fun p4 n4 => ?_⟩
        have nb1 := (hB3.ne n1).symm
        have hB4 := hB3.new (o := .tup [V.int 1]) n1
        have nb2 := (hB4.ne n2).symm
        have hB5 := hB4.new (o := .lst [V.int 1]) n2
        have hB6 := hB5.new (o := .tup []) n3
        have nb3 := (hB5.ne n3).symm
        have nb4 := (hB6.ne n4).symm
        have hB7 := hB6.new (o := .lst [V.bl true, V.bl false, V.non, V.str "1", V.ref p1, V.ref p2, V.str "", V.ref p3]) n4
        have B7 := (((B3.new (o := .tup [V.int 1]) n1).new (o := .lst [V.int 1]) n2).new (o := .tup []) n3).new (o := .lst [V.bl true, V.bl false, V.non, V.str "1", V.ref p1, V.ref p2, V.str "", V.ref p3]) n4
        have S4 := same_newH (o := .lst [V.bl true, V.bl false, V.non, V.str "1", V.ref p1, V.ref p2, V.str "", V.ref p3]) n4
        have S3 := (same_newH (o := .tup []) n3).trans S4
        have S2 := (same_newH (o := .lst [V.int 1]) n2).trans S3
        have S1 := (same_newH (o := .tup [V.int 1]) n1).trans S2
        have hl7 := S1 _ _ hl3
        have k1' := kd_tup (S2 _ _ upd_same)
        have k2' := kd_lst (S3 _ _ upd_same)
        have k3' := kd_tup (S4 _ _ upd_same)
        have nl1 := ne_of_none hl3 n1
        have nl2 := ne_of_none ((same_newH (o := .tup [V.int 1]) n1) _ _ hl3) n2
        have nl3 := ne_of_none (((same_newH (o := .tup [V.int 1]) n1).trans (same_newH (o := .lst [V.int 1]) n2)) _ _ hl3) n3
        refine ⟨_, rfl, _, rfl, b, p4, _, rfl, hB7, nb4, SqL.of upd_same, List.cons_ne_nil _ _, (by show 8 < 1000000; decide), fun v H8 hv B8 hB8 => ?_⟩
        have hv2 : (∃ t, kd H8 v = some t) ∧ v ≠ .ref b ∧ v ≠ .ref l := by
          simp only [List.mem_cons, List.not_mem_nil, or_false] at hv
          rcases hv with rfl | rfl | rfl | rfl | rfl | rfl | rfl | rfl
          · exact ⟨⟨_, rfl⟩, nofun, nofun⟩
          · exact ⟨⟨_, rfl⟩, nofun, nofun⟩
          · exact ⟨⟨_, rfl⟩, nofun, nofun⟩
          · exact ⟨⟨_, rfl⟩, nofun, nofun⟩
          · exact ⟨⟨_, kd_but k1' B8 (fun q => nb1 (V.ref.inj q))⟩, (fun q => nb1 (V.ref.inj q)), (fun q => nl1 (V.ref.inj q).symm)⟩
          · exact ⟨⟨_, kd_but k2' B8 (fun q => nb2 (V.ref.inj q))⟩, (fun q => nb2 (V.ref.inj q)), (fun q => nl2 (V.ref.inj q).symm)⟩
          · exact ⟨⟨_, rfl⟩, nofun, nofun⟩
          · exact ⟨⟨_, kd_but k3' B8 (fun q => nb3 (V.ref.inj q))⟩, (fun q => nb3 (V.ref.inj q)), (fun q => nl3 (V.ref.inj q).symm)⟩
        have hl8 := B8 _ _ nlb hl7
        have hpos : 0 < ns.length := List.length_pos_iff.mpr hne2
        refine ⟨_, rfl, _, rfl, _, rfl, l, _, rfl, .inl (SqL.of hl8), b, _, rfl, hB8, by rw [len_ints]; omega, by rw [len_ints]; omega, fun d H9 d0 d1 B9 hB9 => ?_⟩
        have hl9 := B9 _ _ nlb hl8
        refine ⟨l, _, d, d.toNat, rfl, rfl, hl9, ixN_of d0 d1, ?_⟩
        refine ⟨z, way, tv, _, l, _, rfl, ((B7.trans B8).trans B9).putb hHl, hB9.put nlb.symm, nlb, upd_same, by rw [List.length_set, len_ints]; exact hn4, fun x hx => ?_, k1⟩
        obtain ⟨⟨t, ht⟩, vb, vl⟩ := hv2
        rcases List.mem_or_eq_of_mem_set hx with hx | rfl
        · obtain ⟨u, rfl⟩ := int_of_mem hx
          exact ⟨⟨_, rfl⟩, nofun⟩
        · exact ⟨⟨t, kd_put (kd_but ht B9 vb) vl⟩, vb⟩
    case c2 =>
      rintro D σ H1 ⟨z, way, tv, so, l, ps, rfl, B1, hB1, nlb, hl, hlen, hps, k1⟩
      refine ⟨_, rfl, rfl, _, rfl, ?_⟩
      refine ite2 (fun hw => ?_) (fun hw => ?_)
      · refine ⟨_, rfl, _, rfl, l, _, rfl, .inl (SqL.of hl), fun q1 n1 => ?_⟩
        have S1 := same_newH (o := .lst ps) n1
        have hB2 := hB1.new (o := .lst ps) n1
        have nb1 := (hB1.ne n1).symm
        refine ⟨_, rfl, l, _, rfl, .inl ⟨SqL.of (S1 _ _ hl), fun q2 n2 => ?_⟩⟩
        have S2 := same_newH (o := .tup ps) n2
        have hB3 := hB2.new (o := .tup ps) n2
        have nb2 := (hB2.ne n2).symm
        refine ⟨(by show 1 ≤ sizeLine; decide), fun q3 n3 => ?_⟩
        have S3 := same_newH (o := .tup [V.ref q2]) n3
        have hB4 := hB3.new (o := .tup [V.ref q2]) n3
        have nb3 := (hB3.ne n3).symm
        refine ⟨_, rfl, l, _, rfl, .inl ⟨SqL.of (S3 _ _ (S2 _ _ (S1 _ _ hl))), fun q4 n4 => ?_⟩⟩
        have S4 := same_newH (o := .tup ps) n4
        have hB5 := hB4.new (o := .tup ps) n4
        refine ⟨(by show 1 ≤ sizeLine; decide), fun q5 n5 => ?_⟩
        have S5 := same_newH (o := .lst [V.ref q4]) n5
        have hB6 := hB5.new (o := .lst [V.ref q4]) n5
        have nb5 := (hB5.ne n5).symm
        refine ⟨(by show 7 ≤ sizeLine; decide), fun q6 n6 => ?_⟩
        have S6 := same_newH (o := .lst [V.non, V.bl true, V.int 1, V.str "row", V.ref q1, V.ref q3, V.ref q5]) n6
        have hB7 := hB6.new (o := .lst [V.non, V.bl true, V.int 1, V.str "row", V.ref q1, V.ref q3, V.ref q5]) n6
        have nb6 := (hB6.ne n6).symm
        have B7 := B1.trans (But.same (b := b) (S1.trans (S2.trans (S3.trans (S4.trans (S5.trans S6))))))
        refine ⟨b, q6, _, rfl, hB7, nb6, SqL.of upd_same, List.cons_ne_nil _ _, (by show 7 < 1000000; decide), fun v H8 hv B8 hB8 => ?_⟩
        have h1 := B8 _ _ nb1 ((S2.trans (S3.trans (S4.trans (S5.trans S6)))) _ _ upd_same)
        have h2 := B8 _ _ nb2 ((S3.trans (S4.trans (S5.trans S6))) _ _ upd_same)
        have h3 := B8 _ _ nb3 ((S4.trans (S5.trans S6)) _ _ upd_same)
        have h5 := B8 _ _ nb5 (S6 _ _ upd_same)
        refine k1 v H8 ?_ (B7.trans B8) hB8
        simp only [List.mem_cons, List.not_mem_nil, or_false] at hv
        rcases hv with rfl | rfl | rfl | rfl | rfl | rfl | rfl
        · exact known_flat rfl
        · exact known_flat rfl
        · exact known_flat rfl
        · exact known_flat rfl
        · exact known_lst h1
        · exact known_tup h3 (by show 1 ≤ 1000; decide) fun x hx => by
            rw [List.mem_singleton.mp hx]
            exact ⟨_, kd_tup h2⟩
        · exact known_lst h5
      · refine ⟨_, rfl, l, ps, rfl, .inl ⟨SqL.of hl, fun p np => ?_⟩⟩
        exact k1 _ _ (known_tup upd_same (by omega) fun x hx => let ⟨⟨t, ht⟩, _⟩ := hps x hx; ⟨t, kd_new ht np⟩) (B1.new np) (hB1.new np)
    · refine ⟨_, rfl, b, _, rfl, hb, by decide, by decide, fun d H1 h0 h1 B1 hb1 => ?_⟩
      refine ⟨_, _, rfl, rfl, _, rfl, ite2 (fun _ => ?_) (fun _ => ?_)⟩
      · exact ⟨_, rfl, m, rfl, hm0, by omega, B1, hb1, k⟩
      · refine ⟨_, rfl, b, _, rfl, hb1, by decide, by decide, fun d2 H2 h2 h3 B2 hb2 => ?_⟩
        exact ⟨d2, rfl, h2, by omega, B1.trans B2, hb2, k⟩
end
end K03

namespace K03
open PySem PySem.Spec PyProof.Rows L2 Own
def cols : List V := [.str "id", .str "owner", .str "size"]
def spLaw (K : PySem.W.Frag) : Sp := fun vs H Q _ => ∃ (a : Addr) (ns : List Int), vs = [.ref a] ∧ SqL K H a (ns.map V.int) ∧ ns.length ≤ 63 ∧ ∀ H', Q (.bl true) H'
section
variable {P : Program} {w : World} {K : PySem.W.Frag} {mg : Str → Option Value} {base : Heap} {f C : Addr} {fd : FuncData}
theorem sc_law : FnScope ["script", "at", "bag", "many", "table", "turn", "thing", "ones", "spoilt"] ["script"] (defScope s_law) := ⟨rfl, rfl, rfl, by decide +kernel, rfl, by decide +kernel, by decide +kernel⟩
theorem ok_law {fb ft fv fr fi fc : Addr} {fdb fdt fdv fdr fdi fdc : FuncData} (F : FnP K "law" s_law f fd) (T : Free mg) (TC : TxC K C) (c_law_bag : Cal P w K mg base CX0 1 "_law_bag" fb fdb ["script", "at"] (spBag K))
    (c_law_take : Cal P w K mg base CX0 1 "_law_take" ft fdt ["bag", "many"] spTake) (c_law_value : Cal P w K mg base CX0 3 "_law_value" fv fdv ["bag", "many"] spValue) (c_law_is_row : Cal P w K mg base CX0 1 "_law_is_row" fr fdr ["thing", "many"] spIsRow)
    (c_Table : CalI P w K mg base CX0 3 "Table" C fi fdi ["self", "columns"] (spTable K C)) (c_Tablecontains : CalM P w K mg base CX0 2 C "__contains__" fc fdc ["self", "thing"] (spContains C)) : FnOk P w K mg base CX0 5 f fd ["script"] (spLaw K) := by
  refine F.ok sc_law (fun vs H Q E h => ?_) (fun cdv A outer s H vs Q E hr h => ?_)
  · obtain ⟨a, ns, rfl, _⟩ := h
    rfl
  · obtain ⟨a, ns, rfl, hS, hlen, k⟩ := h
    refine ⟨_, PSs.nox (pss_cons (ps_for PassesOwn.never rfl (pi_range1 (by rfl) T.range (pa_cons (pe_callB (call_max2 rfl) (by rfl) T.max boot_max (pa_cons pe_int (pa_cons (pe_callB (call_min2 rfl) (by rfl) T.min boot_min (pa_cons pe_int (pa_cons (pe_callB call_len_seq (by rfl) T.len boot_len (pa_cons (pv 0) pa_nil)) pa_nil))) pa_nil))) pa_nil)) (pg_name (i := 1) sc_law.nd rfl (Or.inl rfl))
 (pss_cons (ps_set (i := 2) sc_law.nd rfl (Or.inl rfl) (pe_cal c_law_bag (hr.mono (by decide)) (pa_cons (pv 0) (pa_cons (pv 1) pa_nil))))
 (pss_cons (ps_set (i := 3) sc_law.nd rfl (Or.inl rfl) (pe_op op_add pe_int (pe_cal c_law_take (hr.mono (by decide)) (pa_cons (pv 2) (pa_cons pe_int pa_nil)))))
 (pss_cons (ps_set (i := 4) sc_law.nd rfl (Or.inl rfl) (pe_mkr c_Table (hr.mono (by decide)) (pa_cons (pe_slice sl_list (pe_lst (pa_cons pe_str (pa_cons pe_str (pa_cons pe_str pa_nil)))) po_none (po_some (pv 3))) pa_nil)))
 (pss_cut (t' := fun D σ H' => ∃ (z m : Int) (b p : Addr) (s5 s6 s7 s8 : Option V), σ = [some (.ref a), some (.int z), some (.ref b), some (.int m), some (.ref p), s5, s6, s7, s8] ∧ Same H H' ∧ H b = none ∧ Bag H' b ∧ 1 ≤ m ∧ m ≤ 3 ∧ TabAt H' C p (cols.take m.toNat) ∧ ∀ σ' H2, (∃ t1 t2 t3 t4 t5 t6 t7 t8, σ' = [some (.ref a), t1, t2, t3, t4, t5, t6, t7, t8]) → Same H H2 → D.nx σ' H2) (pss_cons (ps_for PassesOwn.never rfl (pi_range1 (by rfl) T.range (pa_cons pe_int pa_nil)) (pg_name (i := 5) sc_law.nd rfl (Or.inl rfl))
 (pss_cons (ps_set (i := 6) sc_law.nd rfl (Or.inl rfl) (pe_cal c_law_value (hr.mono (by decide)) (pa_cons (pv 2) (pa_cons (pv 3) pa_nil))))
 (pss_one (ps_if (pt_cmpR op_ne (pe_cmpR (op_in_cal c_Tablecontains (hr.mono (by decide))) (pv 6) (pv 4) (by rfl)) (pe_cal c_law_is_row (hr.mono (by decide)) (pa_cons (pv 6) (pa_cons (pv 3) pa_nil))) (nomark _))
 (pss_one (ps_ret pe_bl))
 pss_nil))))
 (pss_cut (t' := fun D σ H' => ∃ (z m : Int) (b p : Addr) (s5 s6 s7 s8 : Option V), σ = [some (.ref a), some (.int z), some (.ref b), some (.int m), some (.ref p), s5, s6, s7, s8] ∧ Same H H' ∧ H b = none ∧ Bag H' b ∧ 1 ≤ m ∧ m ≤ 3 ∧ TabAt H' C p (cols.take m.toNat) ∧ ∀ σ' H2, (∃ t1 t2 t3 t4 t5 t6 t7 t8, σ' = [some (.ref a), t1, t2, t3, t4, t5, t6, t7, t8]) → Same H H2 → D.nx σ' H2) (pss_cons (ps_set (i := 7) sc_law.nd rfl (Or.inl rfl) (pe_op op_repS (pe_tup (pa_cons pe_int pa_nil)) (pv 3)))
 (pss_cons (ps_set (i := 8) sc_law.nd rfl (Or.inl rfl) (pe_cal c_law_take (hr.mono (by decide)) (pa_cons (pv 2) (pa_cons (pv 3) pa_nil))))
 (pss_cons (ps_if (PW.pt (pw_or (pt_cmpR (op_notIn_cal c_Tablecontains (hr.mono (by decide))) (pv 7) (pv 4) (by rfl)) (pw_or (pt_cmpR (op_in_cal c_Tablecontains (hr.mono (by decide))) (pe_op op_catS (pe_op op_catS (pe_slice sl_tupS (pv 7) po_none (po_some (pv 8))) (pe_tup (pa_cons pe_bl pa_nil))) (pe_slice sl_tupS (pv 7) (po_some (pe_op op_add (pv 8) pe_int)) po_none)) (pv 4) (by rfl)) (pw_or1 (pt_cmpR (op_in_cal c_Tablecontains (hr.mono (by decide))) (pe_callTy call_list_of (by rfl) T.list boot_list (pa_cons (pv 7) pa_nil)) (pv 4) (by rfl))))))
 (pss_one (ps_ret pe_bl))
 pss_nil)
 (pss_one (ps_if (PW.pt (pw_or (pt_cmpR (op_in_cal c_Tablecontains (hr.mono (by decide))) (pe_op op_catS (pv 7) (pe_tup (pa_cons pe_int pa_nil))) (pv 4) (by rfl)) (pw_or (pt_cmpR (op_in_cal c_Tablecontains (hr.mono (by decide))) (pe_slice sl_tupS (pv 7) (po_some pe_int) po_none) (pv 4) (by rfl)) (pw_or (pt_cmpR (op_notIn_cal c_Tablecontains (hr.mono (by decide))) (pv 7) (pv 4) (by rfl)) (pw_or1 (pt_cmpR (op_in_cal c_Tablecontains (hr.mono (by decide))) (pe_fld (pv 4) rfl) (pv 4) (by rfl)))))))
 (pss_one (ps_ret pe_bl))
 pss_nil))))) ?c2)) ?c1)))))
 (pss_one (ps_ret pe_bl))), ?_⟩
    case c1 =>
      rintro D σ H1 ⟨z, m, b, p, s5, s6, s7, s8, rfl, S1, nb, hb1, hm1, hm3, hT, kn⟩
      refine ⟨_, rfl, by decide, by decide, ?_⟩
      have hm0 : (((cols.take m.toNat).length : Nat) : Int) = m := by
        rw [List.length_take]
        show ((min m.toNat 3 : Nat) : Int) = m
        omega
      refine for_range (fun i σ H' => ∃ (s5 s6 s7 s8 : Option V), σ = [some (.ref a), some (.int z), some (.ref b), some (.int m), some (.ref p), s5, s6, s7, s8] ∧ Same H H' ∧ Bag H' b ∧ TabAt H' C p (cols.take m.toNat))
        ⟨s5, s6, s7, s8, rfl, S1, hb1, hT⟩ ?_ ?_
      · rintro i σ H2 hi ⟨s5, s6, s7, s8, rfl, S2, hb2, hT2⟩
        refine ⟨_, rfl, _, rfl, b, m, rfl, hb2, by omega, hm3, fun v H3 kv B3 hb3 => ?_⟩
        have S3 := B3.to_same S2 nb
        have hT3 := hT2.but B3 hb2
        obtain ⟨dx, t, hp, ht⟩ := id hT3
        refine ⟨_, rfl, _, rfl, p, dx, _, rfl, hp, p, v, _, rfl, hT3, (by rw [List.length_take]; omega), kv, fun H4 S4 => ⟨_, rfl, ?_⟩⟩
        refine ⟨_, rfl, _, rfl, v, m, rfl, kv.same S4, fun H5 S5 => ⟨rfl, _, rfl, ?_⟩⟩
        rw [rowB_same kv S4, hm0]
        refine iteNS rfl ?_
        exact ⟨_, _, s7, s8, rfl, (S3.trans S4).trans S5, (hb3.same S4).same S5, (hT3.same S4).same S5⟩
      · rintro σ H2 ⟨s5, s6, s7, s8, rfl, S2, hb2, hT2⟩
        exact ⟨z, m, b, p, s5, s6, s7, s8, rfl, S2, nb, hb2, hm1, hm3, hT2, kn⟩
    case c2 =>
      rintro D σ H1 ⟨z, m, b, p, s5, s6, s7, s8, rfl, S1, nb, hb1, hm1, hm3, hT, kn⟩
      have hm0 : (((cols.take m.toNat).length : Nat) : Int) = m := by
        rw [List.length_take]
        show ((min m.toNat 3 : Nat) : Int) = m
        omega
      have hml : (cols.take m.toNat).length ≤ 1000 := by rw [List.length_take]; omega
      refine ⟨(by show 1 ≤ sizeLine; decide), fun t nt => ?_⟩
      refine ⟨_, rfl, t, m, [.int 1], rfl, rfl, upd_same, List.cons_ne_nil _ _, hm1, by omega, by decide, fun q H2 S2 hq => ?_⟩
      rw [rep_flat] at hq
      have S02 := (same_newH (o := .tup [V.int 1]) nt).trans S2
      refine ⟨_, rfl, _, rfl, b, m, rfl, hb1.same S02, by omega, by omega, fun d H3 d0 d1 B3 hb3 => ?_⟩
      have S3 : Same H H3 := B3.to_same (S1.trans S02) nb
      have hT3 : TabAt H3 C p (cols.take m.toNat) := (hT.same S02).but B3 (hb1.same S02)
      have hq3 : H3 q = some (.tup (List.replicate m.toNat (V.int 1))) := B3.at (hb1.same S02) hq nofun
      have hol : (List.replicate m.toNat (V.int 1)).length = m.toNat := List.length_replicate
      have hoi : ∀ x ∈ List.replicate m.toNat (V.int 1), x = V.int 1 := fun x hx => (List.mem_replicate.mp hx).2
      have hof : ∀ x ∈ List.replicate m.toNat (V.int 1), flatV x = true := fun x hx => by rw [hoi x hx]; rfl
      have hoa : (List.replicate m.toNat (V.int 1)).all isIntV = true := List.all_eq_true.mpr fun x hx => by rw [hoi x hx]; rfl
      generalize List.replicate m.toNat (V.int 1) = os at *
      have kq : ∀ H', Same H3 H' → Known H' (.ref q) := fun H' S => (known_tupF hq3 (by omega) hof).same S
      have rq : ∀ H', Same H3 H' → rowB H' (.ref q) m = true := fun H' S => by
        rw [rowB_tup (S _ _ hq3), hoa, Bool.and_true]
        exact decide_eq_true (by omega)
      -- thing in table, with what it is known to be
      have ask : ∀ (v : V) (n : Bool) (H2 : Hp) (Q : VK), Same H3 H2 → Known H2 v → (∀ H3, Same H2 H3 → Q (.bl (if n then !(rowB H2 v m) else rowB H2 v m)) H3) → rInOwn C n (spContains C) E0 v (.ref p) H2 Q := by
        intro v n H2 Q S2 kv q
        obtain ⟨dx, t, hp, ht⟩ := id (hT3.same S2)
        refine ⟨p, dx, _, rfl, hp, p, v, _, rfl, hT3.same S2, hml, kv, fun H3 S3 => ⟨_, rfl, ?_⟩⟩
        rw [hm0]
        exact q H3 S3
      refine ⟨_, rfl, _, rfl, ask _ true _ _ (Same.refl _) (kq _ (Same.refl _)) fun H4 S4 => ⟨_, rfl, ?_⟩⟩
      rw [rq _ (Same.refl _)]
      refine iteF ?_
      refine ⟨_, rfl, _, rfl, _, rfl, q, os, rfl, S4 _ _ hq3, fun r1 H5 S5 hr1 => ?_⟩
      refine ⟨(by show 1 ≤ sizeLine; decide), fun t2 nt2 => ?_⟩
      have S5' := same_newH (o := .tup [V.bl true]) nt2
      have hc1 := cut_len os none (some d)
      have hc2 := cut_len os (some (d + 1)) none
      refine ⟨r1, t2, _, _, rfl, rfl, S5' _ _ hr1, upd_same, (by show _ + 1 ≤ 1000; omega), fun r2 H6 S6 hr2 => ?_⟩
      have S36 : Same H3 H6 := ((S4.trans S5).trans S5').trans S6
      refine ⟨_, rfl, _, rfl, _, _, rfl, rfl, _, rfl, q, os, rfl, S36 _ _ hq3, fun r3 H7 S7 hr3 => ?_⟩
      refine ⟨r2, r3, _, _, rfl, rfl, S7 _ _ hr2, hr3, (by rw [List.length_append]; show _ + 1 + _ ≤ 1000; omega), fun r4 H8 S8 hr4 => ?_⟩
      have S38 : Same H3 H8 := (S36.trans S7).trans S8
      refine ⟨_, rfl, ask _ false _ _ S38 (known_tupF hr4 ?_ ?_) fun H9 S9 => ⟨_, rfl, ?_⟩⟩
      · rw [List.length_append, List.length_append]
        show _ + 1 + _ ≤ 1000
        omega
      · intro x hx
        rcases List.mem_append.mp hx with hx | hx
        · rcases List.mem_append.mp hx with hx | hx
          · exact hof x (mem_cut hx)
          · rw [List.mem_singleton.mp hx]
            rfl
        · exact hof x (mem_cut hx)
      rw [rowB_bad hr4 ⟨V.bl true, List.mem_append_left _ (List.mem_append_right _ (List.mem_singleton.mpr rfl)), rfl⟩]
      refine iteF ?_
      have S39 : Same H3 H9 := S38.trans S9
      refine ⟨_, rfl, q, os, rfl, .inr (SqT.of (S39 _ _ hq3)), fun l nl => ?_⟩
      have S310 : Same H3 (upd H9 l (.lst os)) := S39.trans (same_newH nl)
      refine ⟨_, rfl, ask _ false _ _ S310 (known_lst upd_same) fun H11 S11 => ⟨_, rfl, ?_⟩⟩
      rw [rowB_not (kd_lst upd_same) nofun]
      refine iteF ?_
      have S311 : Same H3 H11 := S310.trans S11
      -- the second question
      refine ⟨_, rfl, (by show 1 ≤ sizeLine; decide), fun t3 nt3 => ?_⟩
      have S311' : Same H3 (upd H11 t3 (.tup [V.int 0])) := S311.trans (same_newH nt3)
      refine ⟨q, t3, _, _, rfl, rfl, S311' _ _ hq3, upd_same, (by show _ + 1 ≤ 1000; omega), fun r5 H12 S12 hr5 => ?_⟩
      have S312 : Same H3 H12 := S311'.trans S12
      refine ⟨_, rfl, ask _ false _ _ S312 (known_tupF hr5 ?_ ?_) fun H13 S13 => ⟨_, rfl, ?_⟩⟩
      · rw [List.length_append]
        show _ + 1 ≤ 1000
        omega
      · intro x hx
        rcases List.mem_append.mp hx with hx | hx
        · exact hof x hx
        · rw [List.mem_singleton.mp hx]
          rfl
      rw [rowB_len hr5 (by rw [List.length_append]; show ((os.length + 1 : Nat) : Int) ≠ m; omega)]
      refine iteF ?_
      have S313 : Same H3 H13 := S312.trans S13
      refine ⟨_, rfl, _, rfl, q, os, rfl, S313 _ _ hq3, fun r6 H14 S14 hr6 => ?_⟩
      have S314 : Same H3 H14 := S313.trans S14
      have ed : cutV os (some 1) none = os.drop 1 := cut_drop os 1
      rw [ed] at hr6
      refine ⟨_, rfl, ask _ false _ _ S314 (known_tupF hr6 (by rw [List.length_drop]; omega) fun x hx => hof x (List.mem_of_mem_drop hx)) fun H15 S15 => ⟨_, rfl, ?_⟩⟩
      rw [rowB_len hr6 (by rw [List.length_drop]; omega)]
      refine iteF ?_
      have S315 : Same H3 H15 := S314.trans S15
      refine ⟨_, rfl, _, rfl, ask _ true _ _ S315 (kq _ S315) fun H16 S16 => ⟨_, rfl, ?_⟩⟩
      rw [rq _ S315]
      refine iteF ?_
      have S316 : Same H3 H16 := S315.trans S16
      obtain ⟨dx, ct, hp, hct⟩ := hT3.same S316
      refine ⟨_, rfl, p, C, dx, _, _, rfl, hp, TC.cl, TC.nC, rfl, ?_⟩
      have hcf : ∀ x ∈ cols.take m.toNat, flatV x = true ∧ isIntV x = false := fun x hx => by
        have h3 : x ∈ cols := List.mem_of_mem_take hx
        simp only [cols, List.mem_cons, List.not_mem_nil, or_false] at h3
        rcases h3 with rfl | rfl | rfl <;> exact ⟨rfl, rfl⟩
      refine ⟨_, rfl, ask _ false _ _ S316 (known_tupF hct (by omega) fun x hx => (hcf x hx).1) fun H17 S17 => ⟨_, rfl, ?_⟩⟩
      have hne : V.str "id" ∈ cols.take m.toNat := by
        obtain ⟨j, e⟩ : ∃ j, m.toNat = j + 1 := ⟨m.toNat - 1, by omega⟩
        rw [e]
        exact List.mem_cons_self ..
      rw [rowB_bad hct ⟨_, hne, rfl⟩]
      refine iteF ?_
      exact kn _ _ ⟨_, _, _, _, _, _, _, _, rfl⟩ (S3.trans (S316.trans S17))
    · have hj : ∀ j : Int, j = (if (if ((ns.map V.int).length : Int) < 8 then ((ns.map V.int).length : Int) else 8) > 1 then (if ((ns.map V.int).length : Int) < 8 then ((ns.map V.int).length : Int) else 8) else 1) → 0 ≤ j ∧ j ≤ 8 := by
        intro j e
        subst e
        split <;> split <;> omega
      have hj := hj _ rfl
      refine ⟨_, rfl, a, _, rfl, .inl hS, _, _, rfl, _, _, rfl, _, rfl, by omega, by omega, ?_⟩
      refine for_range (fun i σ H' => ∃ t1 t2 t3 t4 t5 t6 t7 t8, σ = [some (.ref a), t1, t2, t3, t4, t5, t6, t7, t8] ∧ Same H H') ⟨none, none, none, none, none, none, none, none, rfl, Same.refl _⟩ ?_ ?_
      · rintro i σ H1 hi ⟨t1, t2, t3, t4, t5, t6, t7, t8, rfl, S1⟩
        refine ⟨_, rfl, _, rfl, a, ns, i, (by rw [Int.zero_add]; rfl), S1.seq hS, hlen, by omega, fun b H2 S2 nb1 hb2 => ?_⟩
        refine ⟨_, rfl, b, 3, rfl, hb2, by decide, by decide, fun d H3 d0 d1 B3 hb3 => ?_⟩
        refine ⟨_, _, rfl, rfl, ?_⟩
        have nb : H b = none := S1.free nb1
        have S3 : Same H H3 := B3.to_same (S1.trans S2) nb
        refine ⟨(by show 3 ≤ sizeLine; decide), fun l nl => ?_⟩
        refine ⟨_, rfl, _, rfl, l, cols, rfl, SqL.of upd_same, fun l2 nl2 => ?_⟩
        intro x dx nx ndx nxd
        have ec : cutV cols none (some (1 + d)) = cols.take (1 + d).toNat := by
          have e : (1 + d) = (((1 + d).toNat : Nat) : Int) := by omega
          have q := cut_take cols (1 + d).toNat
          rw [← e] at q
          exact q
        have S4 : Same H3 (upd (upd H3 l (.lst cols)) l2 (.lst (cutV cols none (some (1 + d))))) := (same_newH nl).trans (same_newH nl2)
        have hl2 : upd (upd (upd (upd H3 l (.lst cols)) l2 (.lst (cutV cols none (some (1 + d))))) dx (.own x)) x (.ins C dx []) l2 = some (.lst (cutV cols none (some (1 + d)))) := by
          rw [upd_ne (ne_of_none upd_same nx), upd_ne (ne_of_none upd_same ndx), upd_same]
        have hdue : ∀ e : Int, 0 ≤ e → e < 3 → dueV (cols.take (1 + e).toNat) = .non := by
          intro e e0 e1
          have : e = 0 ∨ e = 1 ∨ e = 2 := by omega
          rcases this with rfl | rfl | rfl <;> decide +kernel
        refine ⟨x, l2, dx, _, rfl, upd_same, SqL.of hl2, ?_, ?_, ?_, fun H5 B5 hT => ⟨rfl, ?_⟩⟩
        · rw [ec, List.length_take]
          omega
        · intro y hy
          rw [ec] at hy
          have h3 : y ∈ cols := List.mem_of_mem_take hy
          simp only [cols, List.mem_cons, List.not_mem_nil, or_false] at h3
          rcases h3 with rfl | rfl | rfl
          · exact ⟨_, rfl, fun z e => by cases e; decide⟩
          · exact ⟨_, rfl, fun z e => by cases e; decide⟩
          · exact ⟨_, rfl, fun z e => by cases e; decide⟩
        · rw [ec]
          exact hdue d d0 d1
        · have S5 : Same H3 H5 := fun q o e => by
            have q4 := S4 _ _ e
            refine B5 _ _ (ne_of_none q4 nx) ?_
            rw [upd_ne (ne_of_none q4 nx), upd_ne (ne_of_none q4 ndx)]
            exact q4
          rw [ec] at hT
          exact ⟨_, 1 + d, b, x, t5, t6, t7, t8, rfl, S3.trans S5, nb, hb3.same S5, by omega, by omega, hT, fun σ' H6 hσ S6 => by
            obtain ⟨u1, u2, u3, u4, u5, u6, u7, u8, rfl⟩ := hσ
            exact ⟨u1, u2, u3, u4, u5, u6, u7, u8, rfl, S6⟩⟩
      · rintro σ H1 ⟨t1, t2, t3, t4, t5, t6, t7, t8, rfl, S1⟩
        exact k _
end
end K03

namespace K03
open PySem PySem.Spec PyProof.Rows L2 Own
def d_is_integer : He.DefD := ⟨("is_integer", none), "is_integer", "is_integer", defArgs s_is_integer, defBody s_is_integer, defScope s_is_integer, [], []⟩
def d_is_word : He.DefD := ⟨("is_word", none), "is_word", "is_word", defArgs s_is_word, defBody s_is_word, defScope s_is_word, [], []⟩
def d_first_bad : He.DefD := ⟨("first_bad", none), "first_bad", "first_bad", defArgs s_first_bad, defBody s_first_bad, defScope s_first_bad, [], []⟩
def d_Tableinit : He.DefD := ⟨("Table", some "__init__"), "__init__", "Table.__init__", defArgs s_Tableinit, defBody s_Tableinit, defScope s_Tableinit, [], []⟩
def d_Tablecontains : He.DefD := ⟨("Table", some "__contains__"), "__contains__", "Table.__contains__", defArgs s_Tablecontains, defBody s_Tablecontains, defScope s_Tablecontains, [], []⟩
def d_law_bag : He.DefD := ⟨("_law_bag", none), "_law_bag", "_law_bag", defArgs s_law_bag, defBody s_law_bag, defScope s_law_bag, [], []⟩
def d_law_take : He.DefD := ⟨("_law_take", none), "_law_take", "_law_take", defArgs s_law_take, defBody s_law_take, defScope s_law_take, [], []⟩
def d_law_of : He.DefD := ⟨("_law_of", none), "_law_of", "_law_of", defArgs s_law_of, defBody s_law_of, defScope s_law_of, [], []⟩
def d_law_number : He.DefD := ⟨("_law_number", none), "_law_number", "_law_number", defArgs s_law_number, defBody s_law_number, defScope s_law_number, [], []⟩
def d_law_value : He.DefD := ⟨("_law_value", none), "_law_value", "_law_value", defArgs s_law_value, defBody s_law_value, defScope s_law_value, [], []⟩
def d_law_is_row : He.DefD := ⟨("_law_is_row", none), "_law_is_row", "_law_is_row", defArgs s_law_is_row, defBody s_law_is_row, defScope s_law_is_row, [], []⟩
def d_law : He.DefD := ⟨("law", none), "law", "law", defArgs s_law, defBody s_law, defScope s_law, [], []⟩
def fn : List He.DefD := [d_is_integer, d_is_word, d_first_bad, d_Tableinit, d_Tablecontains, d_law_bag, d_law_take, d_law_of, d_law_number, d_law_value, d_law_is_row, d_law]
def fa : List He.Fa := [.glo "is_integer", .glo "is_word", .glo "first_bad", .glo "_law_bag", .glo "_law_take", .glo "_law_of", .glo "_law_number", .glo "_law_value", .glo "_law_is_row", .glo "law", .free "len", .free "range", .free "enumerate", .free "int", .free "abs", .free "list", .free "tuple", .free "all", .free "isinstance", .free "max", .free "min", .free "str", .free "bool", .free "repr", .free "sorted", .free "set", .free "sum", .free "any", .free "dict", .cls "Table", .noat "Table" "columns", .meth "Table" "__contains__", .mkr "Table", .int "WORD_LETTERS" 8, .int "MOST_COLUMNS" 3, .glo "KEPT", .glo "Table"]
section
variable {K : PySem.W.Frag} {h : Heap} {mg : Str → Option Value}
theorem F_is_integer (c : He.SaysD fa fn K) : ∃ fd, FunD K "is_integer" "is_integer" (defArgs s_is_integer) (defBody s_is_integer) (defScope s_is_integer) [] [] (He.fAd K ("is_integer", none)) fd := c.def_ 0 (d := d_is_integer) rfl
theorem b_is_integer {f : Addr} {fd : FuncData} (F : FunD K "is_integer" "is_integer" (defArgs s_is_integer) (defBody s_is_integer) (defScope s_is_integer) [] [] f fd) : Binds K fd ["thing"] [] := F.bindsN fun _ _ _ _ _ _ us hl => match us, hl with | [_], _ => rfl
theorem F_is_word (c : He.SaysD fa fn K) : ∃ fd, FunD K "is_word" "is_word" (defArgs s_is_word) (defBody s_is_word) (defScope s_is_word) [] [] (He.fAd K ("is_word", none)) fd := c.def_ 1 (d := d_is_word) rfl
theorem b_is_word {f : Addr} {fd : FuncData} (F : FunD K "is_word" "is_word" (defArgs s_is_word) (defBody s_is_word) (defScope s_is_word) [] [] f fd) : Binds K fd ["thing"] [] := F.bindsN fun _ _ _ _ _ _ us hl => match us, hl with | [_], _ => rfl
theorem F_first_bad (c : He.SaysD fa fn K) : ∃ fd, FunD K "first_bad" "first_bad" (defArgs s_first_bad) (defBody s_first_bad) (defScope s_first_bad) [] [] (He.fAd K ("first_bad", none)) fd := c.def_ 2 (d := d_first_bad) rfl
theorem b_first_bad {f : Addr} {fd : FuncData} (F : FunD K "first_bad" "first_bad" (defArgs s_first_bad) (defBody s_first_bad) (defScope s_first_bad) [] [] f fd) : Binds K fd ["names"] [] := F.bindsN fun _ _ _ _ _ _ us hl => match us, hl with | [_], _ => rfl
theorem F_Tableinit (c : He.SaysD fa fn K) : ∃ fd, FunD K "__init__" "Table.__init__" (defArgs s_Tableinit) (defBody s_Tableinit) (defScope s_Tableinit) [] [] (He.fAd K ("Table", some "__init__")) fd := c.def_ 3 (d := d_Tableinit) rfl
theorem b_Tableinit {f : Addr} {fd : FuncData} (F : FunD K "__init__" "Table.__init__" (defArgs s_Tableinit) (defBody s_Tableinit) (defScope s_Tableinit) [] [] f fd) : Binds K fd ["self", "columns"] [] := F.bindsN fun _ _ _ _ _ _ us hl => match us, hl with | [_, _], _ => rfl
theorem F_Tablecontains (c : He.SaysD fa fn K) : ∃ fd, FunD K "__contains__" "Table.__contains__" (defArgs s_Tablecontains) (defBody s_Tablecontains) (defScope s_Tablecontains) [] [] (He.fAd K ("Table", some "__contains__")) fd := c.def_ 4 (d := d_Tablecontains) rfl
theorem b_Tablecontains {f : Addr} {fd : FuncData} (F : FunD K "__contains__" "Table.__contains__" (defArgs s_Tablecontains) (defBody s_Tablecontains) (defScope s_Tablecontains) [] [] f fd) : Binds K fd ["self", "thing"] [] := F.bindsN fun _ _ _ _ _ _ us hl => match us, hl with | [_, _], _ => rfl
theorem F_law_bag (c : He.SaysD fa fn K) : ∃ fd, FunD K "_law_bag" "_law_bag" (defArgs s_law_bag) (defBody s_law_bag) (defScope s_law_bag) [] [] (He.fAd K ("_law_bag", none)) fd := c.def_ 5 (d := d_law_bag) rfl
theorem b_law_bag {f : Addr} {fd : FuncData} (F : FunD K "_law_bag" "_law_bag" (defArgs s_law_bag) (defBody s_law_bag) (defScope s_law_bag) [] [] f fd) : Binds K fd ["script", "at"] [] := F.bindsN fun _ _ _ _ _ _ us hl => match us, hl with | [_, _], _ => rfl
theorem F_law_take (c : He.SaysD fa fn K) : ∃ fd, FunD K "_law_take" "_law_take" (defArgs s_law_take) (defBody s_law_take) (defScope s_law_take) [] [] (He.fAd K ("_law_take", none)) fd := c.def_ 6 (d := d_law_take) rfl
theorem b_law_take {f : Addr} {fd : FuncData} (F : FunD K "_law_take" "_law_take" (defArgs s_law_take) (defBody s_law_take) (defScope s_law_take) [] [] f fd) : Binds K fd ["bag", "many"] [] := F.bindsN fun _ _ _ _ _ _ us hl => match us, hl with | [_, _], _ => rfl
theorem F_law_of (c : He.SaysD fa fn K) : ∃ fd, FunD K "_law_of" "_law_of" (defArgs s_law_of) (defBody s_law_of) (defScope s_law_of) [] [] (He.fAd K ("_law_of", none)) fd := c.def_ 7 (d := d_law_of) rfl
theorem b_law_of {f : Addr} {fd : FuncData} (F : FunD K "_law_of" "_law_of" (defArgs s_law_of) (defBody s_law_of) (defScope s_law_of) [] [] f fd) : Binds K fd ["bag", "some"] [] := F.bindsN fun _ _ _ _ _ _ us hl => match us, hl with | [_, _], _ => rfl
theorem F_law_number (c : He.SaysD fa fn K) : ∃ fd, FunD K "_law_number" "_law_number" (defArgs s_law_number) (defBody s_law_number) (defScope s_law_number) [] [] (He.fAd K ("_law_number", none)) fd := c.def_ 8 (d := d_law_number) rfl
theorem b_law_number {f : Addr} {fd : FuncData} (F : FunD K "_law_number" "_law_number" (defArgs s_law_number) (defBody s_law_number) (defScope s_law_number) [] [] f fd) : Binds K fd ["bag"] [] := F.bindsN fun _ _ _ _ _ _ us hl => match us, hl with | [_], _ => rfl
theorem F_law_value (c : He.SaysD fa fn K) : ∃ fd, FunD K "_law_value" "_law_value" (defArgs s_law_value) (defBody s_law_value) (defScope s_law_value) [] [] (He.fAd K ("_law_value", none)) fd := c.def_ 9 (d := d_law_value) rfl
theorem b_law_value {f : Addr} {fd : FuncData} (F : FunD K "_law_value" "_law_value" (defArgs s_law_value) (defBody s_law_value) (defScope s_law_value) [] [] f fd) : Binds K fd ["bag", "many"] [] := F.bindsN fun _ _ _ _ _ _ us hl => match us, hl with | [_, _], _ => rfl
theorem F_law_is_row (c : He.SaysD fa fn K) : ∃ fd, FunD K "_law_is_row" "_law_is_row" (defArgs s_law_is_row) (defBody s_law_is_row) (defScope s_law_is_row) [] [] (He.fAd K ("_law_is_row", none)) fd := c.def_ 10 (d := d_law_is_row) rfl
theorem b_law_is_row {f : Addr} {fd : FuncData} (F : FunD K "_law_is_row" "_law_is_row" (defArgs s_law_is_row) (defBody s_law_is_row) (defScope s_law_is_row) [] [] f fd) : Binds K fd ["thing", "many"] [] := F.bindsN fun _ _ _ _ _ _ us hl => match us, hl with | [_, _], _ => rfl
theorem F_law (c : He.SaysD fa fn K) : ∃ fd, FunD K "law" "law" (defArgs s_law) (defBody s_law) (defScope s_law) [] [] (He.fAd K ("law", none)) fd := c.def_ 11 (d := d_law) rfl
theorem b_law {f : Addr} {fd : FuncData} (F : FunD K "law" "law" (defArgs s_law) (defBody s_law) (defScope s_law) [] [] f fd) : Binds K fd ["script"] [] := F.bindsN fun _ _ _ _ _ _ us hl => match us, hl with | [_], _ => rfl
theorem g_is_integer (X : K.In h) (G : h.Ns mainGlobals mg) (c : He.SaysD fa fn K) : mg "is_integer" = some (.ref (He.fAd K ("is_integer", none))) := He.glo_ok X G (c.fact 0 (f := .glo "is_integer") rfl)
theorem g_is_word (X : K.In h) (G : h.Ns mainGlobals mg) (c : He.SaysD fa fn K) : mg "is_word" = some (.ref (He.fAd K ("is_word", none))) := He.glo_ok X G (c.fact 1 (f := .glo "is_word") rfl)
theorem g_first_bad (X : K.In h) (G : h.Ns mainGlobals mg) (c : He.SaysD fa fn K) : mg "first_bad" = some (.ref (He.fAd K ("first_bad", none))) := He.glo_ok X G (c.fact 2 (f := .glo "first_bad") rfl)
theorem g_law_bag (X : K.In h) (G : h.Ns mainGlobals mg) (c : He.SaysD fa fn K) : mg "_law_bag" = some (.ref (He.fAd K ("_law_bag", none))) := He.glo_ok X G (c.fact 3 (f := .glo "_law_bag") rfl)
theorem g_law_take (X : K.In h) (G : h.Ns mainGlobals mg) (c : He.SaysD fa fn K) : mg "_law_take" = some (.ref (He.fAd K ("_law_take", none))) := He.glo_ok X G (c.fact 4 (f := .glo "_law_take") rfl)
theorem g_law_of (X : K.In h) (G : h.Ns mainGlobals mg) (c : He.SaysD fa fn K) : mg "_law_of" = some (.ref (He.fAd K ("_law_of", none))) := He.glo_ok X G (c.fact 5 (f := .glo "_law_of") rfl)
theorem g_law_number (X : K.In h) (G : h.Ns mainGlobals mg) (c : He.SaysD fa fn K) : mg "_law_number" = some (.ref (He.fAd K ("_law_number", none))) := He.glo_ok X G (c.fact 6 (f := .glo "_law_number") rfl)
theorem g_law_value (X : K.In h) (G : h.Ns mainGlobals mg) (c : He.SaysD fa fn K) : mg "_law_value" = some (.ref (He.fAd K ("_law_value", none))) := He.glo_ok X G (c.fact 7 (f := .glo "_law_value") rfl)
theorem g_law_is_row (X : K.In h) (G : h.Ns mainGlobals mg) (c : He.SaysD fa fn K) : mg "_law_is_row" = some (.ref (He.fAd K ("_law_is_row", none))) := He.glo_ok X G (c.fact 8 (f := .glo "_law_is_row") rfl)
theorem g_law (X : K.In h) (G : h.Ns mainGlobals mg) (c : He.SaysD fa fn K) : mg "law" = some (.ref (He.fAd K ("law", none))) := He.glo_ok X G (c.fact 9 (f := .glo "law") rfl)
theorem free_all (X : K.In h) (G : h.Ns mainGlobals mg) (c : He.SaysD fa fn K) : Free mg := ⟨He.free_ok X G (c.fact 10 (f := .free "len") rfl), He.free_ok X G (c.fact 11 (f := .free "range") rfl), He.free_ok X G (c.fact 12 (f := .free "enumerate") rfl), He.free_ok X G (c.fact 13 (f := .free "int") rfl), He.free_ok X G (c.fact 14 (f := .free "abs") rfl), He.free_ok X G (c.fact 15 (f := .free "list") rfl), He.free_ok X G (c.fact 16 (f := .free "tuple") rfl), He.free_ok X G (c.fact 17 (f := .free "all") rfl), He.free_ok X G (c.fact 18 (f := .free "isinstance") rfl), He.free_ok X G (c.fact 19 (f := .free "max") rfl), He.free_ok X G (c.fact 20 (f := .free "min") rfl), He.free_ok X G (c.fact 21 (f := .free "str") rfl), He.free_ok X G (c.fact 22 (f := .free "bool") rfl), He.free_ok X G (c.fact 23 (f := .free "repr") rfl), He.free_ok X G (c.fact 24 (f := .free "sorted") rfl), He.free_ok X G (c.fact 25 (f := .free "set") rfl), He.free_ok X G (c.fact 26 (f := .free "sum") rfl), He.free_ok X G (c.fact 27 (f := .free "any") rfl), He.free_ok X G (c.fact 28 (f := .free "dict") rfl)⟩
theorem x_0 (c : He.SaysD fa fn K) : (He.Fa.cls "Table").ok K = true := c.fact 29 (f := .cls "Table") rfl
theorem x_1 (c : He.SaysD fa fn K) : (He.Fa.noat "Table" "columns").ok K = true := c.fact 30 (f := .noat "Table" "columns") rfl
theorem x_2 (c : He.SaysD fa fn K) : (He.Fa.meth "Table" "__contains__").ok K = true := c.fact 31 (f := .meth "Table" "__contains__") rfl
theorem x_3 (c : He.SaysD fa fn K) : (He.Fa.mkr "Table").ok K = true := c.fact 32 (f := .mkr "Table") rfl
theorem x_4 (c : He.SaysD fa fn K) : (He.Fa.int "WORD_LETTERS" 8).ok K = true := c.fact 33 (f := .int "WORD_LETTERS" 8) rfl
theorem x_5 (c : He.SaysD fa fn K) : (He.Fa.int "MOST_COLUMNS" 3).ok K = true := c.fact 34 (f := .int "MOST_COLUMNS" 3) rfl
theorem x_6 (c : He.SaysD fa fn K) : (He.Fa.glo "KEPT").ok K = true := c.fact 35 (f := .glo "KEPT") rfl
theorem x_7 (c : He.SaysD fa fn K) : (He.Fa.glo "Table").ok K = true := c.fact 36 (f := .glo "Table") rfl
end
/-! ### the hook: the facts, and one more -/
def exB (K : PySem.W.Frag) : Bool := He.tupB K "KEPT" (keptL.map He.Dv.str)
abbrev AlM : Type := He.AlD × Bool
def obsMG (g : Addr → Option Obj) : AlM := (He.obsD fa fn (He.frG g (He.asD g 5)), exB (He.frG g (He.asD g 5)))
def valM : AlM := (He.valD fn, true)
def SaysM (K : PySem.W.Frag) : Prop := He.SaysD fa fn K ∧ exB K = true
def hkM : PySem.W.Hook where
  α := AlM
  obs := fun s => obsMG s.heap.get?
  val := fun _ => valM
  says := fun _ h => ∃ K : PySem.W.Frag, K.In h ∧ SaysM K
  of := fun _ _ e => ⟨_, He.frG_in, congrArg (fun z : AlM => z.1) e, congrArg (fun z : AlM => z.2) e⟩
  keeps := fun _ _ _ ⟨K, hK, c⟩ k => ⟨K, PySem.W.Frag.In.keeps hK k, c⟩
abbrev R : PySem.W.OpenRow := PySem.W.OpenLaw.row PySem.Challenge.rw_emptyfilters_k03_values_that_are_rows
def ob (s : PySem.W.SharedT) : AlM := obsMG (HandSHeadRun.getT s)
theorem ob_eq (s : PySem.W.SharedT) : ob s = hkM.obs s.abs := by
  have e : HandSHeadRun.getT s = s.abs.heap.get? := funext (HandSHeadRun.getT_eq s)
  unfold ob
  rw [e] <;> rfl
theorem run (w : World) : HandSHeadRun.RunEq R (PySem.W.view R.prog [20]) hkM ob 4000 ["__name__", "KEPT", "WORD_LETTERS", "is_integer", "is_word", "copied", "EmptyfiltersError", "BadTable", "MOST_COLUMNS", "first_bad", "Table", "_law_bag", "_law_take", "_law_of", "_law_number", "_law_value", "_law_is_row"] w := by
  intro os
  kernel_rfl
end K03

namespace K03
open PySem PySem.Spec PyProof.Rows L2 Own
theorem strs_dv {K : PySem.W.Frag} (l : List Str) : (l.map He.Dv.str).map (He.Dv.v K) = l.map V.str := by
  rw [List.map_map]
  rfl
theorem facts {P : Program} {w : World} {K : PySem.W.Frag} {h : Heap} {mg : Str → Option Value} {f : Addr} (X : K.In h) (G : h.Ns mainGlobals mg) (hfa : mg ("law" : Str) = some (.ref f)) (s : SaysM K) :
    ∃ fd : FuncData, (∀ (s : Shared) (v : Value), BindsTo s fd ⟨[v], []⟩ [("script", v)]) ∧ ∀ base : Heap, K.In base → base.Ns mainGlobals mg → FnOk P w K mg base CX0 5 f fd ["script"] (spLaw K) := by
  obtain ⟨c, hex⟩ := s
  obtain ⟨fd1, F1⟩ := F_is_integer c
  obtain ⟨fd2, F2⟩ := F_is_word c
  obtain ⟨fd3, F3⟩ := F_first_bad c
  obtain ⟨fd4, F4⟩ := F_Tableinit c
  obtain ⟨fd5, F5⟩ := F_Tablecontains c
  obtain ⟨fd6, F6⟩ := F_law_bag c
  obtain ⟨fd7, F7⟩ := F_law_take c
  obtain ⟨fd8, F8⟩ := F_law_of c
  obtain ⟨fd9, F9⟩ := F_law_number c
  obtain ⟨fd10, F10⟩ := F_law_value c
  obtain ⟨fd11, F11⟩ := F_law_is_row c
  obtain ⟨fd, F⟩ := F_law c
  have e := hfa.symm.trans (g_law X G c)
  cases e
  have b := FunD.bindsA (ps := ["script"]) F fun _ _ _ _ _ _ us hl => match us, hl with | [_], _ => rfl
  have T0 := free_all X G c
  have T : Txt K mg (He.ga K "KEPT") := { T0 with
    g_KEPT := He.glo_ok X G (x_6 c)
    s_KEPT := fun H => by
      have q := He.tupB_ok hex H
      rw [strs_dv] at q
      exact q
    g_WORD_LETTERS := He.int_ok X G (x_4 c)
    g_MOST_COLUMNS := He.int_ok X G (x_5 c) }
  have TC : TxC K (He.ga K "Table") := ⟨He.cls_ok (x_0 c), He.noat_ok (x_1 c)⟩
  refine ⟨fd, fun s v => b s [v] rfl, fun base _ _ => ?_⟩
  have c1 : Cal P w K mg base CX0 1 "is_integer" _ fd1 ["thing"] spIsInt := ⟨ok_is_integer F1 T0, g_is_integer X G c, F1.kp, b_is_integer F1⟩
  have c2 : Cal P w K mg base CX0 1 "is_word" _ fd2 ["thing"] spIsWord := ⟨ok_is_word F2 T, g_is_word X G c, F2.kp, b_is_word F2⟩
  have c3 : Cal P w K mg base CX0 2 "first_bad" _ fd3 ["names"] (spFirstBad K) := ⟨ok_first_bad F3 T c2, g_first_bad X G c, F3.kp, b_first_bad F3⟩
  have c4 : CalI P w K mg base CX0 3 "Table" (He.ga K "Table") _ fd4 ["self", "columns"] (spTable K (He.ga K "Table")) := ⟨ok_Tableinit F4 T TC c3, He.mkr_ok (x_3 c), He.glo_ok X G (x_7 c), b_Tableinit F4⟩
  have c5 : CalM P w K mg base CX0 2 (He.ga K "Table") "__contains__" _ fd5 ["self", "thing"] (spContains (He.ga K "Table")) := ⟨ok_Tablecontains F5 T TC c1, He.meth_ok (x_2 c), b_Tablecontains F5⟩
  have c6 : Cal P w K mg base CX0 1 "_law_bag" _ fd6 ["script", "at"] (spBag K) := ⟨ok_bag F6 T0, g_law_bag X G c, F6.kp, b_law_bag F6⟩
  have c7 : Cal P w K mg base CX0 1 "_law_take" _ fd7 ["bag", "many"] spTake := ⟨ok_take F7 T0, g_law_take X G c, F7.kp, b_law_take F7⟩
  have c8 : Cal P w K mg base CX0 2 "_law_of" _ fd8 ["bag", "some"] (spOf K) := ⟨ok_of F8 T0 c7, g_law_of X G c, F8.kp, b_law_of F8⟩
  have c9 : Cal P w K mg base CX0 2 "_law_number" _ fd9 ["bag"] spNumber := ⟨ok_number F9 T0 c7, g_law_number X G c, F9.kp, b_law_number F9⟩
  have c10 : Cal P w K mg base CX0 3 "_law_value" _ fd10 ["bag", "many"] spValue := ⟨ok_value F10 T0 c7 c8 c9, g_law_value X G c, F10.kp, b_law_value F10⟩
  have c11 : Cal P w K mg base CX0 1 "_law_is_row" _ fd11 ["thing", "many"] spIsRow := ⟨ok_is_row F11 T0, g_law_is_row X G c, F11.kp, b_law_is_row F11⟩
  exact ok_law F T0 TC c6 c7 c10 c11 c4 c5
end K03
open PySem PySem.W PySem.Calls PyProof.Rows
set_option maxHeartbeats 0 in
theorem PySem.Challenge.cw_emptyfilters_k03_values_that_are_rows_holds : PySem.Challenge.rw_emptyfilters_k03_values_that_are_rows.Holds := by
  w_on; o_law
  refine HandSHeadRun.head_any (r := OpenLaw.row PySem.Challenge.rw_emptyfilters_k03_values_that_are_rows) (q := view (OpenLaw.row PySem.Challenge.rw_emptyfilters_k03_values_that_are_rows).prog [20]) (H := K03.hkM) (ob := K03.ob) (M := 4000) (loose := ["__name__", "KEPT", "WORD_LETTERS", "is_integer", "is_word", "copied", "EmptyfiltersError", "BadTable", "MOST_COLUMNS", "first_bad", "Table", "_law_bag", "_law_take", "_law_of", "_law_number", "_law_value", "_law_is_row"]) (d := HandSHeadRun.topDef (OpenLaw.row PySem.Challenge.rw_emptyfilters_k03_values_that_are_rows).prog 20) (kwd := []) K03.ob_eq
    (by kernel_rfl) (fun s => by kernel_rfl) K03.run (by kernel_rfl) (by kernel_rfl) (by kernel_rfl) (by rfl) (by first | assumption | decide +kernel) (by decide +kernel) ⟨rfl, rfl, rfl, rfl, rfl, by decide +kernel⟩ ?hw ?hc
  case hw => w_witness2
  case hc =>
    refine L2.walk_ofE (l := PySem.Challenge.rw_emptyfilters_k03_values_that_are_rows) (n := 63) (k := 5) (x := "script") (CX := L2.CX0) rfl (by decide) (by kernel_rfl) ⟨rfl, by decide, by decide⟩ ?F (fun _ _ _ _ z => z)
    intro w mg fa h Y G hmg0
    obtain ⟨K, KX, c⟩ := Y
    have hmg : mg ("law" : PySem.Str) = some (.ref fa) := by
      have e : (HandSHeadRun.topDef (OpenLaw.row PySem.Challenge.rw_emptyfilters_k03_values_that_are_rows).prog 20).name = ("law" : PySem.Str) := by kernel_rfl
      rw [← e]
      exact hmg0
    obtain ⟨fd, hb, hF⟩ := K03.facts (P := (PySem.Challenge.rw_emptyfilters_k03_values_that_are_rows).prog) (w := w) KX G hmg c
    exact ⟨K, fd, K03.spLaw K, KX, hb, fun H a ns hl _ hS => ⟨a, ns, rfl, hS, hl, fun _ => rfl⟩, hF⟩
