import PyProof.Rows.All
import Wide.All
import OpenK.AllK
import Wide.FinOn
import HandS.ForMost
import HandS.IsInst
import HandS.TupAny
import HandS.TupMul
import HandS.Wide
import HandS.OwnEq
import HandS.Walk
import HandS.Defaults
import PyProof.InstNe
import KE.KFmtOwn
import HandS.Style
import HandS.FStr
import HandS.Small
import KE.GoesEnum
import PyProof.CollectStr
import PyProof.ListNew
import PyProof.ListRange
import HandS.Head0
import HandS.Head1
import HandS.Head2
import HandS.HeadEnd
import HandS.HeadHook1
import HandS.HeadHook2
import PySem.Challenge.RW_emptyfilters_k01_tables_made
set_option Elab.async false
set_option linter.all false
set_option maxRecDepth 100000
set_option maxHeartbeats 2000000
namespace Own
open PySem PySem.Spec PyProof.Rows L2
section
variable {X : Cx} {n : Nat}
theorem run_own {CX : CXT} {f : Addr} {fd : FuncData} {ps : List Str} {sp : Sp} {E : XK} (F : FnOk X.prog X.w X.K X.mg X.base CX n f fd ps sp)
    (hb : Binds X.K fd ps []) (hx : Passes CX X E) (hr : Room n X.A) {pins : List (Addr × Obj)} {s : Shared} {σ : L2.St} {H : Hp} {vs : List V} {us : List Value} {Q : V → Hp → Prop} (I : Inv X pins σ H s) (r : Vals vs us)
    (hsp : sp vs H Q E) : wpAny (model X.prog X.w) X.A (call (.ref f) us) (EP X pins σ Q) X.xe s :=
  run_fn (ds := []) (dvs := []) F hr hb .nil hx I r (by rw [List.append_nil]; exact hsp)
/-- x in o, by an own __contains__ at f -/
def rInOwn (C : Addr) (neg : Bool) (sp : Sp) (E : XK) : R2 := fun x y H Q => ∃ a dx fs, y = .ref a ∧ H a = some (.ins C dx fs) ∧ sp [.ref a, x] H (fun v H' => ∃ b, v = .bl b ∧ Q (.bl (if neg then !b else b)) H') E
theorem contains_own {CX : CXT} {C f : Addr} {fd : FuncData} {ps : List Str} {sp : Sp} {E : XK} (F : FnOk X.prog X.w X.K X.mg X.base CX n f fd ps sp)
    (hm : Meth X.K C "__contains__" f) (hb : Binds X.K fd ps []) (hx : Passes CX X E) (hr : Room n X.A) {pins : List (Addr × Obj)} {s : Shared} {σ : L2.St} {H : Hp} {x : V} {v : Value} {a dx : Addr} {fs : List (Str × V)} {Q : Bool → Hp → Prop} (I : Inv X pins σ H s) (rx : RelV x v)
    (ha : H a = some (.ins C dx fs)) (hsp : sp [.ref a, x] H (fun v H' => ∃ b, v = .bl b ∧ Q b H') E) :
    wpAny (model X.prog X.w) X.A (contains (.ref a) v) (fun b s' => ∃ H', Inv X pins σ H' s' ∧ Q b H') X.xe s := by
  obtain ⟨mA, J, _⟩ := ins_get I.hok ha
  obtain ⟨od, J, _⟩ := J.look
  have hK := I.kIn
  have hf := PySem.W.looks_findIn (M := model X.prog X.w) hK hm.at_
  unfold contains
  refine wpAny_holding ?_
  have hs0 : stdlibNamesSay? (.ref a) v = none := by rfl
  rw [hs0]
  show wpAny (model X.prog X.w) X.A (specialOf (.ref a) "__contains__" >>= _) _ _ _
  unfold specialOf
  refine wpAny_bind (wpAny_bind (J.type.here (hf.here ?_)))
  have e1 : ((some (Value.ref f)) == some Value.none) = false := by rfl
  dsimp only
  rw [e1]
  simp only [Bool.false_eq_true, if_false]
  unfold callSpecialUnlessNone? specialOf
  refine wpAny_bind (wpAny_bind (wpAny_bind (J.type.here (hf.here ?_))))
  refine wpAny_holding (wpAny_bind ((PySem.W.bind_fn hK _ (beq_iff_eq.mp hm.fn)).here ?_))
  dsimp only
  have e2 : (Value.ref f == Value.none) = false := by rfl
  rw [e2]
  simp only [Bool.false_eq_true, if_false]
  show wpAny (model X.prog X.w) X.A (call (.ref f) [.ref a, v] >>= _) _ _ _
  have r2 : Vals [V.ref a, x] [Value.ref a, v] := .cons rfl (.cons rx .nil)
  refine wpAny_bind (thn (run_own (n := n) F hb hx hr I r2 hsp) fun u s1 ⟨z, H1, I1, rz, b, ez, q⟩ => ?_)
  subst ez
  cases rz
  refine wpAny_pure ?_
  show wpAny (model X.prog X.w) X.A (truthy (.bool b)) _ _ _
  exact wpAny_pure ⟨H1, I1, q⟩
theorem op_in_own {CX : CXT} {C f : Addr} {fd : FuncData} {ps : List Str} {sp : Sp} {E : XK} (F : FnOk X.prog X.w X.K X.mg X.base CX n f fd ps sp)
    (hm : Meth X.K C "__contains__" f) (hb : Binds X.K fd ps []) (hx : Passes CX X E) (hr : Room n X.A) : OpR X (compareOp .In) (rInOwn C false sp E) := by
  intro pins s σ H x y v u Q I rx ry hq
  obtain ⟨a, dx, fs, rfl, ha, h⟩ := hq
  cases ry
  refine wpAny_bind (thn (contains_own F hm hb hx hr I rx ha (Q := fun b H' => Q (.bl b) H') h) fun b s1 ⟨H1, I1, q⟩ => ?_)
  exact wpAny_pure ⟨.bl b, H1, I1, rfl, q⟩
theorem op_notIn_own {CX : CXT} {C f : Addr} {fd : FuncData} {ps : List Str} {sp : Sp} {E : XK} (F : FnOk X.prog X.w X.K X.mg X.base CX n f fd ps sp)
    (hm : Meth X.K C "__contains__" f) (hb : Binds X.K fd ps []) (hx : Passes CX X E) (hr : Room n X.A) : OpR X (compareOp .NotIn) (rInOwn C true sp E) := by
  intro pins s σ H x y v u Q I rx ry hq
  obtain ⟨a, dx, fs, rfl, ha, h⟩ := hq
  cases ry
  refine wpAny_bind (thn (contains_own F hm hb hx hr I rx ha (Q := fun b H' => Q (.bl (!b)) H') h) fun b s1 ⟨H1, I1, q⟩ => ?_)
  exact wpAny_pure ⟨.bl (!b), H1, I1, rfl, q⟩
end
/-! ### callees by name -/
structure Cal (P : Program) (w : World) (K : PySem.W.Frag) (mg : Str → Option Value) (base : Heap) (CX : CXT) (k : Nat) (x : Str) (f : Addr) (fd : FuncData) (ps : List Str) (sp : Sp) : Prop where
  ok : FnOk P w K mg base CX k f fd ps sp
  at_ : mg x = some (.ref f)
  kp : PySem.W.keepIn K (.ref f) = true
  b : Binds K fd ps []
theorem pe_cal {X : Cx} {k : Nat} {x : Str} {f : Addr} {fd : FuncData} {ps : List Str} {sp : Sp} {e : Expr} {es : List Expr} {t : TA} {p pos : Pos} (c : Cal X.prog X.w X.K X.mg X.base CX0 k x f fd ps sp) (hr : Room k X.A) (ha : PA X (e :: es) t)
    (hg : Gl X x := by rfl) (hdb : (x == ("__debug__" : Str)) = false := by decide) (he : starEach (e :: es) X.env = (false, eval e X.env) :: starEach es X.env := by rfl) (hpl : (backTo pos (starEach es X.env)).any (·.1) = false := by rfl) :
    PE X (.Call (.Name x p) (e :: es) [] pos) (tCall sp [] E0 t) := pe_call c.ok hr hg c.at_ c.kp c.b .nil pass0 ha hdb he hpl
theorem pe_gint {X : Cx} {x : Str} {i : Int} {pos : Pos} (hg : Gl X x) (hm : ∃ t, X.mg x = some (.int i t)) (hd : (x == ("__debug__" : Str)) = false := by decide) : PE X (.Name x pos) (tC (.int i)) := by
  obtain ⟨t, h⟩ := hm
  exact pe_glob hg h ⟨t, rfl⟩ hd
theorem hu_of' {k : Nat} {A : Around} (hr : Room k A) : A.units + 64 < cLine := hr.units
/-! ### builtins that the top leaves -/
structure Free (mg : Str → Option Value) : Prop where
  len : mg "len" = none
  range : mg "range" = none
  enumerate : mg "enumerate" = none
  int : mg "int" = none
  abs : mg "abs" = none
  list : mg "list" = none
  tuple : mg "tuple" = none
  all : mg "all" = none
  isinstance : mg "isinstance" = none
  max : mg "max" = none
  min : mg "min" = none
  str : mg "str" = none
  bool : mg "bool" = none
  repr : mg "repr" = none
  sorted : mg "sorted" = none
  set : mg "set" = none
  sum : mg "sum" = none
  any : mg "any" = none
  dict : mg "dict" = none
/-! ### the bag: a list of two ints, and what a draw from it leaves -/
def Bag (H : Hp) (b : Addr) : Prop := ∃ x y : Int, H b = some (.lst [.int x, .int y]) ∧ 0 ≤ x ∧ 0 ≤ y
def But (b : Addr) (H H' : Hp) : Prop := ∀ a o, a ≠ b → H a = some o → H' a = some o
theorem But.refl {b : Addr} {H : Hp} : But b H H := fun _ _ _ h => h
theorem But.trans {b : Addr} {H H1 H2 : Hp} (x : But b H H1) (y : But b H1 H2) : But b H H2 := fun a o n h => y a o n (x a o n h)
theorem But.same {b : Addr} {H H1 : Hp} (x : Same H H1) : But b H H1 := fun a o _ h => x a o h
theorem But.new {b p : Addr} {H H1 : Hp} {o : HO} (x : But b H H1) (hp : H1 p = none) : But b H (upd H1 p o) := fun a u n h => by
  have q := x a u n h
  rw [upd_ne (ne_of_none q hp)]
  exact q
theorem But.put {b : Addr} {H H1 : Hp} {o : HO} (x : But b H H1) : But b H (upd H1 b o) := fun a u n h => by
  rw [upd_ne n]
  exact x a u n h
theorem But.putb {b p : Addr} {H H1 : Hp} {o : HO} (x : But b H H1) (hp : H p = none) : But b H (upd H1 p o) := fun a u n h => by
  rw [upd_ne (ne_of_none h hp)]
  exact x a u n h
theorem But.list {K : PySem.W.Frag} {b a : Addr} {H H1 : Hp} {xs : List V} (x : But b H H1) (n : a ≠ b) (h : SqL K H a xs) : SqL K H1 a xs := by
  rcases h with (h | ⟨o, h⟩) | h
  · exact .inl (.inl (x _ _ n h))
  · exact .inl (.inr ⟨o, x _ _ n h⟩)
  · exact .inr h
theorem But.tup {K : PySem.W.Frag} {b a : Addr} {H H1 : Hp} {xs : List V} (x : But b H H1) (n : a ≠ b) (h : SqT K H a xs) : SqT K H1 a xs := by
  rcases h with (h | ⟨o, h⟩) | h
  · exact .inl (.inl (x _ _ n h))
  · exact .inl (.inr ⟨o, x _ _ n h⟩)
  · exact .inr h
theorem Bag.new {b p : Addr} {H : Hp} {o : HO} (x : Bag H b) (hp : H p = none) : Bag (upd H p o) b := by
  obtain ⟨x, y, h, h0, h1⟩ := x
  exact ⟨x, y, by rw [upd_ne (ne_of_none h hp)]; exact h, h0, h1⟩
theorem Bag.ne {b p : Addr} {H : Hp} (x : Bag H b) (hp : H p = none) : b ≠ p := by
  obtain ⟨x, y, h, _, _⟩ := x
  exact ne_of_none h hp
def spTake : Sp := fun vs H Q _ => ∃ (b : Addr) (m : Int), vs = [.ref b, .int m] ∧ Bag H b ∧ 0 < m ∧ m < 1073741824 ∧ ∀ (d : Int) (H' : Hp), 0 ≤ d → d < m → But b H H' → Bag H' b → Q (.int d) H'
/-- some[draw]: one of the items of a list -/
def spOf (K : PySem.W.Frag) : Sp := fun vs H Q _ => ∃ (b l : Addr) (xs : List V), vs = [.ref b, .ref l] ∧ Bag H b ∧ l ≠ b ∧ SqL K H l xs ∧ xs ≠ [] ∧ xs.length < 1000000 ∧ ∀ (v : V) (H' : Hp), v ∈ xs → But b H H' → Bag H' b → Q v H'
def spBag (K : PySem.W.Frag) : Sp := fun vs H Q _ => ∃ (a : Addr) (ns : List Int) (n : Nat), vs = [.ref a, .int n] ∧ SqL K H a (ns.map V.int) ∧ ns.length ≤ 63 ∧ n ≤ 63 ∧ ∀ (b : Addr) (H' : Hp), Same H H' → H b = none → Bag H' b → Q (.ref b) H'
theorem mem_cut {xs : List V} {lo hi : Option Int} {x : V} (h : x ∈ cutV xs lo hi) : x ∈ xs := by
  unfold cutV at h
  exact List.mem_of_mem_drop (List.mem_of_mem_take h)
theorem int_of_mem {ns : List Int} {x : V} (h : x ∈ ns.map V.int) : ∃ u, x = V.int u := by
  obtain ⟨u, _, e⟩ := List.mem_map.mp h
  exact ⟨u, e.symm⟩
theorem same_new {p : Addr} {H H1 : Hp} {o : HO} (x : Same H H1) (hp : H1 p = none) : Same H (upd H1 p o) := fun a u h => by
  have q := x a u h
  rw [upd_ne (ne_of_none q hp)]
  exact q
theorem same_newH {p : Addr} {H : Hp} {o : HO} (hp : H p = none) : Same H (upd H p o) := same_new (Same.refl H) hp
theorem len_ints {ns : List Int} : (ns.map V.int).length = ns.length := List.length_map ..
/-- two ways to one value: what is to be shown behind is shown once -/
theorem pick {α : Type} {P : α → Prop} {G : Prop} (main : (∀ c, P c) → G) (rest : ∀ c, P c) : G := main rest
theorem pickP {α : Type} (R : α → Prop) {P : α → Prop} {G : Prop} (main : (∀ c, R c → P c) → G) (rest : ∀ c, R c → P c) : G := main rest
theorem abs_nn (i : Int) : 0 ≤ (if i < 0 then -i else i) := by
  split <;> omega
/-! ### kinds of values -/
inductive Kd where
  | non | bl | int | str | lst | tup
  deriving DecidableEq
def Kd.nm : Kd → String
  | .non => "NoneType"
  | .bl => "bool"
  | .int => "int"
  | .str => "str"
  | .lst => "list"
  | .tup => "tuple"
def kdO : Option HO → Option Kd
  | some (.lst _) => some .lst
  | some (.tup _) => some .tup
  | _ => none
def kd (H : Hp) : V → Option Kd
  | .non => some .non
  | .bl _ => some .bl
  | .int _ => some .int
  | .str _ => some .str
  | .ref a => kdO (H a)
  | _ => none
theorem kdO_lst {o : Option HO} (h : kdO o = some .lst) : ∃ xs, o = some (.lst xs) := by
  unfold kdO at h
  split at h
  · exact ⟨_, rfl⟩
  · cases h
  · cases h
theorem kdO_tup {o : Option HO} (h : kdO o = some .tup) : ∃ xs, o = some (.tup xs) := by
  unfold kdO at h
  split at h
  · cases h
  · exact ⟨_, rfl⟩
  · cases h
theorem kdO_or {o : Option HO} {t : Kd} (h : kdO o = some t) : t = .lst ∨ t = .tup := by
  unfold kdO at h
  split at h
  · cases h; exact .inl rfl
  · cases h; exact .inr rfl
  · cases h
theorem kd_ok {K : PySem.W.Frag} {H : Hp} {v : V} {t : Kd} (h : kd H v = some t) : TyX K H v (.type t.nm) := by
  cases v with
  | non => cases h; exact .base .non
  | bl b => cases h; exact .base (.bl b)
  | int i => cases h; exact .base (.int i)
  | str z => cases h; exact .base (.str z)
  | ref a =>
    have h1 : kdO (H a) = some t := h
    rcases kdO_or h1 with e | e <;> subst e
    · obtain ⟨xs, e⟩ := kdO_lst h1
      exact .base (.lst e)
    · obtain ⟨xs, e⟩ := kdO_tup h1
      exact .base (.tup e)
  | _ => cases h
theorem kd_lst {H : Hp} {a : Addr} {xs : List V} (h : H a = some (.lst xs)) : kd H (.ref a) = some .lst := by
  show kdO (H a) = _
  rw [h] <;> rfl
theorem kd_tup {H : Hp} {a : Addr} {xs : List V} (h : H a = some (.tup xs)) : kd H (.ref a) = some .tup := by
  show kdO (H a) = _
  rw [h] <;> rfl
theorem kd_but {H H' : Hp} {b : Addr} {v : V} {t : Kd} (h : kd H v = some t) (x : But b H H') (n : v ≠ .ref b) : kd H' v = some t := by
  cases v with
  | ref a =>
    have na : a ≠ b := fun e => n (by rw [e])
    have h1 : kdO (H a) = some t := h
    rcases kdO_or h1 with e | e <;> subst e
    · obtain ⟨xs, e⟩ := kdO_lst h1
      exact kd_lst (x _ _ na e)
    · obtain ⟨xs, e⟩ := kdO_tup h1
      exact kd_tup (x _ _ na e)
  | _ => exact h
theorem kd_same {H H' : Hp} {v : V} {t : Kd} (h : kd H v = some t) (x : Same H H') : kd H' v = some t := by
  cases v with
  | ref a =>
    have h1 : kdO (H a) = some t := h
    rcases kdO_or h1 with e | e <;> subst e
    · obtain ⟨xs, e⟩ := kdO_lst h1
      exact kd_lst (x _ _ e)
    · obtain ⟨xs, e⟩ := kdO_tup h1
      exact kd_tup (x _ _ e)
  | _ => exact h
def isIntV : V → Bool
  | .int _ => true
  | _ => false
theorem kit_int {K : PySem.W.Frag} (t : Kd) : PySem.W.kitOne K (.type t.nm) (.type "int") = some (decide (t = .int) || decide (t = .bl)) := by
  cases t <;> exact kit_ty (by decide +kernel)
theorem kit_bool {K : PySem.W.Frag} (t : Kd) : PySem.W.kitOne K (.type t.nm) (.type "bool") = some (decide (t = .bl)) := by
  cases t <;> exact kit_ty (by decide +kernel)
theorem kit_str {K : PySem.W.Frag} (t : Kd) : PySem.W.kitOne K (.type t.nm) (.type "str") = some (decide (t = .str)) := by
  cases t <;> exact kit_ty (by decide +kernel)
theorem kit_tuple {K : PySem.W.Frag} (t : Kd) : PySem.W.kitOne K (.type t.nm) (.type "tuple") = some (decide (t = .tup)) := by
  cases t <;> exact kit_ty (by decide +kernel)
theorem kit_list {K : PySem.W.Frag} (t : Kd) : PySem.W.kitOne K (.type t.nm) (.type "list") = some (decide (t = .lst)) := by
  cases t <;> exact kit_ty (by decide +kernel)
theorem kit_dict {K : PySem.W.Frag} (t : Kd) : PySem.W.kitOne K (.type t.nm) (.type "dict") = some false := by
  cases t <;> exact kit_ty (by decide +kernel)
theorem kd_isInt {H : Hp} {v : V} {t : Kd} (h : kd H v = some t) : isIntV v = decide (t = .int) := by
  cases v with
  | ref a => rcases kdO_or (show kdO (H a) = some t from h) with e | e <;> subst e <;> rfl
  | _ => cases h <;> rfl
theorem kd_str {H : Hp} {v : V} (h : kd H v = some .str) : ∃ z, v = .str z := by
  cases v with
  | str z => exact ⟨z, rfl⟩
  | ref a => rcases kdO_or (show kdO (H a) = some .str from h) with e | e <;> cases e
  | _ => cases h
theorem kd_tuple {H : Hp} {v : V} (h : kd H v = some .tup) : ∃ a xs, v = .ref a ∧ H a = some (.tup xs) := by
  cases v with
  | ref a =>
    obtain ⟨xs, e⟩ := kdO_tup (show kdO (H a) = some .tup from h)
    exact ⟨a, xs, rfl, e⟩
  | _ => cases h
theorem int_not_bool {H : Hp} {v : V} {t : Kd} (h : kd H v = some t) : ((decide (t = .int) || decide (t = .bl)) && !decide (t = .bl)) = isIntV v := by
  rw [kd_isInt h]
  cases t <;> rfl
/-- is_integer -/
def spIsInt : Sp := fun vs H Q _ => ∃ (v : V) (t : Kd), vs = [v] ∧ kd H v = some t ∧ Q (.bl (isIntV v)) H
theorem take_snoc {α : Type} {xs : List α} {i : Nat} {x : α} (h : xs[i]? = some x) : xs.take (i + 1) = xs.take i ++ [x] := by
  rw [List.take_succ, h] <;> rfl
theorem map_take_snoc {α β : Type} {xs : List α} {i : Nat} {x : α} (f : α → β) (h : xs[i]? = some x) : (xs.take (i + 1)).map f = (xs.take i).map f ++ [f x] := by
  rw [take_snoc h, List.map_append] <;> rfl
/-- a value whose kind is known, a tuple's items too -/
def Known (H : Hp) (v : V) : Prop := (∃ t, kd H v = some t) ∧ ∀ a xs, v = .ref a → H a = some (.tup xs) → xs.length ≤ 1000 ∧ ∀ x ∈ xs, ∃ t, kd H x = some t
def rowO : Option HO → Int → Bool
  | some (.tup xs), m => decide ((xs.length : Int) = m) && xs.all isIntV
  | _, _ => false
/-- a tuple of m integers -/
def rowB (H : Hp) (v : V) (m : Int) : Bool := match v with
  | .ref a => rowO (H a) m
  | _ => false
theorem rowB_tup {H : Hp} {a : Addr} {xs : List V} {m : Int} (h : H a = some (.tup xs)) : rowB H (.ref a) m = (decide ((xs.length : Int) = m) && xs.all isIntV) := by
  show rowO (H a) m = _
  rw [h] <;> rfl
theorem rowB_not {H : Hp} {v : V} {t : Kd} {m : Int} (h : kd H v = some t) (n : t ≠ .tup) : rowB H v m = false := by
  cases v with
  | ref a =>
    rcases kdO_or (show kdO (H a) = some t from h) with e | e <;> subst e
    · obtain ⟨xs, e⟩ := kdO_lst (show kdO (H a) = some .lst from h)
      show rowO (H a) m = false
      rw [e] <;> rfl
    · exact absurd rfl n
  | _ => rfl
def spIsRow : Sp := fun vs H Q _ => ∃ (v : V) (m : Int), vs = [v, .int m] ∧ Known H v ∧ ∀ H', Same H H' → Q (.bl (rowB H v m)) H'
theorem all_id_map {α : Type} (xs : List α) (f : α → Bool) : (xs.map f).all id = xs.all f := by
  rw [List.all_map] <;> rfl
def spNumber : Sp := fun vs H Q _ => ∃ (b : Addr), vs = [.ref b] ∧ Bag H b ∧ ∀ (n : Int) (H' : Hp), But b H H' → Bag H' b → Q (.int n) H'
/-! ### words -/
def keptL : List Str := ["def", "if", "else", "for", "in", "break", "skip", "refuse", "take", "guard", "blank", "every", "none", "any", "all", "pick", "given", "or", "and", "not", "true", "false", "self"]
def lowB (c : Nat) : Bool := decide (97 ≤ c) && decide (c ≤ 122)
def wordB (z : Str) : Bool := !(inV (.str z) (keptL.map V.str)) && ((decide ((1 : Int) ≤ (z.length : Nat)) && decide (((z.length : Nat) : Int) ≤ 8)) && z.cps.toList.all lowB)
def wordV : V → Bool
  | .str z => wordB z
  | _ => false
theorem wordV_not {H : Hp} {v : V} {t : Kd} (h : kd H v = some t) (n : t ≠ .str) : wordV v = false := by
  cases v with
  | str z => cases h; exact absurd rfl n
  | _ => rfl
theorem le_sign (c d : Nat) : (!decide (([c] : List Nat) < [d])) = decide (d ≤ c) := by
  have h : (([c] : List Nat) < [d]) ↔ c < d := by
    rw [List.cons_lt_cons_iff]
    constructor
    · rintro (h | ⟨_, h⟩)
      · exact h
      · exact absurd h (by decide)
    · exact fun h => .inl h
  by_cases q : d ≤ c
  · rw [decide_eq_true q, decide_eq_false (fun z => absurd (h.mp z) (by omega))] <;> rfl
  · rw [decide_eq_false q, decide_eq_true (h.mpr (by omega))] <;> rfl
theorem flat_strs (l : List Str) : (l.map V.str).all flatV = true := by
  rw [List.all_map]
  exact List.all_eq_true.mpr fun _ _ => rfl
/-- is_word -/
def spIsWord : Sp := fun vs H Q _ => ∃ (v : V) (t : Kd), vs = [v] ∧ kd H v = some t ∧ (∀ z, v = .str z → z.length ≤ 1000) ∧ ∀ H', Same H H' → Q (.bl (wordV v)) H'
/-! ### the first wrong entry -/
def badFrom (pre : List V) : List V → Option Nat
  | [] => none
  | x :: r => if (!(wordV x) || inV x pre) = true then some pre.length else badFrom (pre ++ [x]) r
def dueV (xs : List V) : V :=
  if (decide ((1 : Int) ≤ (xs.length : Nat)) && decide (((xs.length : Nat) : Int) ≤ 3)) = true then (match badFrom [] xs with
    | some i => .int (i : Nat)
    | none => .non)
  else .int (-1)
theorem cut_take (xs : List V) (i : Nat) : cutV xs none (some (i : Int)) = xs.take i := by
  unfold cutV
  rw [HT.sIx_none, HT.sIx_nat, List.drop_zero, Nat.sub_zero, ← List.take_eq_take_min] 
theorem word_str {x : V} (h : wordV x = true) : ∃ z, x = .str z ∧ wordB z = true := by
  cases x with
  | str z => exact ⟨z, rfl, h⟩
  | _ => cases h
theorem word_flat {x : V} (h : wordV x = true) : flatV x = true := by
  obtain ⟨z, rfl, _⟩ := word_str h
  rfl
/-- items that a word's test may meet -/
def Ent (H : Hp) (x : V) : Prop := ∃ t, kd H x = some t ∧ ∀ z, x = .str z → z.length ≤ 1000
theorem Ent.same {H H' : Hp} {x : V} (e : Ent H x) (s : Same H H') : Ent H' x := by
  obtain ⟨t, h, l⟩ := e
  exact ⟨t, kd_same h s, l⟩
def spFirstBad (K : PySem.W.Frag) : Sp := fun vs H Q _ => ∃ (a : Addr) (xs : List V), vs = [.ref a] ∧ SqL K H a xs ∧ xs.length ≤ 1000 ∧ (∀ x ∈ xs, Ent H x) ∧ ∀ H', Same H H' → Q (dueV xs) H'
/-! ### tables -/
/-- a table at p with the columns xs -/
def TabAt (H : Hp) (C p : Addr) (xs : List V) : Prop := ∃ dx t, H p = some (.ins C dx [("columns", .ref t)]) ∧ H t = some (.tup xs)
theorem TabAt.same {H H' : Hp} {C p : Addr} {xs : List V} (h : TabAt H C p xs) (e : Same H H') : TabAt H' C p xs := by
  obtain ⟨dx, t, h1, h2⟩ := h
  exact ⟨dx, t, e _ _ h1, e _ _ h2⟩
theorem TabAt.but {H H' : Hp} {C p b : Addr} {xs : List V} (h : TabAt H C p xs) (e : But b H H') (hb : Bag H b) : TabAt H' C p xs := by
  obtain ⟨dx, t, h1, h2⟩ := h
  obtain ⟨x, y, h3, _⟩ := hb
  exact ⟨dx, t, e _ _ (ne_of h1 h3 (by intro q; cases q)) h1, e _ _ (ne_of h2 h3 (by intro q; cases q)) h2⟩
/-- Table(list), a right one -/
def spTable (K : PySem.W.Frag) (C : Addr) : Sp := fun vs H Q _ => ∃ (p a dx : Addr) (xs : List V), vs = [.ref p, .ref a] ∧ H p = some (.ins C dx []) ∧ SqL K H a xs ∧ xs.length ≤ 1000 ∧ (∀ x ∈ xs, Ent H x) ∧ dueV xs = .non ∧
  ∀ H', But p H H' → TabAt H' C p xs → Q .non H'
/-- thing in table -/
def spContains (C : Addr) : Sp := fun vs H Q _ => ∃ (p : Addr) (v : V) (xs : List V), vs = [.ref p, v] ∧ TabAt H C p xs ∧ xs.length ≤ 1000 ∧ Known H v ∧ ∀ H', Same H H' → Q (.bl (rowB H v (xs.length : Nat))) H'
/-! ### data: flat lists -/
theorem canAll_of : ∀ {ds : List PyData}, (∀ d ∈ ds, d.canLay0 = true ∧ d.depth = 0) → PyData.canLayAll0 ds = true ∧ PyData.depthAll ds = 0
  | [], _ => ⟨by simp only [PyData.canLayAll0], by simp only [PyData.depthAll]⟩
  | d :: r, h => by
    obtain ⟨h1, h2⟩ := h d (List.mem_cons_self ..)
    obtain ⟨h3, h4⟩ := canAll_of (ds := r) fun x hx => h x (List.mem_cons_of_mem _ hx)
    exact ⟨by simp only [PyData.canLayAll0, h1, h3, Bool.and_self], by simp only [PyData.depthAll, h2, h4, Nat.max_self]⟩
theorem shaped_lst {ds : List PyData} (h : ∀ d ∈ ds, d.canLay0 = true ∧ d.depth = 0) : SeqAt.shaped (.list ds) = true := by
  obtain ⟨h1, h2⟩ := canAll_of h
  unfold SeqAt.shaped
  simp only [PyData.canLay0, PyData.depth, h1, h2, Bool.true_and]
  decide
theorem shaped_tup {ds : List PyData} (h : ∀ d ∈ ds, d.canLay0 = true ∧ d.depth = 0) : SeqAt.shaped (.tuple ds) = true := by
  obtain ⟨h1, h2⟩ := canAll_of h
  unfold SeqAt.shaped
  simp only [PyData.canLay0, PyData.depth, h1, h2, Bool.true_and]
  decide
theorem int_flatD (n : Int) : (PyData.int n).canLay0 = true ∧ (PyData.int n).depth = 0 := ⟨by simp only [PyData.canLay0], by simp only [PyData.depth]⟩
theorem shaped_ints (ns : List Int) : SeqAt.shaped (.list (ns.map PyData.int)) = true := shaped_lst fun d hd => by
  obtain ⟨n, _, rfl⟩ := List.mem_map.mp hd
  exact int_flatD n
theorem shaped_nil : SeqAt.shaped (.list []) = true := shaped_lst fun _ h => by cases h
theorem dp_ints {K : PySem.W.Frag} {H : Hp} : ∀ (ns : List Int), DpAll K H (ns.map V.int) (ns.map PyData.int)
  | [] => .nil
  | n :: r => .cons (.int n) (dp_ints r)
theorem eqv_ints_nil (ns : List Int) : PyData.eqv (.list (ns.map PyData.int)) (.list []) = decide (ns = []) := by
  cases ns with
  | nil => simp [PyData.eqv, PyData.eqvAll]
  | cons n r => simp [PyData.eqv, PyData.eqvAll]
theorem pick2 {P : Option V → Hp → Prop} (R : Option V → Hp → Prop) {G : Prop} (main : (∀ o H, R o H → P o H) → G) (rest : ∀ o H, R o H → P o H) : G := main rest
def spValue : Sp := fun vs H Q _ => ∃ (b : Addr) (m : Int), vs = [.ref b, .int m] ∧ Bag H b ∧ 0 ≤ m ∧ m ≤ 3 ∧ ∀ (v : V) (H' : Hp), Known H' v → But b H H' → Bag H' b → Q v H'
theorem known_flat {H : Hp} {v : V} (h : flatV v = true) : Known H v := by
  cases v with
  | non => exact ⟨⟨_, rfl⟩, fun a xs e => by cases e⟩
  | bl b => exact ⟨⟨_, rfl⟩, fun a xs e => by cases e⟩
  | int b => exact ⟨⟨_, rfl⟩, fun a xs e => by cases e⟩
  | str b => exact ⟨⟨_, rfl⟩, fun a xs e => by cases e⟩
  | _ => cases h
theorem known_lst {H : Hp} {a : Addr} {xs : List V} (h : H a = some (.lst xs)) : Known H (.ref a) :=
  ⟨⟨_, kd_lst h⟩, fun b ys e h2 => by
    cases e
    rw [h] at h2
    cases h2⟩
theorem known_tup {H : Hp} {a : Addr} {xs : List V} (h : H a = some (.tup xs)) (hl : xs.length ≤ 1000) (hx : ∀ x ∈ xs, ∃ t, kd H x = some t) : Known H (.ref a) :=
  ⟨⟨_, kd_tup h⟩, fun b ys e h2 => by
    cases e
    rw [h] at h2
    cases h2
    exact ⟨hl, hx⟩⟩
theorem pss_cut {X : Cx} {sts : List Stmt} {t t' : TS} (h : PSs X sts t) (w : ∀ D σ H, t' D σ H → t D σ H) : PSs X sts t' := ⟨fun pins s σ H D I q => h.run pins s σ H D I (w D σ H q)⟩
theorem But.at {b : Addr} {H H' : Hp} (x : But b H H') {a : Addr} {o : HO} (hb : Bag H b) (h : H a = some o) (n : ∀ x y, o ≠ .lst [.int x, .int y]) : H' a = some o := by
  obtain ⟨x1, y1, h3, _⟩ := hb
  exact x a o (ne_of h h3 (n x1 y1)) h
theorem But.free {b p : Addr} {H H1 : Hp} (x : But b H H1) (n : p ≠ b) (h : H1 p = none) : H p = none := by
  cases e : H p with
  | none => rfl
  | some o =>
    rw [x p o n e] at h
    cases h
theorem Bag.put {b p : Addr} {H : Hp} {o : HO} (x : Bag H b) (n : b ≠ p) : Bag (upd H p o) b := by
  obtain ⟨x1, y1, h, h0, h1⟩ := x
  exact ⟨x1, y1, by rw [upd_ne n]; exact h, h0, h1⟩
theorem kd_put {H : Hp} {v : V} {t : Kd} {p : Addr} {o : HO} (h : kd H v = some t) (n : v ≠ .ref p) : kd (upd H p o) v = some t :=
  kd_but (b := p) h (But.put But.refl) n
theorem kd_new {H : Hp} {v : V} {t : Kd} {p : Addr} {o : HO} (h : kd H v = some t) (hp : H p = none) : kd (upd H p o) v = some t := kd_same h (same_newH hp)
theorem kd_ne {H : Hp} {v : V} {t : Kd} {p : Addr} (h : kd H v = some t) (hp : H p = none) : v ≠ .ref p := by
  intro e
  subst e
  have h1 : kdO (H p) = some t := h
  rw [hp] at h1
  cases h1
theorem ixN_of {n : Nat} {d : Int} (h0 : 0 ≤ d) (h1 : d < (n : Int)) : ixN n d = some d.toNat := by
  unfold ixN
  rw [if_pos h0, if_pos h1]
/-! ### t * 1 is t itself -/
theorem tuple_mul1 (l : Addr) (items : Array Value) (n : Nat) (dd : Option Addr) (sl : Array (Option Value)) (u : Tok) :
    Meets (Builtin.«tuple.__mul__» ⟨[.ref l, .int 1 u], []⟩) (fun _ R s => s.heap.get? l = some { cls := .type "tuple", dict := dd, data := .seq items n, slots := sl } ∧
      R (.ok (.ret (Value.ref l))) s) :=
  .of_wp fun prog w A R s h => by
    obtain ⟨hp, g, d, tk, os⟩ := s
    obtain ⟨hl, h⟩ := h
    have f1 := AutoSeq1.idx_int
    wp_walk using wpAny_loadPart' hl
    exact ⟨_, rfl, h⟩
def rRep1 (K : PySem.W.Frag) : R2 := fun x y H Q => ∃ l xs, x = .ref l ∧ y = .int 1 ∧ SqT K H l xs ∧ Q (.ref l) H
theorem op_rep1 {X : Cx} : OpR X (binaryOp .Mult) (rRep1 X.K) := by
  intro pins s σ H x y v u Q I rx ry h
  obtain ⟨l, xs, rfl, rfl, hT, q⟩ := h
  cases rx
  obtain ⟨t, rfl⟩ := ry
  obtain ⟨its, r, ⟨⟨cls, dd, data, sl⟩, ho, hc, n, hd⟩, hs⟩ := I.tuple hT
  simp only at hc hd
  subst hc hd
  refine wpAny_binaryOp_repeat_ref (T := "tuple") (U := "int") (by decide) ⟨_, ho, rfl⟩ (fun s' => typeIs_int s' 1 t) noFill_tuple_mul F.fills_int_mul F.slot_int_rmul repeat_tuple F.slot_int_index.lookup
    (call_meets F.slot_int_rmul (typeIs_int s 1 t) F.entry_int_rmul (F.args_int_rmul_2 _ _) (int_rmul_tuple 1 t l its.toArray n dd sl)
      ⟨ho, rfl, ⟨_, ho, rfl⟩, call_meets F.slot_tuple_mul ⟨_, ho, rfl⟩ F.entry_tuple_mul (F.args_tuple_mul_2 _ _) (tuple_mul1 l its.toArray n dd sl t) ⟨ho, ?_⟩⟩)
  exact ⟨.ref l, H, I, rfl, q⟩
theorem op_rep {X : Cx} : OpR X (binaryOp .Mult) (fun x y H Q => rRepT X.K x y H Q ∨ rRep1 X.K x y H Q) := OpR.or op_repT op_rep1
/-! ### plainer readings -/
theorem opr_imp {X : Cx} {f : Value → Value → Sem Value} {r r' : R2} (h : OpR X f r) (w : ∀ x y H Q, r' x y H Q → r x y H Q) : OpR X f r' :=
  fun pins s σ H x y v u Q I rx ry q => h pins s σ H x y v u Q I rx ry (w x y H Q q)
/-- a tuple at r, all else as it was -/
def TupTo (H : Hp) (xs : List V) (Q : VK) : Prop := ∀ (r : Addr) (H' : Hp), Same H H' → H' r = some (.tup xs) → Q (.ref r) H'
theorem TupTo.new {H : Hp} {xs : List V} {Q : VK} (h : TupTo H xs Q) : ∀ p, H p = none → Q (.ref p) (upd H p (.tup xs)) := fun p hp => h p _ (same_newH hp) upd_same
def rCatS : R2 := fun x y H Q => ∃ a b xs ys, x = .ref a ∧ y = .ref b ∧ H a = some (.tup xs) ∧ H b = some (.tup ys) ∧ xs.length + ys.length ≤ 1000 ∧ TupTo H (xs ++ ys) Q
theorem op_catS {X : Cx} : OpR X (binaryOp .Add) rCatS := opr_imp op_catA fun x y H Q h => by
  obtain ⟨a, b, xs, ys, rfl, rfl, ha, hb, hl, q⟩ := h
  refine ⟨a, b, xs, ys, rfl, rfl, SqT.of ha, SqT.of hb, Nat.le_of_lt (small1000 hl), fun e => ?_, fun _ e => ?_, fun _ _ => q.new⟩
  · exact q b H (Same.refl H) (by rw [e, List.nil_append]; exact hb)
  · exact q a H (Same.refl H) (by rw [e, List.append_nil]; exact ha)
def rRepS : R2 := fun x y H Q => ∃ l k xs, x = .ref l ∧ y = .int k ∧ H l = some (.tup xs) ∧ xs ≠ [] ∧ 1 ≤ k ∧ k ≤ 1000 ∧ xs.length ≤ 1000 ∧ TupTo H (List.replicate k.toNat xs).flatten Q
theorem op_repS {X : Cx} : OpR X (binaryOp .Mult) rRepS := opr_imp op_rep fun x y H Q h => by
  obtain ⟨l, k, xs, rfl, rfl, hl, hx, h1, h2, h3, q⟩ := h
  by_cases e : k = 1
  · subst e
    exact .inr ⟨l, xs, rfl, rfl, SqT.of hl, q l H (Same.refl H) (by simpa using hl)⟩
  · exact .inl ⟨l, k, xs, rfl, rfl, SqT.of hl, hx, by omega, h2, h3, q.new⟩
def rSlS : V → Option Int → Option Int → Hp → VK → Prop := fun x lo hi H Q => ∃ a xs, x = .ref a ∧ H a = some (.tup xs) ∧ TupTo H (cutV xs lo hi) Q
theorem cut_whole {xs : List V} {lo hi : Option Int} (h : HT.sIx xs.length 0 lo = 0 ∧ HT.sIx xs.length xs.length hi = xs.length) : cutV xs lo hi = xs := by
  unfold cutV
  rw [h.1, h.2, List.drop_zero, Nat.sub_zero, List.take_length]
theorem sl_tupS {X : Cx} : SlR X rSlS := fun pins s σ H x v vl vu lo hi sl Q I rx e1 e2 e3 q => by
  obtain ⟨a, xs, rfl, ha, t⟩ := q
  exact sl_tupA pins s σ H (.ref a) v vl vu lo hi sl Q I rx e1 e2 e3 ⟨a, xs, rfl, SqT.of ha, fun e => t a H (Same.refl H) (by rw [cut_whole e]; exact ha), fun _ => t.new⟩
theorem cut_drop (xs : List V) (i : Nat) : cutV xs (some (i : Int)) none = xs.drop i := by
  unfold cutV
  rw [HT.sIx_none, HT.sIx_nat]
  rw [List.take_of_length_le (by rw [List.length_drop]; exact Nat.le_refl _)]
  rcases Nat.le_total i xs.length with h | h
  · rw [Nat.min_eq_left h]
  · rw [Nat.min_eq_right h, List.drop_length, List.drop_of_length_le h]
/-! ### methods and makers by name -/
structure CalM (P : Program) (w : World) (K : PySem.W.Frag) (mg : Str → Option Value) (base : Heap) (CX : CXT) (k : Nat) (C : Addr) (m : Str) (f : Addr) (fd : FuncData) (ps : List Str) (sp : Sp) : Prop where
  ok : FnOk P w K mg base CX k f fd ps sp
  mt : Meth K C m f
  b : Binds K fd ps []
structure CalI (P : Program) (w : World) (K : PySem.W.Frag) (mg : Str → Option Value) (base : Heap) (CX : CXT) (k : Nat) (x : Str) (C f : Addr) (fd : FuncData) (ps : List Str) (sp : Sp) : Prop where
  ok : FnOk P w K mg base CX k f fd ps sp
  mkr : Mk K C f
  at_ : mg x = some (.ref C)
  b : Binds K fd ps []
section
variable {X : Cx} {k : Nat} {x : Str} {C f : Addr} {fd : FuncData} {ps : List Str} {sp : Sp} {e : Expr} {es : List Expr} {t : TA} {p pos : Pos}
theorem pe_mkr (c : CalI X.prog X.w X.K X.mg X.base CX0 k x C f fd ps sp) (hr : Room (k + 1) X.A) (ha : PA X (e :: es) t)
    (hg : Gl X x := by rfl) (hdb : (x == ("__debug__" : Str)) = false := by decide) (he : starEach (e :: es) X.env = (false, eval e X.env) :: starEach es X.env := by rfl) (hpl : (backTo pos (starEach es X.env)).any (·.1) = false := by rfl) :
    PE X (.Call (.Name x p) (e :: es) [] pos) (tMake C sp [] E0 t) := pe_make c.mkr c.ok hr hg c.at_ c.b .nil pass0 ha hdb he hpl
theorem op_in_cal (c : CalM X.prog X.w X.K X.mg X.base CX0 k C "__contains__" f fd ps sp) (hr : Room k X.A) : OpR X (compareOp .In) (rInOwn C false sp E0) := op_in_own c.ok c.mt c.b pass0 hr
theorem op_notIn_cal (c : CalM X.prog X.w X.K X.mg X.base CX0 k C "__contains__" f fd ps sp) (hr : Room k X.A) : OpR X (compareOp .NotIn) (rInOwn C true sp E0) := op_notIn_own c.ok c.mt c.b pass0 hr
end
theorem Known.same {H H' : Hp} {v : V} (h : Known H v) (e : Same H H') : Known H' v := by
  obtain ⟨⟨t, ht⟩, hk⟩ := h
  refine ⟨⟨t, kd_same ht e⟩, fun a xs ev ha => ?_⟩
  subst ev
  rcases kdO_or (show kdO (H a) = some t from ht) with q | q <;> subst q
  · obtain ⟨ys, q⟩ := kdO_lst (show kdO (H a) = some .lst from ht)
    rw [e _ _ q] at ha
    cases ha
  · obtain ⟨ys, q⟩ := kdO_tup (show kdO (H a) = some .tup from ht)
    rw [e _ _ q] at ha
    cases ha
    obtain ⟨h1, h2⟩ := hk a _ rfl q
    exact ⟨h1, fun x hx => let ⟨t, ht⟩ := h2 x hx; ⟨t, kd_same ht e⟩⟩
theorem rowB_same {H H' : Hp} {v : V} {m : Int} (h : Known H v) (e : Same H H') : rowB H' v m = rowB H v m := by
  obtain ⟨⟨t, ht⟩, _⟩ := h
  by_cases q : t = .tup
  · subst q
    obtain ⟨a, xs, rfl, ha⟩ := kd_tuple ht
    rw [rowB_tup ha, rowB_tup (e _ _ ha)]
  · rw [rowB_not ht q, rowB_not (kd_same ht e) q]
theorem But.to_same {b : Addr} {H H1 H2 : Hp} (s : Same H H1) (x : But b H1 H2) (hb : H b = none) : Same H H2 := fun a o h => x a o (ne_of_none h hb) (s a o h)
theorem Bag.same {b : Addr} {H H' : Hp} (x : Bag H b) (e : Same H H') : Bag H' b := by
  obtain ⟨x, y, h, h0, h1⟩ := x
  exact ⟨x, y, e _ _ h, h0, h1⟩
theorem kd_flat {H : Hp} {v : V} (h : flatV v = true) : ∃ t, kd H v = some t := (known_flat h).1
theorem known_tupF {H : Hp} {a : Addr} {xs : List V} (h : H a = some (.tup xs)) (hl : xs.length ≤ 1000) (hx : ∀ x ∈ xs, flatV x = true) : Known H (.ref a) := known_tup h hl fun x q => kd_flat (hx x q)
theorem cut_len (xs : List V) (lo hi : Option Int) : (cutV xs lo hi).length ≤ xs.length := by
  unfold cutV
  rw [List.length_take, List.length_drop]
  omega
theorem rep_flat {x : V} (n : Nat) : (List.replicate n [x]).flatten = List.replicate n x := by
  induction n with
  | zero => rfl
  | succ n ih => rw [List.replicate_succ, List.flatten_cons, ih, List.replicate_succ] <;> rfl
theorem rowB_bad {H : Hp} {a : Addr} {xs : List V} {m : Int} (h : H a = some (.tup xs)) (hx : ∃ x ∈ xs, isIntV x = false) : rowB H (.ref a) m = false := by
  rw [rowB_tup h]
  obtain ⟨x, h1, h2⟩ := hx
  have e : xs.all isIntV = false := by
    rw [List.all_eq_false]
    exact ⟨x, h1, by rw [h2]; decide⟩
  rw [e, Bool.and_false]
theorem rowB_len {H : Hp} {a : Addr} {xs : List V} {m : Int} (h : H a = some (.tup xs)) (hx : (xs.length : Int) ≠ m) : rowB H (.ref a) m = false := by
  rw [rowB_tup h, decide_eq_false hx, Bool.false_and]
end Own

namespace Own
open PySem PySem.Spec PyProof.Rows L2
section
variable {X : Cx} {n : Nat} {CX : CXT} {C f : Addr} {fd : FuncData} {ps : List Str} {sp : Sp} {E : XK}
/-- the callee runs, some units deeper -/
theorem run_at {A : Around} (sb : Sub X n A) (F : FnOk X.prog X.w X.K X.mg X.base CX n f fd ps sp) (hb : Binds X.K fd ps []) (hx : Passes CX X E)
    {pins : List (Addr × Obj)} {s : Shared} {σ : L2.St} {H : Hp} {vs : List V} {us : List Value} {Q : V → Hp → Prop} (I : Inv X pins σ H s) (r : Vals vs us) (hsp : sp vs H Q E) :
    wpAny (model X.prog X.w) A (call (.ref f) us) (EP X pins σ Q) X.xe s := by
  have hl : (us ++ ([] : List Value)).length = ps.length := by
    rw [List.append_nil, ← r.length]
    exact F.len _ _ _ _ hsp
  have bt := hb s us I.kIn hl
  rw [List.append_nil] at bt
  obtain ⟨h0, h1, h2, h3, h4, h5, h6, h7⟩ := I.env0
  refine wpAny_call (codeAny_mono (F.run A X.stack s H ⟨us, []⟩ us vs Q E sb.room ⟨sb.fr.trans h0, h1, h2, h3, h4, h5, h6, h7⟩ bt r hsp) fun z s' hq => ?_)
  match z, hq with
  | .error e, hq => exact hx pins σ H s e s' I hq
  | .ok (.ret u), hq => exact I.after hq
theorem sub_of {A : Around} (hr : Room n X.A) : Sub X n X.A := ⟨hr, rfl⟩
/-- what stands at an instance -/
theorem inst_at {pins : List (Addr × Obj)} {s : Shared} {σ : L2.St} {H : Hp} {a dx : Addr} {fs : List (Str × V)} (I : Inv X pins σ H s) (ha : H a = some (.ins C dx fs)) : ∃ od, PySem.W.InstAt s.heap a (PySem.W.instObj C dx) C (some od) := by
  obtain ⟨mA, J, _⟩ := ins_get I.hok ha
  obtain ⟨od, J, _⟩ := J.look
  exact ⟨od, J⟩
def rLenOwn (C : Addr) (sp : Sp) (E : XK) : List V → Hp → VK → Prop := fun xs H Q => ∃ a dx fs, xs = [.ref a] ∧ H a = some (.ins C dx fs) ∧ sp [.ref a] H (fun v H' => ∃ k : Nat, v = .int k ∧ k < 1000000 ∧ Q (.int k) H') E
theorem call_len_own (Fn : FnOk X.prog X.w X.K X.mg X.base CX n f fd ps sp) (hm : Meth X.K C "__len__" f) (hb : Binds X.K fd ps []) (hx : Passes CX X E) (hr : Room (n + 1) X.A) : CallR X (.builtin "len") (rLenOwn C sp E) := by
  intro pins s σ H xs us Q I r h
  obtain ⟨a, dx, fs, rfl, ha, q⟩ := h
  obtain ⟨od, J⟩ := inst_at I ha
  obtain ⟨m, hF⟩ := I.fr
  match us, r with
  | [u], .cons ru .nil =>
    cases ru
    refine PySem.W.len_K hF I.ok.mod.kin J hm.at_ hm.fn ?_
    refine thn (run_at (A := X.A.in1) ⟨hr.in1, rfl⟩ Fn hb hx I (show Vals [V.ref a] [Value.ref a] from .cons rfl .nil) q) fun v s1 ⟨z, H1, I1, rz, k, ez, hk, q1⟩ => ?_
    subst ez
    obtain ⟨t, rfl⟩ := rz
    show (0 ≤ (k : Int) ∧ (k : Int) < 2 ^ 63) ∧ _
    exact ⟨⟨by omega, by omega⟩, .int k, H1, I1.tok _, ⟨_, rfl⟩, q1⟩
def rReprOwn (C : Addr) (sp : Sp) (E : XK) : List V → Hp → VK → Prop := fun xs H Q => ∃ a dx fs, xs = [.ref a] ∧ H a = some (.ins C dx fs) ∧ sp [.ref a] H (fun v H' => ∃ z : Str, v = .str z ∧ Q (.str z) H') E
theorem call_repr_own (Fn : FnOk X.prog X.w X.K X.mg X.base CX n f fd ps sp) (hm : Meth X.K C "__repr__" f) (hb : Binds X.K fd ps []) (hx : Passes CX X E) (hr : Room (n + 1) X.A) : CallR X (.builtin "repr") (rReprOwn C sp E) := by
  intro pins s σ H xs us Q I r h
  obtain ⟨a, dx, fs, rfl, ha, q⟩ := h
  obtain ⟨od, J⟩ := inst_at I ha
  obtain ⟨m, hF⟩ := I.fr
  match us, r with
  | [u], .cons ru .nil =>
    cases ru
    refine PySem.W.repr_K hr.in1.units0 hF I.ok.mod.kin J hm.at_ hm.fn ?_
    refine thn (run_at (A := X.A.in1) ⟨hr.in1, rfl⟩ Fn hb hx I (show Vals [V.ref a] [Value.ref a] from .cons rfl .nil) q) fun v s1 ⟨z, H1, I1, rz, k, ez, q1⟩ => ?_
    subst ez
    obtain ⟨t, rfl⟩ := rz
    exact ⟨.str k, H1, I1, ⟨_, rfl⟩, q1⟩
/-- x == y by x's own __eq__; y of a class that does not come first -/
def rEqOwn (K : PySem.W.Frag) (C : Addr) (neg : Bool) (sp : Sp) (E : XK) : R2 := fun x y H Q => ∃ a dx fs t, x = .ref a ∧ H a = some (.ins C dx fs) ∧ TyX K H y t ∧ PySem.W.notFirst K C t = true ∧
  sp [.ref a, y] H (fun v H' => ∃ b, v = .bl b ∧ Q (.bl (if neg then !b else b)) H') E
theorem op_eq_own (Fn : FnOk X.prog X.w X.K X.mg X.base CX n f fd ps sp) (hm : Meth X.K C "__eq__" f) (hb : Binds X.K fd ps []) (hx : Passes CX X E) (hr : Room n X.A) : OpR X (compareOp .Eq) (rEqOwn X.K C false sp E) := by
  intro pins s σ H x y v u Q I rx ry h
  obtain ⟨a, dx, fs, t, rfl, ha, ty, nf, q⟩ := h
  cases rx
  obtain ⟨od, J⟩ := inst_at I ha
  obtain ⟨m, hF⟩ := I.fr
  obtain ⟨Pd, Z, pz, _⟩ := kit_of I ry ty
  refine PySem.W.cmp_K (op := .Eq) hr.units0 hF I.ok.mod.kin J (Z.ty _ _ I.kIn pz) nf hm.at_ hm.fn ?_
  refine thn (run_at ⟨hr, rfl⟩ Fn hb hx I (show Vals [V.ref a, y] [Value.ref a, u] from .cons rfl (.cons ry .nil)) q) fun w s1 ⟨z, H1, I1, rz, k, ez, q1⟩ => ?_
  subst ez
  cases rz
  exact ⟨.bl k, H1, I1, rfl, q1⟩
open Builtin in
theorem op_ne_own (Fn : FnOk X.prog X.w X.K X.mg X.base CX n f fd ps sp) (hm : Meth X.K C "__eq__" f) (hn : PySem.W.findIn X.K (.ref C) "__ne__" = some (some (.builtin "object.__ne__"))) (ho : PySem.W.mroIn X.K C (.type "object") = some true)
    (hb : Binds X.K fd ps []) (hx : Passes CX X E) (hr : Room (n + 1) X.A) : OpR X (compareOp .NotEq) (rEqOwn X.K C true sp E) := by
  intro pins s σ H x y v u Q I rx ry h
  obtain ⟨a, dx, fs, t, rfl, ha, ty, nf, q⟩ := h
  cases rx
  obtain ⟨od, J⟩ := inst_at I ha
  obtain ⟨Pd, Z, pz, _⟩ := kit_of I ry ty
  have hK := I.kIn
  have core : wpAny (model X.prog X.w) X.A (tryCompare (.ref a) "__ne__" u) (fun r s' => ∃ w, r = some w ∧ EP X pins σ Q w s') X.xe s := by
    unfold tryCompare
    refine wpAny_bind ?_
    simp only [callSpecialIfBound?, bindSpecialIfBound?]
    refine wpAny_holding (wpAny_bind (wpAny_bind (wpAny_bind (J.type.here ((PySem.W.looks_findIn hK hn).here ?_)))))
    refine wpAny_bind (wpAny_askSetting (wpAny_ite ?_))
    have hbs : bindSpecial (.builtin "object.__ne__") (.ref a) = pure (.builtin "object.__ne__", [.ref a]) := F.cmp_object.ne.bind _
    have fin : wpAny (model X.prog X.w) X.A (call (.builtin "object.__ne__") [.ref a, u]) (fun v s' => ∃ b, v = .bool b ∧ EP X pins σ Q (.bool b) s') X.xe s := by
      refine wpAny_call (codeAny_call_builtin F.cmp_object.ne.plain F.cmpEntry_ne (PySem.W.check_slot (i := "object.__ne__") (owner := "object") (n := "__ne__") F.cmpKind_ne F.cmpSplit_ne (J.type.andThen (PySem.W.looks_mroIn hK ho)) (F.cmpArgs_ne _ _) ?_))
      unfold Builtin.«object.__ne__»
      refine wpAny_bind (m := slotArgs "__ne__" 1 _) (wpAny_pure ?_)
      refine wpAny_bind (m := cRoomFor _ _) (wpAny_cRoomFor hr.in1.units0 ?_)
      refine wpAny_bind (m := callSpecialIfBound? (.ref a) (Str.ofString "__eq__") _) (PySem.W.ifBound_K hK J hm.at_ hm.fn ?_)
      refine thn (run_at (A := X.A.in1) ⟨hr.in1, rfl⟩ Fn hb hx I (show Vals [V.ref a, y] [Value.ref a, u] from .cons rfl (.cons ry .nil)) q) fun w s1 ⟨z, H1, I1, rz, k, ez, q1⟩ => ?_
      subst ez
      cases rz
      show wpAny _ _ (do ret (.bool (!(← truthy (.bool k))))) _ _ _
      refine wpAny_bind (wpAny_pure ?_)
      exact wpAny_pure ⟨!k, rfl, .bl (!k), H1, I1, rfl, q1⟩
    have cont : ∀ (v : Value) (s' : Shared), (∃ b, v = .bool b ∧ EP X pins σ Q (.bool b) s') → wpAny (model X.prog X.w) X.A (match (some v : Option Value) with
        | some .notImplemented => pure none
        | none => pure none
        | some r => pure (some r) : Sem (Option Value)) (fun r s' => ∃ w, r = some w ∧ EP X pins σ Q w s') X.xe s' := fun v s' ⟨b, e, z⟩ => by
      subst e
      exact wpAny_pure ⟨_, rfl, z⟩
    split
    · refine wpAny_bind ((PySem.W.Looks.of_pure hbs).here (wpAny_pure ?_))
      exact wpAny_bind (wpAny_mono fin (fun v s' z => wpAny_pure (cont v s' z)) fun _ _ e => e)
    · refine wpAny_tryCatch (wpAny_bind ((PySem.W.Looks.of_pure hbs).here (wpAny_pure ?_)))
      exact wpAny_bind (wpAny_mono fin (fun v s' z => wpAny_pure (cont v s' z)) fun _ _ e => e)
  show wpAny (model X.prog X.w) X.A (richCompare .NotEq (.ref a) u) _ _ _
  unfold richCompare
  simp only [oneThing_ref]
  refine wpAny_holding (wpAny_bind (wpAny_cRoomFor hr.units0 ?_))
  refine wpAny_bind (J.type.here (wpAny_bind ((Z.ty _ _ hK pz).here ?_)))
  have last : wpAny (model X.prog X.w) X.A (tryCompare (.ref a) (cmpInfo CmpOp.NotEq).2.fst u) (fun r s' => ∃ w, r = some w ∧ EP X pins σ Q w s') X.xe s := core
  have key : (Value.ref C != t) = true → PySem.W.subIn X.K t (.ref C) = some false := fun z => by
    rcases Bool.or_eq_true_iff.mp nf with g | g
    · have g1 := eq_of_beq g
      rw [g1, bne_self_eq_false] at z
      cases z
    · exact eq_of_beq g
  by_cases z : (Value.ref C != t) = true
  · rw [if_pos z]
    refine wpAny_bind ((PySem.W.looks_subIn hK (key z)).here ?_)
    simp only [Bool.false_eq_true, if_false]
    refine wpAny_bind (thn last fun r s2 ⟨w, e, g⟩ => ?_)
    subst e
    exact wpAny_pure g
  · rw [if_neg z]
    refine wpAny_bind (wpAny_pure ?_)
    simp only [Bool.false_eq_true, if_false]
    refine wpAny_bind (thn last fun r s2 ⟨w, e, g⟩ => ?_)
    subst e
    exact wpAny_pure g
end
/-! ### enumerate of a tuple -/
/-- the tuple at a, its items in new pairs -/
def IteT (K : PySem.W.Frag) (a : Addr) : It where
  go := fun i H => ∃ (xs : List V) (x : V), SqT K H a xs ∧ xs[i]? = some x
  yld := fun i H v H' => ∃ T x, v = .ref T ∧ H T = none ∧ H' = upd H T (.tup [.int (i : Nat), x]) ∧ ∀ xs, SqT K H a xs → xs[i]? = some x
  stop := fun i H => ∃ xs : List V, SqT K H a xs ∧ xs.length = i
theorem apart_iter {h : Heap} {a it : Addr} {i : Nat} {its : Array Value} (t : h.IsTuple a its) (x : h.IsTupleIter it a i) : a ≠ it := by
  intro e
  subst e
  obtain ⟨o, h1, _, n, h2⟩ := t
  obtain ⟨o', h3, _, h4⟩ := x
  rw [h1] at h3
  cases h3
  rw [h2] at h4
  cases h4
theorem turn_enumT {P : Program} {w : World} {K : PySem.W.Frag} {elts : List Expr} {kk : Nat} {tpos : Pos} (a e it : Addr) :
    Turn P w K (.Tuple elts kk tpos) (IteT K a) [e, it] e (fun i h => (∃ old, IsEnum h e it ((i : Nat) : Int) old) ∧ h.IsTupleIter it a i ∧ e ≠ it ∧ e ≠ a) where
  mem := List.mem_cons_self ..
  obj := fun i h ⟨⟨old, he⟩, ⟨o, ho, hc, hd⟩, _⟩ b hb => by
    rcases List.mem_cons.mp hb with z | z
    · subst z
      exact ⟨_, he, nofun⟩
    · rw [List.mem_singleton.mp z]
      exact ⟨o, ho, fun v q => by rw [hd] at q; cases q⟩
  keep := fun i h h' ⟨⟨old, he⟩, hi, hne⟩ k => ⟨⟨old, k e (List.mem_cons_self ..) _ he⟩, hi.at fun o q => k it (List.mem_cons_of_mem _ (List.mem_singleton.mpr rfl)) o q, hne⟩
  item := by
    intro X hP hw hK hc i pins s σ H E I hf st hg
    subst hP hw hK
    obtain ⟨⟨old, he⟩, hit, hne, hna⟩ := st
    obtain ⟨xs, x, hq, hx⟩ := hg
    obtain ⟨its, rv, p, hz⟩ := I.tuple hq
    obtain ⟨u, hu, ru⟩ := rv.get hx
    have hT : s.heap.IsTuple a its.toArray := p
    have hlt : i < its.toArray.size := by
      have z := (List.getElem?_eq_some_iff.mp hu).1
      simpa using z
    have D := Draws.tuple (prog := X.prog) (w := X.w) (A := X.A.in1) (I.ok.hd hc) it a (apart_iter hT hit) its.toArray
    have hel : e < s.heap.objs.size := Heap.lt_size he
    have hil : it < s.heap.objs.size := by
      obtain ⟨_, q, _⟩ := hit
      exact Heap.lt_size q
    refine wpAny_pyNext_enum_itemD D he ⟨hit, hT⟩ hlt hne (by intro z; rcases List.mem_cons.mp z with z | z; exact hne z; exact hna (List.mem_singleton.mp z)) fun y h' tk hy ho st' hT' hsz hk => ?_
    have ey : y = u := by
      have z : its[i]? = some y := by simpa using hy
      rw [hu] at z
      exact (Option.some.inj z).symm
    subst ey
    refine ⟨_, rfl, wpAny_letOwnedTupleGo_enum (s := { s with heap := h', toks := tk + 1 }) ho fun h2 he2 sb => ?_⟩
    have e2 : h2.get? s.heap.objs.size = some { cls := .type "tuple", data := .seq #[.int i tk, y] } := (sb.2 _ (Nat.ne_of_gt hel)).trans hT'
    have new : ObjOk X.prog X.w (upd H s.heap.objs.size (.tup [.int (i : Nat), x])) h2 s.heap.objs.size (.tup [.int (i : Nat), x]) :=
      ⟨(by show 2 ≤ sizeLine; decide), [.int i tk, y], .cons ⟨_, rfl⟩ (.cons ru .nil), ⟨_, e2, rfl, _, rfl⟩⟩
    have I1 : Inv X pins σ (upd H s.heap.objs.size (.tup [.int (i : Nat), x])) { s with heap := h2, toks := tk + 1 } :=
      I.turnedNew (ch := [e, it]) (fun b ob hb q => by
        have n1 : b ≠ e := fun z => hb (z ▸ List.mem_cons_self ..)
        have n2 : b ≠ it := fun z => hb (z ▸ List.mem_cons_of_mem _ (List.mem_singleton.mpr rfl))
        exact (sb.2 b n1).trans (hk b ob n1 n2 q)) hf (Nat.le_refl _) new
    have e1 : ((i + 1 : Nat) : Int) = (i : Int) + 1 := by omega
    refine ⟨.ref s.heap.objs.size, _, I1, rfl, ⟨_, x, rfl, I.hok.fresh (Nat.le_refl _), rfl, fun ys hy => by rw [I.tuple_inj hy hq]; exact hx⟩, ⟨⟨y, by rw [e1]; exact he2⟩, st'.1.at fun o q => (sb.2 it (Ne.symm hne)).trans q, hne, hna⟩, fun b hb => ?_⟩
    have hbl : b < s.heap.objs.size := by
      rcases List.mem_cons.mp hb with z | z
      · rw [z]; exact hel
      · rw [List.mem_singleton.mp z]; exact hil
    rw [upd_ne (Nat.ne_of_lt hbl)]
    exact (hf b hb).1
  done := by
    intro X hP hw hK hc i pins s σ H E I hf st hg
    subst hP hw hK
    obtain ⟨⟨old, he⟩, hit, hne, hna⟩ := st
    obtain ⟨xs, hq, hx⟩ := hg
    obtain ⟨its, rv, p, hz⟩ := I.tuple hq
    obtain ⟨f0, f1, f2, f3, f4, f5⟩ := hf it (List.mem_cons_of_mem _ (List.mem_singleton.mpr rfl))
    have hT : s.heap.IsTuple a its.toArray := p
    have hn : its.toArray.size = i := by rw [List.size_toArray, ← rv.length, hx]
    have D := Draws.tuple (prog := X.prog) (w := X.w) (A := X.A.in1) (I.ok.hd hc) it a (apart_iter hT hit) its.toArray
    rw [hn] at D
    exact wpAny_pyNext_enum_endD D he ⟨hit, hT⟩ fun h' eb => ⟨rfl, I.turned (t' := s.toks) (fun b o hb q => eb b o hb q) f0 f1 f3 f4 f5⟩
  self := fun A i s Q E ⟨⟨_, he⟩, _⟩ h => wpAny_pyIter_enum he h
set_option maxHeartbeats 4000000 in
theorem enum_new1 {v : Value} {o : Obj} {G : Heap → Prop} (B : Begins v o G) :
    Meets (Builtin.«enumerate.__new__» ⟨[.type "enumerate", v], []⟩) (fun _ R s => G s.heap ∧
      R (.ok (.ret (.ref (s.heap.push o).objs.size))) { s with heap := (s.heap.push o).push { cls := .type "enumerate", data := .fields #[.none, .bool false, .ref s.heap.objs.size, rawInt 0, .none, .none] } }) :=
  .of_wp fun prog w A R s h => by
    obtain ⟨hp, g, d, tk, os⟩ := s
    obtain ⟨h1, h⟩ := h
    have hsub := sub_enumerate
    have q1 : ∀ {A' : Around} {E : Value → Shared → Prop} {Q : Value → Shared → Prop}, Q (.ref hp.objs.size) ⟨hp.push o, g, d, tk, os⟩ → wpAny (model prog w) A' (pyIter v) Q E ⟨hp, g, d, tk, os⟩ :=
      fun z => B.iter _ _ _ _ ⟨hp, g, d, tk, os⟩ _ h1 z
    wp_walk using q1
    refine wpAny_stack_any fun st => wpAny_pure ?_
    split
    · rename_i c _ _ _ _ _
      by_cases z : (c == Value.type "enumerate") = true
      · rw [z]
        wp_walk using q1
        exact ⟨_, rfl, h⟩
      · rw [Bool.not_eq_true] at z
        rw [z]
        wp_walk using q1
        exact ⟨_, rfl, h⟩
    · wp_walk using q1
      exact ⟨_, rfl, h⟩
theorem enum_made {prog : Program} {w : World} {A : Around} {E : Value → Shared → Prop} {s : Shared} {v : Value} {o : Obj} {G : Heap → Prop} {Q : Value → Shared → Prop} (B : Begins v o G) (h1 : G s.heap)
    (h : ∀ h', IsEnum h' (s.heap.objs.size + 1) s.heap.objs.size 0 .none → h'.get? s.heap.objs.size = some o → (∀ b o', s.heap.get? b = some o' → h'.get? b = some o') → Q (.ref (s.heap.objs.size + 1)) { s with heap := h' }) :
    wpAny (model prog w) A (call (.type "enumerate") [v]) Q E s := by
  refine callType_new F.called_enumerate (by decide) (F.typeCall_enumerate_1 _) (F.newCall_enumerate_1 _) (fun obj => F.args_object_init_2 obj _) F.entry_enumerate_new (enum_new1 B) ⟨h1, ?_⟩
  have hz : (s.heap.push o).objs.size = s.heap.objs.size + 1 := Heap.size_push ..
  show _ ∧ _
  rw [hz]
  have he : IsEnum ((s.heap.push o).push { cls := .type "enumerate", data := .fields #[.none, .bool false, .ref s.heap.objs.size, rawInt 0, .none, .none] }) (s.heap.objs.size + 1) s.heap.objs.size 0 .none := by
    have q := Heap.get?_push_size (s.heap.push o) (o := { cls := .type "enumerate", data := .fields #[.none, .bool false, .ref s.heap.objs.size, rawInt 0, .none, .none] }) rfl
    rw [hz] at q
    exact q
  exact ⟨⟨_, he, rfl⟩, h _ he (Heap.get?_push_of_some _ (Heap.get?_push_size _ B.free)) fun b o' x => Heap.get?_push_of_some _ (Heap.get?_push_of_some _ x)⟩
theorem walk_enumT {K : PySem.W.Frag} {a : Addr} {xs : List V} : Walk (IteT K a) xs.length (fun H => SqT K H a xs) (YPair (fun i => some (.int (i : Nat))) (fun i => xs[i]?)) := by
  refine ⟨fun i _ hi q => ⟨xs, xs[i], q, by simp [hi]⟩, fun _ q => ⟨xs, q, rfl⟩, fun i H v H' _ q y => ?_⟩
  obtain ⟨T, x, h1, h2, h3, h4⟩ := y
  exact ⟨T, .int (i : Nat), x, h1, h2, h3, rfl, h4 xs q⟩
/-- a list or a tuple -/
def SqA (K : PySem.W.Frag) (H : Hp) (a : Addr) (xs : List V) : Prop := SqL K H a xs ∨ SqT K H a xs
theorem tup_same {K : PySem.W.Frag} {a : Addr} {H H1 : Hp} {xs : List V} (x : Same H H1) (h : SqT K H a xs) : SqT K H1 a xs := by
  rcases h with (h | ⟨o, h⟩) | h
  · exact .inl (.inl (x _ _ h))
  · exact .inl (.inr ⟨o, x _ _ h⟩)
  · exact .inr h
theorem SqA.same {K : PySem.W.Frag} {a : Addr} {H H1 : Hp} {xs : List V} (h : SqA K H a xs) (x : Same H H1) : SqA K H1 a xs := h.elim (fun h => .inl (x.seq h)) fun h => .inr (tup_same x h)
/-- enumerate of a list or a tuple: for whatever walk it is -/
def iEnumA (K : PySem.W.Frag) (ta : TA) : TI := fun σ H R => ta σ H fun vs H1 => ∃ a xs, vs = [.ref a] ∧ SqA K H1 a xs ∧ ∀ J G, Walk J xs.length G (YPair (fun i => some (.int (i : Nat))) (fun i => xs[i]?)) → (∀ H', Same H1 H' → G H') → R J H1
set_option maxHeartbeats 400000 in
theorem pi_enumA {X : Cx} {e : Expr} {ta : TA} {p pos tpos : Pos} {elts : List Expr} {kk : Nat} (hg : Gl X "enumerate") (hm : X.mg "enumerate" = none) (ha : PA X [e] ta) (hs : starEach [e] X.env = [(false, eval e X.env)] := by rfl) :
    PI X (.Tuple elts kk tpos) (.Call (.Name "enumerate" p) [e] [] pos) (iEnumA X.K ta) := by
  refine ⟨fun pins s σ H R I h => ?_⟩
  refine Call_ (ld_blt I hg hm boot_enumerate (PyProof.Rows.callWith_type1 (thn (ha.run pos pins s σ H _ I h) fun us s1 ⟨vs, H1, I1, r1, q1⟩ => ?_) hs rfl))
  obtain ⟨a, xs, ex, hq⟩ := q1
  subst ex
  have fp : ∀ b ∈ [s1.heap.objs.size + 1, s1.heap.objs.size], FpOk X pins H1 b := fun b hb => by
    have hle : s1.heap.objs.size ≤ b := by
      rcases List.mem_cons.mp hb with z | z
      · rw [z]
        exact Nat.le_succ _
      · rw [List.mem_singleton.mp z]
        exact Nat.le_refl _
    exact I1.fpOk hle (I1.hok.fresh hle)
  cases r1 with
  | cons r rr =>
    cases rr
    cases r
    obtain ⟨hs, q0⟩ := hq
    rcases hs with hq | hq
    · have q := q0 (Ite X.K a) _ walk_enum (fun H' e => e.seq hq)
      obtain ⟨its, rv, p', hz⟩ := I1.list hq
      refine enum_made (begins_list a its.toArray) p'.isList fun h' he hit hk => wpAny_pyIter_enum he ?_
      exact ⟨s1.heap.objs.size + 1, [s1.heap.objs.size + 1, s1.heap.objs.size], _, _, H1, rfl, I1.kept (t' := s1.toks) hk, turn_enum a (s1.heap.objs.size + 1) s1.heap.objs.size, ⟨⟨.none, he⟩, ⟨_, hit, rfl, rfl⟩, Nat.succ_ne_self _⟩, fp, q⟩
    · have q := q0 (IteT X.K a) _ walk_enumT (fun H' e => tup_same e hq)
      obtain ⟨its, rv, p', hz⟩ := I1.tuple hq
      have hlt : a < s1.heap.objs.size := by
        obtain ⟨o, ho, _⟩ := p'
        exact Heap.lt_size ho
      have hne : s1.heap.objs.size + 1 ≠ a := Nat.ne_of_gt (Nat.lt_succ_of_lt hlt)
      refine enum_made (begins_tuple a its.toArray) p' fun h' he hit hk => wpAny_pyIter_enum he ?_
      exact ⟨s1.heap.objs.size + 1, [s1.heap.objs.size + 1, s1.heap.objs.size], _, _, H1, rfl, I1.kept (t' := s1.toks) hk, turn_enumT a (s1.heap.objs.size + 1) s1.heap.objs.size, ⟨⟨.none, he⟩, ⟨_, hit, rfl, rfl⟩, Nat.succ_ne_self _, hne⟩, fp, q⟩
end Own

namespace Own
open PySem PySem.Spec PyProof.Rows L2
section
variable {prog : Program} {w : World} {A : Around} {E : Value → Shared → Prop} {s : Shared}
/-- a list of a text: its signs -/
theorem list_str_init {R : Result → Shared → Prop} (hh : A.handled = none) (x : Str) (t : Tok) (hn : x.cps.size ≤ sizeLine) (S : Addr) (hS : s.heap.get? S = some { cls := .type "list", data := .seq #[] })
    (hR : ∀ (s' : Shared) acc' c', (∀ b o, b ≠ S → s.heap.get? b = some o → s'.heap.get? b = some o) → s'.gens = s.gens → s'.drawn = s.drawn → s'.os = s.os → s'.heap.get? S = some { cls := .type "list", dict := none, data := .seq acc' c', slots := #[] } →
      ItemsOf (SignAt x) acc' x.cps.size → R (.ok (.ret .none)) s') :
    wpAny (model prog w) A.in1 (Builtin.«list.__init__» ⟨[.ref S, .str x t], []⟩)
      (fun fin s' => match fin with | .done f => R (.ok f) s' | .again c' => c'.quiet = true ∧ codeAny (model prog w) A c' R s') (fun e s' => R (.error e) s') s := by
  show wpAny _ _ (do let old ← Builtin.List.listItems (.ref S); Builtin.List.listUpdate (.ref S) (fun _ => #[]); letGo old.toList.reverse; Builtin.List.listExtendWith (.ref S) (.str x t) .none) _ _ s
  refine wpAny_bind ?_
  unfold Builtin.List.listItems
  refine wpAny_bind (wpAny_seqItems hS rfl (wpAny_pure ?_))
  show wpAny _ _ (updateSeq S (fun _ => #[]) >>= fun _ => letGo (#[] : Array Value).toList.reverse >>= fun _ => Builtin.List.listExtendWith (.ref S) (.str x t) .none) _ _ s
  refine wpAny_bind (wpAny_updateSeq hS rfl ?_)
  have hS2 := Heap.get?_update_self (Obj.mapSeq (fun _ => (#[] : Array Value))) hS rfl
  have oth : ∀ b o, b ≠ S → s.heap.get? b = some o → (s.heap.update S (Obj.mapSeq (fun _ => (#[] : Array Value)))).get? b = some o := fun b o hb e => (Heap.get?_update_other _ _ (Ne.symm hb)).trans e
  have hlt : S < s.heap.objs.size := Heap.lt_size hS
  have hsz : (s.heap.update S (Obj.mapSeq (fun _ => (#[] : Array Value)))).objs.size = s.heap.objs.size := by first | exact Heap.size_update .. | simp
  refine wpAny_bind (wpAny_letGo ?_)
  unfold Builtin.List.listExtendWith
  refine wpAny_bind (wpAny_typeOf (T := "str") (v := .str x t) rfl ?_)
  have h1 : Builtin.List.listSameRef (.ref S) (.str x t) = false := rfl
  have h2 : (Value.type "str" == Value.type "list") = false := by decide
  have h3 : (Value.type "str" == Value.type "tuple") = false := by decide
  simp only [h1, h2, h3, Bool.or_false, Bool.false_eq_true, if_false]
  refine wpAny_bind (wpAny_pyIter_str fun o St W hst => ?_)
  refine wpAny_bind (wpAny_holding ?_)
  unfold Builtin.List.listLengthHint
  refine wpAny_bind (wpAny_specialOf (T := "str") (v := .str x t) rfl F.str_len ?_)
  wp_delta
  refine wpAny_bind (wpAny_isInstance (T := "str") (v := .str x t) (b := true) rfl (by rw [isSubtype_type]; kernel_rfl) ?_)
  show wpAny _ A.in1 (typeOf (Value.str x t) >>= _) _ _ _
  refine wpAny_bind (wpAny_typeOf (T := "str") (v := .str x t) rfl ?_)
  refine wpAny_pure ?_
  rw [if_neg (by decide)]
  generalize hH : s.heap.update S (Obj.mapSeq (fun _ => (#[] : Array Value))) = H at W hst hS2 oth hsz ⊢
  have hSf : S ∉ [H.objs.size] := fun hm => by
    have e := List.mem_singleton.mp hm
    rw [hsz] at e
    exact absurd hlt (by rw [e]; exact Nat.lt_irrefl _)
  have hS3 : (H.push o).get? S = _ := Heap.get?_push_of_some _ hS2
  refine wpAny_pure ⟨plainId_quiet F.plain_extend_loop _, codeAny_extend_loopS (W A.in1 hh).toS hn _ hSf _ x.cps.size 0 _ _ _ rfl (Nat.zero_le _) hst hS3 (ItemsOf.nil _) fun s' acc' c' hm hS' hacc => ?_⟩
  refine hR s' acc' c' (fun b ob hb e => hm.heap b ob (fun hmem => ?_) (Heap.get?_push_of_some _ (oth b ob hb e))) hm.gens hm.drawn hm.os hS' hacc
  rcases List.mem_cons.mp hmem with z | z
  · exact hb z
  · have e2 := List.mem_singleton.mp z
    rw [hsz] at e2
    exact absurd (Heap.lt_size e) (by rw [e2]; exact Nat.lt_irrefl _)
theorem list_str {Q : Value → Shared → Prop} (hh : A.handled = none) (x : Str) (t : Tok) (hn : x.cps.size ≤ sizeLine)
    (hQ : ∀ (s' : Shared) acc' c', (∀ b o, s.heap.get? b = some o → s'.heap.get? b = some o) → s'.gens = s.gens → s'.drawn = s.drawn → s'.os = s.os → s'.heap.get? s.heap.objs.size = some { cls := .type "list", dict := none, data := .seq acc' c', slots := #[] } →
      ItemsOf (SignAt x) acc' x.cps.size → Q (.ref s.heap.objs.size) s') : wpAny (model prog w) A (call (.type "list") [.str x t]) Q E s := by
  refine callType_codes (Q₁ := fun obj s₁ => obj = .ref s.heap.objs.size ∧ s₁ = { s with heap := s.heap.push { cls := .type "list", data := .seq #[] } }) F.called_list (F.typeCall_list_1 _) F.entry_list_init (code_list_new _ ⟨rfl, rfl⟩) fun obj s1 h1 => ?_
  obtain ⟨rfl, rfl⟩ := h1
  have hS : (s.heap.push { cls := .type "list", data := .seq #[] }).get? s.heap.objs.size = some { cls := .type "list", data := .seq #[] } := Heap.get?_push_size _ rfl
  refine ⟨⟨_, hS, rfl⟩, F.args_list_init_2 _ _, list_str_init (A := A.in1) hh x t hn _ hS fun s' acc' c' hk hg hd ho hS' hacc => ?_⟩
  exact ⟨rfl, hQ s' acc' c' (fun b o e => hk b o (Nat.ne_of_lt (Heap.lt_size e)) (Heap.get?_push_of_some _ e)) hg hd ho hS' hacc⟩
end
def signsV (z : Str) : List V := z.cps.toList.map fun c => V.str ⟨#[c]⟩
theorem vals_of_get : ∀ (xs : List V) (us : List Value), xs.length = us.length → (∀ (i : Nat) (x : V) (u : Value), xs[i]? = some x → us[i]? = some u → RelV x u) → Vals xs us
  | [], [], _, _ => .nil
  | [], _ :: _, e, _ => by cases e
  | _ :: _, [], e, _ => by cases e
  | x :: xs, u :: us, e, h => .cons (h 0 x u rfl rfl) (vals_of_get xs us (Nat.succ.inj e) fun i y v h1 h2 => h (i + 1) y v h1 h2)
theorem signs_vals {x : Str} {acc : Array Value} (h : ItemsOf (SignAt x) acc x.cps.size) : Vals (signsV x) acc.toList := by
  refine vals_of_get _ _ (by unfold signsV; rw [List.length_map, Array.length_toList, Array.length_toList, h.1]) fun i y v h1 h2 => ?_
  rw [Array.getElem?_toList] at h2
  obtain ⟨c, u, hc, rfl⟩ := h.2 i v h2
  unfold signsV at h1
  rw [List.getElem?_map, Array.getElem?_toList, hc] at h1
  cases h1
  exact ⟨u, rfl⟩
theorem call_list_str {X : Cx} (hc : X.calm = true) : CallR X (.type "list") (fun xs H Q => ∃ z, xs = [.str z] ∧ z.length ≤ 1000 ∧ ∀ l, H l = none → Q (.ref l) (upd H l (.lst (signsV z)))) := by
  intro pins s σ H xs us Q I r h
  obtain ⟨z, rfl, hz, q⟩ := h
  obtain ⟨u, rfl, t, rfl⟩ := vals1 r
  have hn : z.cps.size ≤ sizeLine := Nat.le_of_lt (small1000 hz)
  refine list_str (I.ok.hd hc) z t hn fun s' acc' c' hk hg hd ho hS' hacc => ?_
  obtain ⟨hp, g, d, tk, os⟩ := s'
  obtain rfl : g = s.gens := hg
  obtain rfl : d = s.drawn := hd
  obtain rfl : os = s.os := ho
  refine ⟨.ref s.heap.objs.size, _, I.laid (t' := tk) hk (Nat.le_refl _) (show ObjOk X.prog X.w _ hp _ (.lst (signsV z)) from ⟨?_, acc'.toList, c', signs_vals hacc, hS'⟩), rfl, q _ (I.hok.fresh (Nat.le_refl _))⟩
  unfold signsV
  rw [List.length_map, Array.length_toList]
  exact hn
/-! ### a slice of a list or a tuple -/
def rSlA2 (K : PySem.W.Frag) : V → Option Int → Option Int → Hp → VK → Prop := fun x lo hi H Q => ∃ a xs, x = .ref a ∧ SqA K H a xs ∧ ∀ (r : Addr) (H' : Hp), Same H H' → SqA K H' r (cutV xs lo hi) → Q (.ref r) H'
theorem sl_A {X : Cx} : SlR X (rSlA2 X.K) := fun pins s σ H x v vl vu lo hi sl Q I rx e1 e2 e3 h => by
  obtain ⟨a, xs, rfl, ha, q⟩ := h
  rcases ha with ha | ha
  · exact sl_list pins s σ H (.ref a) v vl vu lo hi sl Q I rx e1 e2 e3 ⟨a, xs, rfl, ha, fun p np => q p _ (same_newH np) (.inl (SqL.of upd_same))⟩
  · refine sl_tupA pins s σ H (.ref a) v vl vu lo hi sl Q I rx e1 e2 e3 ⟨a, xs, rfl, ha, fun e => ?_, fun _ p np => q p _ (same_newH np) (.inr (SqT.of upd_same))⟩
    exact q a H (Same.refl H) (.inr (by rw [cut_whole e]; exact ha))
def SqB (K : PySem.W.Frag) (H : Hp) (a : Addr) (xs : List V) : Prop := SqL K H a xs ∨ H a = some (.tup xs)
theorem SqB.seqA {K : PySem.W.Frag} {H : Hp} {a : Addr} {xs : List V} (h : SqB K H a xs) : SqA K H a xs := h.elim .inl fun h => .inr (SqT.of h)
theorem SqB.same {K : PySem.W.Frag} {a : Addr} {H H1 : Hp} {xs : List V} (h : SqB K H a xs) (x : Same H H1) : SqB K H1 a xs := h.elim (fun h => .inl (x.seq h)) fun h => .inr (x _ _ h)
def spFirstBadA (K : PySem.W.Frag) : Sp := fun vs H Q _ => ∃ (a : Addr) (xs : List V), vs = [.ref a] ∧ SqB K H a xs ∧ xs.length ≤ 1000 ∧ (∀ x ∈ xs, Ent H x) ∧ ∀ H', Same H H' → Q (dueV xs) H'
def spTableA (K : PySem.W.Frag) (C : Addr) : Sp := fun vs H Q _ => ∃ (p a dx : Addr) (xs : List V), vs = [.ref p, .ref a] ∧ H p = some (.ins C dx []) ∧ SqB K H a xs ∧ xs.length ≤ 1000 ∧ (∀ x ∈ xs, Ent H x) ∧ dueV xs = .non ∧
  ∀ H', But p H H' → TabAt H' C p xs → Q .non H'
end Own

namespace Own
open PySem PySem.Spec PyProof.Rows L2
/-! ### len, repr, ==, != of an own class, by name -/
/-- what of a class no def of it says: no __ne__ of its own, and so on -/
structure NeAt (K : PySem.W.Frag) (C : Addr) : Prop where
  cl : Cls K C
  ha : PySem.W.findIn K (.ref C) "__class__" = some (some (.builtin "object.__class__"))
  hn : PySem.W.specialIn K (.builtin "object.__class__") "__get__" = some (some (.builtin "getset_descriptor.__get__"))
  htk : PySem.W.takesIn K (.builtin "object.__class__") = some true
  hm : PySem.W.mroIn K C (.type "object") = some true
  ne : PySem.W.findIn K (.ref C) "__ne__" = some (some (.builtin "object.__ne__"))
  kL : PySem.W.kitOne K (.type "list") (.ref C) = some false
  kT : PySem.W.kitOne K (.type "tuple") (.ref C) = some false
  kS : PySem.W.kitOne K (.type "str") (.ref C) = some false
  fL : PySem.W.notFirst K C (.type "list") = true
  fT : PySem.W.notFirst K C (.type "tuple") = true
  fS : PySem.W.notFirst K C (.type "str") = true
section
variable {X : Cx} {k : Nat} {C f : Addr} {fd : FuncData} {ps : List Str} {sp : Sp}
theorem call_len_cal (c : CalM X.prog X.w X.K X.mg X.base CX0 k C "__len__" f fd ps sp) (hr : Room (k + 1) X.A) : CallR X (.builtin "len") (rLenOwn C sp E0) := call_len_own c.ok c.mt c.b pass0 hr
theorem call_repr_cal (c : CalM X.prog X.w X.K X.mg X.base CX0 k C "__repr__" f fd ps sp) (hr : Room (k + 1) X.A) : CallR X (.builtin "repr") (rReprOwn C sp E0) := call_repr_own c.ok c.mt c.b pass0 hr
theorem op_eq_cal (c : CalM X.prog X.w X.K X.mg X.base CX0 k C "__eq__" f fd ps sp) (hr : Room k X.A) : OpR X (compareOp .Eq) (rEqOwn X.K C false sp E0) := op_eq_own c.ok c.mt c.b pass0 hr
theorem op_ne_cal (n : NeAt X.K C) (c : CalM X.prog X.w X.K X.mg X.base CX0 k C "__eq__" f fd ps sp) (hr : Room (k + 1) X.A) : OpR X (compareOp .NotEq) (rEqOwn X.K C true sp E0) := op_ne_own c.ok c.mt n.ne n.hm c.b pass0 hr
end
theorem NeAt.self {K : PySem.W.Frag} {C : Addr} (n : NeAt K C) : PySem.W.notFirst K C (.ref C) = true := by
  unfold PySem.W.notFirst
  rw [beq_self_eq_true, Bool.true_or]
theorem NeAt.ty {K : PySem.W.Frag} {C : Addr} (n : NeAt K C) {H : Hp} {a dx : Addr} {fs : List (Str × V)} (h : H a = some (.ins C dx fs)) : TyX K H (.ref a) (.ref C) :=
  .base (.ins h n.cl n.ha n.hn n.htk n.hm)
/-! ### texts as data -/
theorem dp_strs {K : PySem.W.Frag} {H : Hp} : ∀ (ys : List Str), DpAll K H (ys.map V.str) (ys.map PyData.str)
  | [] => .nil
  | n :: r => .cons (.str n) (dp_strs r)
theorem eqvAll_strs : ∀ (ys zs : List Str), PyData.eqvAll (ys.map PyData.str) (zs.map PyData.str) = decide (ys = zs)
  | [], [] => by simp [PyData.eqvAll]
  | [], _ :: _ => by simp [PyData.eqvAll]
  | _ :: _, [] => by simp [PyData.eqvAll]
  | y :: ys, z :: zs => by
    have ih := eqvAll_strs ys zs
    simp only [List.map_cons, PyData.eqvAll, PyData.eqv, ih]
    rw [Bool.eq_iff_iff]
    simp
theorem eqv_tups (ys zs : List Str) : PyData.eqv (.tuple (ys.map PyData.str)) (.tuple (zs.map PyData.str)) = decide (ys = zs) := by
  rw [← eqvAll_strs]
  simp only [PyData.eqv]
theorem eqv_lsts (ys zs : List Str) : PyData.eqv (.list (ys.map PyData.str)) (.list (zs.map PyData.str)) = decide (ys = zs) := by
  rw [← eqvAll_strs]
  simp only [PyData.eqv]
/-! ### words -/
/-- a text of one to eight small letters -/
def lowS (z : Str) : Prop := 1 ≤ z.length ∧ z.length ≤ 8 ∧ ∀ c ∈ z.cps.toList, lowB c = true
theorem low_of {z : Str} (h : wordB z = true) : lowS z := by
  unfold wordB at h
  simp only [Bool.and_eq_true, decide_eq_true_eq] at h
  obtain ⟨_, ⟨h1, h2⟩, h3⟩ := h
  exact ⟨by omega, by omega, fun c hc => List.all_eq_true.mp h3 c hc⟩
theorem strOk_low {z : Str} (h : ∀ c ∈ z.cps.toList, lowB c = true) : PyData.canLay0 (.str z) = true := by
  unfold PyData.canLay0 PyData.strOk
  rw [← Array.all_toList, List.all_eq_true]
  intro c hc
  have q := h c hc
  unfold lowB at q
  simp only [Bool.and_eq_true, decide_eq_true_eq] at q
  exact decide_eq_true (by omega)
def Words (ws : List Str) : Prop := ∀ z ∈ ws, wordB z = true
theorem flat_word {z : Str} (h : wordB z = true) : (PyData.str z).canLay0 = true ∧ (PyData.str z).depth = 0 := ⟨strOk_low (low_of h).2.2, by simp only [PyData.depth]⟩
theorem shaped_tupW {ws : List Str} (h : Words ws) : SeqAt.shaped (.tuple (ws.map PyData.str)) = true := shaped_tup fun d hd => by
  obtain ⟨z, hz, rfl⟩ := List.mem_map.mp hd
  exact flat_word (h z hz)
theorem shaped_lstW {ws : List Str} (h : Words ws) : SeqAt.shaped (.list (ws.map PyData.str)) = true := shaped_lst fun d hd => by
  obtain ⟨z, hz, rfl⟩ := List.mem_map.mp hd
  exact flat_word (h z hz)
theorem inV_str (z : Str) : ∀ (l : List Str), inV (.str z) (l.map V.str) = decide (z ∈ l)
  | [] => by rfl
  | y :: l => by
    have ih := inV_str z l
    unfold inV at ih ⊢
    rw [List.map_cons, List.any_cons, ih]
    show ((y == z) || decide (z ∈ l)) = decide (z ∈ y :: l)
    rw [Bool.eq_iff_iff]
    simp only [Bool.or_eq_true, beq_iff_eq, decide_eq_true_eq, List.mem_cons]
    constructor
    · rintro (e | e)
      · exact .inl e.symm
      · exact .inr e
    · rintro (e | e)
      · exact .inl e.symm
      · exact .inr e
theorem inV_mem {x : V} {xs ys : List V} (h : ∀ y, y ∈ xs ↔ y ∈ ys) : inV x xs = inV x ys := by
  unfold inV
  rw [Bool.eq_iff_iff, List.any_eq_true, List.any_eq_true]
  constructor
  · rintro ⟨y, hy, e⟩
    exact ⟨y, (h y).mp hy, e⟩
  · rintro ⟨y, hy, e⟩
    exact ⟨y, (h y).mpr hy, e⟩
theorem badFrom_words : ∀ (ws pre : List Str), Words ws → (∀ z ∈ ws, z ∉ pre) → ws.Nodup → badFrom (pre.map V.str) (ws.map V.str) = none
  | [], _, _, _, _ => rfl
  | z :: ws, pre, hw, hp, hn => by
    obtain ⟨n1, n2⟩ := List.nodup_cons.mp hn
    have h1 : wordV (.str z) = true := hw z (List.mem_cons_self ..)
    have h2 : inV (.str z) (pre.map V.str) = false := by
      rw [inV_str]
      exact decide_eq_false (hp z (List.mem_cons_self ..))
    have ih := badFrom_words ws (pre ++ [z]) (fun y hy => hw y (List.mem_cons_of_mem _ hy)) (fun y hy hm => by
      rcases List.mem_append.mp hm with hm | hm
      · exact hp y (List.mem_cons_of_mem _ hy) hm
      · rw [List.mem_singleton.mp hm] at hy
        exact n1 hy) n2
    show (if (!(wordV (.str z)) || inV (.str z) (pre.map V.str)) = true then some _ else badFrom (pre.map V.str ++ [.str z]) (ws.map V.str)) = none
    rw [h1, h2, if_neg (by decide)]
    rw [List.map_append] at ih
    exact ih
/-- one to three different words -/
structure Cols (ws : List Str) : Prop where
  w : Words ws
  nd : ws.Nodup
  l1 : 1 ≤ ws.length
  l3 : ws.length ≤ 3
theorem due_cols {ws : List Str} (c : Cols ws) : dueV (ws.map V.str) = .non := by
  have q := badFrom_words ws [] c.w (fun _ _ h => by cases h) c.nd
  unfold dueV
  have h1 := c.l1
  have h3 := c.l3
  rw [List.length_map, decide_eq_true (by omega : (1 : Int) ≤ (ws.length : Nat)), decide_eq_true (by omega : ((ws.length : Nat) : Int) ≤ 3), if_pos (by rfl)]
  rw [show badFrom [] (ws.map V.str) = none from q]
theorem ent_word {H : Hp} {ws : List Str} (h : Words ws) : ∀ x ∈ ws.map V.str, Ent H x := fun x hx => by
  obtain ⟨z, hz, rfl⟩ := List.mem_map.mp hx
  refine ⟨_, rfl, fun y e => ?_⟩
  cases e
  have := (low_of (h z hz)).2.1
  omega
/-! ### len, repr and == of a table -/
def spLenT (C : Addr) : Sp := fun vs H Q _ => ∃ (p : Addr) (xs : List V), vs = [.ref p] ∧ TabAt H C p xs ∧ Q (.int (xs.length : Nat)) H
def reprT (ys : List Str) : Str := ((Str.empty ++ "Table(") ++ Txt.join ", " ys) ++ ")"
def spReprT (C : Addr) : Sp := fun vs H Q _ => ∃ (p : Addr) (ys : List Str), vs = [.ref p] ∧ TabAt H C p (ys.map V.str) ∧ Cols ys ∧ Q (.str (reprT ys)) H
def spEqT (C : Addr) : Sp := fun vs H Q _ => ∃ (p : Addr) (y : V) (ys : List Str), vs = [.ref p, y] ∧ TabAt H C p (ys.map V.str) ∧ Words ys ∧
  ((∃ q zs, y = .ref q ∧ TabAt H C q (zs.map V.str) ∧ Words zs ∧ Q (.bl (decide (ys = zs))) H) ∨ (∃ t, kd H y = some t ∧ (t = .lst ∨ t = .tup ∨ t = .str) ∧ Q (.bl false) H))
theorem join_len (S : Str) (ys : List Str) : (Txt.join S ys).length ≤ (ys.map (·.length)).sum + ys.length * S.length := by
  show (Builtin.Str.glued S ys).length ≤ _
  rw [StrLaws.glued_eq_join]
  exact StrLaws.join_length_le S ys
theorem sum_words : ∀ {ws : List Str}, Words ws → (ws.map (·.length)).sum ≤ ws.length * 8
  | [], _ => Nat.zero_le _
  | z :: r, h => by
    have ih := sum_words (ws := r) fun y hy => h y (List.mem_cons_of_mem _ hy)
    have := (low_of (h z (List.mem_cons_self ..))).2.1
    simp only [List.map_cons, List.sum_cons, List.length_cons]
    omega
end Own

namespace K01
open PySem PySem.Spec PyProof.Rows L2 Own
def top (i : Nat) : Stmt := PySem.Challenge.pw_emptyfilters_k01_tables_made.main.body.getD i (.Pass ⟨0, 0, 0, 0⟩)
abbrev s_is_integer : Stmt := top 3
abbrev s_is_word : Stmt := top 4
abbrev s_copied : Stmt := top 5
abbrev s_BadTableinit : Stmt := inClass (top 8) 0
abbrev s_first_bad : Stmt := top 11
abbrev s_Tableinit : Stmt := inClass (top 12) 0
abbrev s_Tablelen : Stmt := inClass (top 12) 1
abbrev s_Tablecontains : Stmt := inClass (top 12) 2
abbrev s_Tableeq : Stmt := inClass (top 12) 3
abbrev s_Tablerepr : Stmt := inClass (top 12) 4
abbrev s_law_bag : Stmt := top 14
abbrev s_law_take : Stmt := top 15
abbrev s_law_of : Stmt := top 16
abbrev s_law_word : Stmt := top 17
abbrev s_law_words : Stmt := top 18
abbrev s_law_others : Stmt := top 19
abbrev s_law : Stmt := top 20
abbrev FnP (K : PySem.W.Frag) (x : Str) (st : Stmt) (f : Addr) (fd : FuncData) : Prop := FunD K x x (defArgs st) (defBody st) (defScope st) [] [] f fd
abbrev FnM (K : PySem.W.Frag) (x q : Str) (st : Stmt) (f : Addr) (fd : FuncData) : Prop := FunD K x q (defArgs st) (defBody st) (defScope st) [] [] f fd
structure Txt (K : PySem.W.Frag) (mg : Str → Option Value) (aK : Addr) : Prop extends Free mg where
  g_KEPT : mg "KEPT" = some (.ref aK)
  s_KEPT : ∀ H, SqT K H aK (keptL.map V.str)
  g_WORD_LETTERS : ∃ t, mg "WORD_LETTERS" = some (.int 8 t)
  g_MOST_COLUMNS : ∃ t, mg "MOST_COLUMNS" = some (.int 3 t)
structure TxC (K : PySem.W.Frag) (C : Addr) : Prop where
  cl : Cls K C
  nC : NoAttr K C "columns"
section
variable {P : Program} {w : World} {K : PySem.W.Frag} {mg : Str → Option Value} {base : Heap} {f C : Addr} {fd : FuncData}
theorem sc_law_take : FnScope ["bag", "many", "digit"] ["bag", "many"] (defScope s_law_take) := ⟨rfl, rfl, rfl, by decide +kernel, rfl, by decide +kernel, by decide +kernel⟩
theorem ok_take (F : FnP K "_law_take" s_law_take f fd) (T : Free mg) : FnOk P w K mg base CX0 1 f fd ["bag", "many"] spTake := by
  refine F.ok sc_law_take (fun vs H Q E h => ?_) (fun cdv A outer s H vs Q E hr h => ⟨_, PSs.nox (pss_cons (ps_if (pt_cmpR op_gt (pe_ix ix_list (pv 0) pe_int (fun _ _ => rfl)) pe_int (nomark _))
 (pss_cons (ps_set (i := 2) sc_law_take.nd rfl (Or.inl rfl) (pe_op op_mod (pe_callTy call_int1 (by rfl) T.int boot_int (pa_cons (pe_ix ix_list (pv 0) pe_int (fun _ _ => rfl)) pa_nil)) (pv 1)))
 (pss_cons (ps_asg (pe_op op_fdiv (pe_ix ix_list (pv 0) pe_int (fun _ _ => rfl)) (pv 1)) (pg_sub (pv 0) pe_int set_list))
 (pss_one (ps_ret (pv 2)))))
 pss_nil)
 (pss_cons (ps_asg (pe_op op_mod (pe_callTy call_int1 (by rfl) T.int boot_int (pa_cons (pe_op op_add (pe_op op_mul (pe_ix ix_list (pv 0) pe_int (fun _ _ => rfl)) pe_int) pe_int) pa_nil)) pe_int) (pg_sub (pv 0) pe_int set_list))
 (pss_one (ps_ret (pe_op op_mod (pe_op op_fdiv (pe_op op_mod (pe_callTy call_int1 (by rfl) T.int boot_int (pa_cons (pe_op op_mul (pe_op op_fdiv (pe_ix ix_list (pv 0) pe_int (fun _ _ => rfl)) pe_int) pe_int) pa_nil)) pe_int) pe_int) (pv 1)))))), ?_⟩)
  · obtain ⟨b, m, rfl, _⟩ := h
    rfl
  · obtain ⟨b, m, rfl, ⟨x, y, hb, hx, hy⟩, hm, hm2, k⟩ := h
    refine ⟨_, rfl, b, _, 0, _, rfl, rfl, SqL.of hb, rfl, _, _, rfl, rfl, _, rfl, ?_⟩
    refine ite2 (fun hgt => ?_) (fun hle => ?_)
    · have hx0 : 0 < x := of_decide_eq_true hgt
      refine ⟨_, rfl, b, _, 0, _, rfl, rfl, SqL.of hb, rfl, .inl ⟨_, rfl, ?_⟩⟩
      refine ⟨_, rfl, _, _, rfl, rfl, hm, ?_⟩
      refine ⟨_, rfl, b, _, 0, _, rfl, rfl, SqL.of hb, rfl, _, rfl, _, _, rfl, rfl, ⟨hm, hm2⟩, ?_⟩
      refine ⟨_, rfl, b, _, 0, 0, rfl, rfl, hb, rfl, ?_⟩
      refine ⟨_, rfl, k _ _ (Int.emod_nonneg _ (by omega)) (Int.emod_lt_of_pos _ hm) (But.put But.refl) ⟨_, _, upd_same, Int.ediv_nonneg hx (by omega), hy⟩⟩
    · refine ⟨_, rfl, b, _, 1, _, rfl, rfl, SqL.of hb, rfl, _, _, rfl, rfl, .inr ⟨by decide, by decide⟩, _, _, rfl, rfl, .inl ⟨_, rfl, _, _, rfl, rfl, (by show (0 : Int) < _; decide), ?_⟩⟩
      refine ⟨_, rfl, b, _, 1, 1, rfl, rfl, hb, rfl, ?_⟩
      refine ⟨_, rfl, b, _, 1, _, rfl, rfl, SqL.of upd_same, rfl, _, _, rfl, rfl, ⟨by decide, by decide⟩, _, _, rfl, rfl, .inr ⟨by decide, by decide⟩, .inl ⟨_, rfl, _, _, rfl, rfl, (by show (0 : Int) < _; decide), ?_⟩⟩
      refine ⟨_, _, rfl, rfl, ⟨by decide, by decide⟩, _, rfl, _, _, rfl, rfl, hm, ?_⟩
      refine k _ _ (Int.emod_nonneg _ (by omega)) (Int.emod_lt_of_pos _ hm) (But.put But.refl) ⟨_, _, upd_same, hx, Int.emod_nonneg _ (by decide)⟩
theorem sc_law_of : FnScope ["bag", "some"] ["bag", "some"] (defScope s_law_of) := ⟨rfl, rfl, rfl, by decide +kernel, rfl, by decide +kernel, by decide +kernel⟩
theorem ok_of {ft : Addr} {fdt : FuncData} (F : FnP K "_law_of" s_law_of f fd) (T : Free mg) (c_law_take : Cal P w K mg base CX0 1 "_law_take" ft fdt ["bag", "many"] spTake) : FnOk P w K mg base CX0 2 f fd ["bag", "some"] (spOf K) := by
  refine F.ok sc_law_of (fun vs H Q E h => ?_) (fun cdv A outer s H vs Q E hr h => ⟨_, PSs.nox (pss_one (ps_ret (pe_ix ix_list (pv 1) (pe_cal c_law_take (hr.mono (by decide)) (pa_cons (pv 0) (pa_cons (pe_callB call_len_seq (by rfl) T.len boot_len (pa_cons (pv 1) pa_nil)) pa_nil))) (fun _ _ => rfl)))), ?_⟩)
  · obtain ⟨b, l, xs, rfl, _⟩ := h
    rfl
  · obtain ⟨b, l, xs, rfl, hb, hne, hl, hx, hlen, k⟩ := h
    have hpos : 0 < xs.length := List.length_pos_iff.mpr hx
    refine ⟨_, rfl, _, rfl, _, rfl, l, _, rfl, .inl hl, b, _, rfl, hb, by omega, by omega, fun d H' h0 h1 hB hb' => ?_⟩
    refine ⟨l, xs, d, xs[d.toNat]'(by omega), rfl, rfl, hB.list hne hl, ?_, ?_⟩
    · exact at_of (j := d.toNat) (by omega) (List.getElem?_eq_getElem _)
    · exact k _ _ (List.getElem_mem _) hB hb'
theorem sc_law_bag : FnScope ["script", "at", "cell", "mixed", "k", "each"] ["script", "at"] (defScope s_law_bag) := ⟨rfl, rfl, rfl, by decide +kernel, rfl, by decide +kernel, by decide +kernel⟩
theorem ok_bag (F : FnP K "_law_bag" s_law_bag f fd) (T : Free mg) : FnOk P w K mg base CX0 1 f fd ["script", "at"] (spBag K) := by
  refine F.ok sc_law_bag (fun vs H Q E h => ?_) (fun cdv A outer s H vs Q E hr h => ⟨_, PSs.nox (pss_cons (ps_set (i := 2) sc_law_bag.nd rfl (Or.inl rfl) (pe_ifExp (pt_cmpR op_lt (pv 1) (pe_callB call_len_seq (by rfl) T.len boot_len (pa_cons (pv 0) pa_nil)) (nomark _)) (pe_ix ix_list (pv 0) (pv 1) (fun _ _ => rfl)) pe_int))
 (pss_cons (ps_set (i := 3) sc_law_bag.nd rfl (Or.inl rfl) (pe_op op_add (pe_op op_mul pe_int (pv 1)) pe_int))
 (pss_cons (ps_for PassesOwn.never rfl (pi_enum (by rfl) T.enumerate (pa_cons (pe_slice sl_list (pv 0) po_none (po_some pe_int)) pa_nil)) (pg_tup rfl (pgs_cons (pg_name (i := 4) sc_law_bag.nd rfl (Or.inl rfl)) (pgs_cons (pg_name (i := 5) sc_law_bag.nd rfl (Or.inl rfl)) pgs_nil)))
 (pss_one (ps_set (i := 3) sc_law_bag.nd rfl (Or.inl rfl) (pe_op op_mod (pe_callTy call_int1 (by rfl) T.int boot_int (pa_cons (pe_op op_add (pe_op op_add (pe_op op_mul (pv 3) pe_int) (pe_op op_mod (pe_callTy call_int1 (by rfl) T.int boot_int (pa_cons (pv 5) pa_nil)) pe_int)) (pe_op op_mul pe_int (pv 4))) pa_nil)) pe_int))))
 (pss_one (ps_ret (pe_lst (pa_cons (pe_ifExp (pt_cmpR op_ge (pe_callB call_abs (by rfl) T.abs boot_abs (pa_cons (pv 2) pa_nil)) (pe_op op_pow pe_int pe_int) (nomark _)) (pe_callB call_abs (by rfl) T.abs boot_abs (pa_cons (pv 2) pa_nil)) pe_int) (pa_cons (pv 3) pa_nil)))))))), ?_⟩)
  · obtain ⟨a, ns, n, rfl, _⟩ := h
    rfl
  · obtain ⟨a, ns, n, rfl, hS, hlen, hn, k⟩ := h
    refine ⟨_, rfl, _, rfl, a, _, rfl, .inl hS, _, _, rfl, rfl, _, rfl, ?_⟩
    refine' pick (α := Int) ?main ?rest
    case main =>
      intro go
      refine ite2 (fun hlt => ?_) (fun _ => ?_)
      have hlt2 : n < ns.length := by
        have q := of_decide_eq_true hlt
        rw [len_ints] at q
        omega
      obtain ⟨u, hu⟩ : ∃ u, ns[n]? = some u := ⟨_, List.getElem?_eq_getElem hlt2⟩
      exact ⟨_, rfl, _, rfl, a, _, _, V.int u, rfl, rfl, hS, at_of rfl (by rw [List.getElem?_map, hu]; rfl), go u⟩
      exact go 0
    case rest =>
      intro c
      refine ⟨_, rfl, _, _, rfl, rfl, .inl ⟨by decide, by decide⟩, _, _, rfl, rfl, ?_⟩
      refine ⟨_, rfl, _, rfl, a, _, rfl, hS, fun p np => ⟨p, _, rfl, SqL.of upd_same, ?_⟩⟩
      refine for_it (walk_enum (xs := cutV (ns.map V.int) none (some 63))) (fun _ σ H' => ∃ (m : Int) (kv ev : Option V), σ = [some (.ref a), some (.int n), some (.int c), some (.int m), kv, ev] ∧ Same (upd H p (.lst (cutV (ns.map V.int) none (some 63)))) H' ∧ 0 ≤ m)
        ⟨_, none, none, rfl, Same.refl _, by omega⟩ (fun i σ H' _ ⟨m, kv, ev, _, R, _⟩ => SqL.of (R _ _ upd_same)) ?_ ?_
      · rintro i x σ H1 H2 hi ⟨m, kv, ev, rfl, R, hm⟩ ⟨t, k1, x1, rfl, nt, rfl, hk, hx⟩
        cases hk
        obtain ⟨u, rfl⟩ := int_of_mem (mem_cut (List.mem_of_getElem? hx))
        refine ⟨t, _, rfl, .inl (.inl upd_same), rfl, ?_⟩
        refine ⟨_, _, rfl, _, _, rfl, rfl, ?_⟩
        refine ⟨_, rfl, _, _, rfl, rfl, .inr ⟨by decide, by decide⟩, _, rfl, .inl ⟨_, rfl, _, _, rfl, rfl, (by show (0 : Int) < _; decide), _, _, rfl, rfl, _, rfl, _, _, rfl, rfl, .inl ⟨by decide, by decide⟩, _, _, rfl, rfl, .inl ⟨_, rfl, _, _, rfl, rfl, (by show (0 : Int) < _; decide), ?_⟩⟩⟩
        exact ⟨_, _, _, rfl, same_new R nt, Int.emod_nonneg _ (by decide)⟩
      · rintro σ H' ⟨m, kv, ev, rfl, R, hm⟩
        refine ⟨_, rfl, _, rfl, _, _, rfl, rfl, ⟨by decide, by decide, by decide⟩, _, _, rfl, rfl, _, rfl, ?_⟩
        refine' pickP (α := Int) (fun z => 0 ≤ z) ?main2 ?rest2
        case main2 =>
          intro go
          refine ite2 (fun _ => ?_) (fun _ => ?_)
          obtain ⟨u, hu, e⟩ : ∃ u, 0 ≤ u ∧ u = (if c < 0 then -c else c) := ⟨_, abs_nn c, rfl⟩
          refine ⟨_, rfl, _, rfl, ?_⟩
          rw [← e]
          exact go u hu
          exact go 0 (by omega)
        case rest2 =>
          intro x hx
          refine ⟨_, rfl, (by show 2 ≤ sizeLine; decide), fun b nb => ?_⟩
          exact k b _ (same_new ((same_newH np).trans R) nb) ((same_newH np).free (R.free nb)) ⟨_, _, upd_same, hx, hm⟩

theorem sc_is_word : FnScope ["thing", "letter"] ["thing"] (defScope s_is_word) := ⟨rfl, rfl, rfl, by decide +kernel, rfl, by decide +kernel, by decide +kernel⟩
theorem ok_is_word {aK : Addr} (F : FnP K "is_word" s_is_word f fd) (T : Txt K mg aK) : FnOk P w K mg base CX0 1 f fd ["thing"] spIsWord := by
  refine F.ok sc_is_word (fun vs H Q E h => ?_) (fun cdv A outer s H vs Q E hr h => ⟨_, PSs.nox (pss_cons (ps_if (PW.pt (pw_or (pt_not (pt_val (pe_callB call_isi (by rfl) T.isinstance boot_isinstance (pa_cons (pv 0) (pa_cons (pe_bltn (v := .ty "str") (by rfl) T.str boot_str rfl) pa_nil))))) (pw_or1 (pt_cmpR op_in_seq (pv 0) (pe_glob (v := .ref _) (by rfl) T.g_KEPT rfl) (by rfl)))))
 (pss_one (ps_ret pe_bl))
 pss_nil)
 (pss_one (ps_ret (pe_and (pe_chain op_le op_le pe_int (pe_callB call_len_str (by rfl) T.len boot_len (pa_cons (pv 0) pa_nil)) (pe_gint (by rfl) T.g_WORD_LETTERS)) (pe_one (pe_callB (cr_all rfl) (by rfl) T.all boot_all (pa_cons (pe_lc (own := [("letter", 1)]) rfl sc_is_word.nd (pi_str (pv 0)) (blkOk_by (N := ["thing", "letter"]) (sc := defScope s_is_word) (by decide +kernel)) (fun _ _ _ _ _ => (pg_name (i := 1) sc_is_word.nd rfl (Or.inl rfl))) (fun _ _ _ _ _ => pts_nil) (fun _ _ _ _ _ => (pe_chain op_le_str op_le_str pe_str (pv 1) pe_str))) pa_nil))))))), ?_⟩)
  · obtain ⟨v, t, rfl, _⟩ := h
    rfl
  · obtain ⟨v, t, rfl, ht, hz, k⟩ := h
    refine ⟨_, rfl, _, _, _, _, _, rfl, .ty _, kd_ok ht, kit_str t, _, rfl, ?_⟩
    by_cases e : t = .str
    · subst e
      obtain ⟨z, rfl⟩ := kd_str ht
      have hlen := hz z rfl
      refine iteNS rfl ?_
      refine ⟨_, rfl, aK, keptL.map V.str, rfl, .inr (T.s_KEPT _), rfl, flat_strs _, _, rfl, ?_⟩
      refine ite2 (fun h1 => ?_) (fun h1 => ?_)
      · have h2 : inV (.str z) (keptL.map V.str) = true := h1
        have q : Q (V.bl (wordB z)) H := k H (Same.refl H)
        unfold wordB at q
        rw [h2] at q
        exact q
      · have h2 : inV (.str z) (keptL.map V.str) = false := by
          rw [← Bool.not_eq_true]
          exact h1
        have k0 : ∀ H', Same H H' → Q (V.bl (wordB z)) H' := k
        unfold wordB at k0
        rw [h2] at k0
        have k2 : ∀ H', Same H H' → Q (V.bl ((decide ((1 : Int) ≤ (z.length : Nat)) && decide (((z.length : Nat) : Int) ≤ 8)) && z.cps.toList.all lowB)) H' := k0
        refine ⟨_, rfl, z, rfl, Nat.le_of_lt (small1000 hlen), _, _, rfl, rfl, _, rfl, ?_⟩
        refine ite2 (fun h3 => ?_) (fun h3 => ?_)
        · rw [h3] at k2
          refine ⟨_, _, rfl, rfl, _, rfl, ?_⟩
          refine ite2 (fun h4 => ?_) (fun h4 => ?_)
          · rw [h4] at k2
            refine ⟨_, rfl, z, rfl, fun D nD => ?_⟩
            refine lc_it walk_str (fun i H' => H' = upd H D (.lst (((z.cps.toList.take i).map lowB).map V.bl))) rfl (fun i H' _ e => True.intro) (fun i x H' H2 hi e y => ?_) (fun H' e => ?_)
            · subst e
              obtain ⟨rfl, c, hc, rfl⟩ := y
              have hc2 : z.cps.toList[i]? = some c := by
                rw [Array.getElem?_toList]
                exact hc
              have fin : ∀ b, b = lowB c → ∃ acc, upd H D (.lst (((z.cps.toList.take i).map lowB).map V.bl)) D = some (.lst acc) ∧ acc.length < sizeLine ∧
                  upd (upd H D (.lst (((z.cps.toList.take i).map lowB).map V.bl))) D (.lst (acc ++ [V.bl b])) = upd H D (.lst (((z.cps.toList.take (i + 1)).map lowB).map V.bl)) := by
                intro b eb
                refine ⟨_, upd_same, small1000 ?_, ?_⟩
                · simp
                  have : z.cps.size = z.length := rfl
                  omega
                · rw [upd_upd, eb, map_take_snoc lowB hc2, List.map_append] <;> rfl
              refine ⟨rfl, _, rfl, _, _, rfl, rfl, _, rfl, ?_⟩
              have q1 : (!decide (([c] : List Nat) < [97])) = decide (97 ≤ c) := le_sign c 97
              have q2 : (!decide (([122] : List Nat) < [c])) = decide (c ≤ 122) := le_sign 122 c
              refine ite2 (fun h5 => ?_) (fun h5 => ?_)
              · have h6 : decide (97 ≤ c) = true := q1.symm.trans h5
                refine ⟨_, _, rfl, rfl, fin _ ?_⟩
                unfold lowB
                rw [h6]
                exact q2
              · have h6 : decide (97 ≤ c) = false := by
                  rw [← q1, ← Bool.not_eq_true]
                  exact h5
                refine fin _ ?_
                unfold lowB
                rw [h6]
                rfl
            · subst e
              refine ⟨D, z.cps.toList.map lowB, rfl, SqL.of (by rw [upd_same, List.take_of_length_le (by simp)]), ?_⟩
              rw [all_id_map]
              exact k2 _ (same_newH nD)
          · rw [Bool.not_eq_true] at h4
            rw [h4] at k2
            exact k2 _ (Same.refl H)
        · rw [Bool.not_eq_true] at h3
          rw [h3] at k2
          exact ⟨_, rfl, k2 _ (Same.refl H)⟩
    · rw [decide_eq_false e]
      refine iteT ?_
      have q := k H (Same.refl H)
      rw [wordV_not ht e] at q
      exact q

theorem sc_first_bad : FnScope ["names", "at", "name"] ["names"] (defScope s_first_bad) := ⟨rfl, rfl, rfl, by decide +kernel, rfl, by decide +kernel, by decide +kernel⟩
theorem ok_first_bad {aK fw : Addr} {fdw : FuncData} (F : FnP K "first_bad" s_first_bad f fd) (T : Txt K mg aK) (c_is_word : Cal P w K mg base CX0 1 "is_word" fw fdw ["thing"] spIsWord) : FnOk P w K mg base CX0 2 f fd ["names"] (spFirstBadA K) := by
  refine F.ok sc_first_bad (fun vs H Q E h => ?_) (fun cdv A outer s H vs Q E hr h => ⟨_, PSs.nox (pss_cons (ps_if (pt_not (pt_chain op_le op_le pe_int (pe_callB call_len_seq (by rfl) T.len boot_len (pa_cons (pv 0) pa_nil)) (pe_gint (by rfl) T.g_MOST_COLUMNS)))
 (pss_one (ps_ret (pe_un un_neg pe_int)))
 pss_nil)
 (pss_cons (ps_for PassesOwn.never rfl (pi_enumA (by rfl) T.enumerate (pa_cons (pv 0) pa_nil)) (pg_tup rfl (pgs_cons (pg_name (i := 1) sc_first_bad.nd rfl (Or.inl rfl)) (pgs_cons (pg_name (i := 2) sc_first_bad.nd rfl (Or.inl rfl)) pgs_nil)))
 (pss_one (ps_if (PW.pt (pw_or (pt_not (pt_val (pe_cal c_is_word (hr.mono (by decide)) (pa_cons (pv 2) pa_nil)))) (pw_or1 (pt_cmpR op_in_seq (pv 2) (pe_slice sl_A (pv 0) po_none (po_some (pv 1))) (by rfl)))))
 (pss_one (ps_ret (pv 1)))
 pss_nil)))
 (pss_one (ps_ret pe_non)))), ?_⟩)
  · obtain ⟨a, xs, rfl, _⟩ := h
    rfl
  · obtain ⟨a, xs, rfl, ha, hlen, hx, k⟩ := h
    have bad : (decide ((1 : Int) ≤ (xs.length : Nat)) && decide (((xs.length : Nat) : Int) ≤ 3)) = false → Q (.int (-1)) H := by
      intro e
      have q := k H (Same.refl H)
      unfold dueV at q
      rw [e] at q
      exact q
    refine ⟨_, rfl, a, xs, rfl, ha.seqA, _, _, rfl, rfl, _, rfl, ?_⟩
    refine ite2 (fun h1 => ?_) (fun h1 => ?_)
    rotate_left
    · rw [Bool.not_eq_true] at h1
      refine ⟨_, rfl, iteT ?_⟩
      exact ⟨_, rfl, bad (by rw [h1]; rfl)⟩
    refine ⟨_, _, rfl, rfl, _, rfl, ?_⟩
    refine ite2 (fun h2 => ?_) (fun h2 => ?_)
    · rw [Bool.not_eq_true'] at h2
      exact ⟨_, rfl, bad (by rw [h1, h2]; rfl)⟩
    have h2 : decide (((xs.length : Nat) : Int) ≤ 3) = true := by
      cases q : decide (((xs.length : Nat) : Int) ≤ 3) with
      | true => rfl
      | false => exact absurd (by rw [q]; rfl) h2
    have good : ∀ H', Same H H' → Q (match badFrom [] xs with
        | some i => .int (i : Nat)
        | none => .non) H' := by
      intro H' e
      have q := k H' e
      unfold dueV at q
      rw [h1, h2] at q
      exact q
    refine ⟨_, rfl, a, xs, rfl, ha.seqA, fun J G w hG => ?_⟩
    refine for_it w (fun i σ H' => ∃ (av nv : Option V), σ = [some (.ref a), av, nv] ∧ Same H H' ∧ badFrom [] xs = badFrom (xs.take i) (xs.drop i) ∧ ∀ x ∈ xs.take i, wordV x = true)
      ⟨none, none, rfl, Same.refl _, by rw [List.take_zero, List.drop_zero], by simp⟩ (fun i σ H' _ ⟨_, _, _, R, _⟩ => hG H' R) ?_ ?_
    · rintro i x σ H1 H2 hi ⟨av, nv, rfl, R, hb, hw⟩ ⟨t, k1, x1, rfl, nt, rfl, hk, hx1⟩
      cases hk
      have hx1 : xs[i]? = some x1 := hx1
      refine ⟨t, _, rfl, .inl (.inl upd_same), rfl, ?_⟩
      refine ⟨_, _, rfl, _, _, rfl, rfl, ?_⟩
      have R1 := same_new (o := .tup [V.int (i : Nat), x1]) R nt
      obtain ⟨t1, ht1, hz1⟩ := (hx x1 (List.mem_of_getElem? hx1)).same R1
      have hd : xs.drop i = x1 :: xs.drop (i + 1) := by
        obtain ⟨hlt, e⟩ := List.getElem?_eq_some_iff.mp hx1
        rw [← e]
        exact List.drop_eq_getElem_cons hlt
      have hlt : i < xs.length := (List.getElem?_eq_some_iff.mp hx1).1
      have htl : (xs.take i).length = i := by
        rw [List.length_take]
        omega
      have hit : (!(wordV x1) || inV x1 (xs.take i)) = true → badFrom [] xs = some i := by
        intro e
        rw [hb, hd]
        show (if (!(wordV x1) || inV x1 (xs.take i)) = true then some (xs.take i).length else _) = some i
        rw [if_pos e, htl]
      have mis : (!(wordV x1) || inV x1 (xs.take i)) = false → badFrom [] xs = badFrom (xs.take (i + 1)) (xs.drop (i + 1)) := by
        intro e
        rw [hb, hd]
        show (if (!(wordV x1) || inV x1 (xs.take i)) = true then some (xs.take i).length else _) = _
        rw [if_neg (by rw [e]; decide), ← take_snoc hx1]
      refine ⟨_, rfl, x1, t1, rfl, ht1, hz1, fun H3 R3 => ?_⟩
      have RH := R1.trans R3
      refine ⟨_, rfl, ite2 (fun h3 => ?_) (fun h3 => ?_)⟩
      · refine iteT ⟨_, rfl, ?_⟩
        have q := good H3 RH
        rw [hit (by rw [h3]; rfl)] at q
        exact q
      · have hw1 : wordV x1 = true := by
          cases q : wordV x1 with
          | true => rfl
          | false => exact absurd (by rw [q]; rfl) h3
        refine ⟨_, rfl, _, rfl, _, rfl, _, rfl, a, xs, rfl, ha.seqA.same RH, fun p H4 S4 hp4 => ?_⟩
        refine ⟨p, _, rfl, hp4, word_flat hw1, ?_, _, rfl, ?_⟩
        · rw [cut_take]
          exact List.all_eq_true.mpr fun y hy => word_flat (hw y hy)
        · rw [cut_take]
          refine ite2 (fun h4 => ?_) (fun h4 => ?_)
          · refine ⟨_, rfl, ?_⟩
            have q := good _ (RH.trans S4)
            rw [hit (by rw [show inV x1 (xs.take i) = true from h4, Bool.or_true])] at q
            exact q
          · have h5 : inV x1 (xs.take i) = false := by
              rw [← Bool.not_eq_true]
              exact h4
            refine ⟨_, _, rfl, RH.trans S4, mis (by rw [hw1, h5]; rfl), fun y hy => ?_⟩
            rw [take_snoc hx1] at hy
            rcases List.mem_append.mp hy with hy | hy
            · exact hw y hy
            · rw [List.mem_singleton.mp hy]
              exact hw1
    · rintro σ H' ⟨av, nv, rfl, R, hb, hw⟩
      have q := good H' R
      rw [hb, List.drop_length] at q
      exact q

theorem sc_Tableinit : FnScope ["self", "columns", "at"] ["self", "columns"] (defScope s_Tableinit) := ⟨rfl, rfl, rfl, by decide +kernel, rfl, by decide +kernel, by decide +kernel⟩
theorem ok_Tableinit {aK fb : Addr} {fdb : FuncData} (F : FnM K "__init__" "Table.__init__" s_Tableinit f fd) (T : Txt K mg aK) (TC : TxC K C) (c_first_bad : Cal P w K mg base CX0 2 "first_bad" fb fdb ["names"] (spFirstBadA K)) : FnOk P w K mg base CX0 3 f fd ["self", "columns"] (spTableA K C) := by
  refine F.ok sc_Tableinit (fun vs H Q E h => ?_) (fun cdv A outer s H vs Q E hr h => ⟨_, PSs.nox (pss_cons (ps_set (i := 2) sc_Tableinit.nd rfl (Or.inl rfl) (pe_cal c_first_bad (hr.mono (by decide)) (pa_cons (pv 1) pa_nil)))
 (pss_cons (ps_if (pt_cmpR op_notN (pv 2) pe_non (nomark _))
 (pss_one ps_never)
 pss_nil)
 (pss_one (ps_fld (pv 0) (pe_callTy call_tuple_of (by rfl) T.tuple boot_tuple (pa_cons (pv 1) pa_nil)) rfl)))), ?_⟩)
  · obtain ⟨p, a, dx, xs, rfl, _⟩ := h
    rfl
  · obtain ⟨p, a, dx, xs, rfl, hp, ha, hlen, hx, hd, k⟩ := h
    refine ⟨_, rfl, a, xs, rfl, ha, hlen, hx, fun H1 R1 => ?_⟩
    rw [hd]
    refine ⟨_, rfl, rfl, _, rfl, iteNS rfl ?_⟩
    have hp1 := R1 _ _ hp
    rcases ha with ha | ha
    · refine ⟨_, rfl, a, xs, rfl, .inl ⟨R1.seq ha, fun t nt => ?_⟩⟩
      have npt := ne_of_none hp1 nt
      refine ⟨_, rfl, p, C, dx, [], rfl, (by rw [upd_ne npt]; exact hp1), TC.cl, TC.nC, (by show 0 < 1000; decide), ?_⟩
      refine k _ (fun q o n e => ?_) ⟨dx, t, upd_same, by rw [upd_ne npt.symm, upd_same]⟩
      rw [upd_ne n, upd_ne (ne_of_none (R1 _ _ e) nt)]
      exact R1 _ _ e
    · have ha1 := R1 _ _ ha
      refine ⟨_, rfl, a, xs, rfl, .inr ⟨SqT.of ha1, ?_⟩⟩
      refine ⟨_, rfl, p, C, dx, [], rfl, hp1, TC.cl, TC.nC, (by show 0 < 1000; decide), ?_⟩
      refine k _ (fun q o n e => ?_) ⟨dx, a, upd_same, by rw [upd_ne (ne_of ha1 hp1 nofun)]; exact ha1⟩
      rw [upd_ne n]
      exact R1 _ _ e

end
end K01

namespace K01
open PySem PySem.Spec PyProof.Rows L2 Own
structure TxG (mg : Str → Option Value) (C : Addr) : Prop extends Free mg where
  g_Table : mg "Table" = some (.ref C)
section
variable {P : Program} {w : World} {K : PySem.W.Frag} {mg : Str → Option Value} {base : Heap} {f C : Addr} {fd : FuncData}
theorem sc_Tablelen : FnScope ["self"] ["self"] (defScope s_Tablelen) := ⟨rfl, rfl, rfl, by decide +kernel, rfl, by decide +kernel, by decide +kernel⟩
theorem ok_Tablelen (F : FnM K "__len__" "Table.__len__" s_Tablelen f fd) (T : Free mg) (TC : TxC K C) : FnOk P w K mg base CX0 1 f fd ["self"] (spLenT C) := by
  refine F.ok sc_Tablelen (fun vs H Q E h => ?_) (fun cdv A outer s H vs Q E hr h => ⟨_, PSs.nox (pss_one (ps_ret (pe_callB call_len_seq (by rfl) T.len boot_len (pa_cons (pe_fld (pv 0) rfl) pa_nil)))), ?_⟩)
  · obtain ⟨p, xs, rfl, _⟩ := h
    rfl
  · obtain ⟨p, xs, rfl, ⟨dx, t, hp, ht⟩, k⟩ := h
    exact ⟨_, rfl, p, C, dx, _, _, rfl, hp, TC.cl, TC.nC, rfl, t, xs, rfl, .inr (SqT.of ht), k⟩
theorem sc_Tablerepr : FnScope ["self"] ["self"] (defScope s_Tablerepr) := ⟨rfl, rfl, rfl, by decide +kernel, rfl, by decide +kernel, by decide +kernel⟩
theorem ok_Tablerepr (F : FnM K "__repr__" "Table.__repr__" s_Tablerepr f fd) (T : Free mg) (TC : TxC K C) : FnOk P w K mg base CX0 1 f fd ["self"] (spReprT C) := by
  refine F.ok sc_Tablerepr (fun vs H Q E h => ?_) (fun cdv A outer s H vs Q E hr h => ⟨_, PSs.nox (pss_one (ps_ret (pe_joined (.cons pe_str (.cons (pe_fmt (pe_join pe_str (pe_fld (pv 0) rfl))) (.cons pe_str .nil)))))), ?_⟩)
  · obtain ⟨p, xs, rfl, _⟩ := h
    rfl
  · obtain ⟨p, ys, rfl, ⟨dx, t, hp, ht⟩, hc, k⟩ := h
    have h1 := sum_words hc.w
    have h3 := hc.l3
    have hj := join_len ", " ys
    have e2 : (", " : Str).length = 2 := rfl
    rw [e2] at hj
    have hj2 : (Txt.join ", " ys).length ≤ 30 := by omega
    refine ⟨_, rfl, (by decide), ?_⟩
    refine ⟨⟨_, rfl⟩, _, rfl, p, C, dx, _, _, rfl, hp, TC.cl, TC.nC, rfl, _, t, ys, rfl, rfl, .inr (SqT.of ht), (by rw [e2]; omega), ?_⟩
    refine .inl ⟨_, rfl, Nat.le_of_lt (small1000 (by omega)), _, rfl, ?_, ?_⟩
    · rw [Str.length_append]
      show 6 + _ ≤ _
      exact Nat.le_of_lt (small1000 (by omega))
    · refine ⟨_, rfl, ?_, k⟩
      rw [Str.length_append, Str.length_append]
      show 6 + _ + 1 ≤ _
      exact Nat.le_of_lt (small1000 (by omega))
theorem sc_Tableeq : FnScope ["self", "other"] ["self", "other"] (defScope s_Tableeq) := ⟨rfl, rfl, rfl, by decide +kernel, rfl, by decide +kernel, by decide +kernel⟩
theorem ok_Tableeq (F : FnM K "__eq__" "Table.__eq__" s_Tableeq f fd) (T : TxG mg C) (TC : TxC K C) (N : NeAt K C) : FnOk P w K mg base CX0 1 f fd ["self", "other"] (spEqT C) := by
  refine F.ok sc_Tableeq (fun vs H Q E h => ?_) (fun cdv A outer s H vs Q E hr h => ⟨_, PSs.nox (pss_one (ps_ret (pe_and (pe_callB call_isi (by rfl) T.isinstance boot_isinstance (pa_cons (pv 1) (pa_cons (pe_glob (v := .ref _) (by rfl) T.g_Table rfl) pa_nil))) (pe_one (pe_cmpR (op_eqD (hu_of' hr)) (pe_fld (pv 0) rfl) (pe_fld (pv 1) rfl) (nomark _)))))), ?_⟩)
  · obtain ⟨p, y, ys, rfl, _⟩ := h
    rfl
  · obtain ⟨p, y, ys, rfl, ⟨dx, t, hp, ht⟩, hw, k⟩ := h
    rcases k with ⟨q, zs, rfl, ⟨dy, u, hq, hu⟩, hz, k⟩ | ⟨t1, ht1, h3, k⟩
    · have kC : PySem.W.kitOne K (.ref C) (.ref C) = some true := by
        unfold PySem.W.kitOne
        rw [if_pos (beq_self_eq_true _)]
      refine ⟨_, rfl, _, _, _, _, _, rfl, .own _, N.ty hq, kC, _, rfl, iteT ?_⟩
      refine ⟨_, rfl, p, C, dx, _, _, rfl, hp, TC.cl, TC.nC, rfl, _, rfl, q, C, dy, _, _, rfl, hq, TC.cl, TC.nC, rfl, ?_⟩
      refine ⟨_, _, .tup (SqT.of ht) (dp_strs ys), .tup (SqT.of hu) (dp_strs zs), shaped_tupW hw, shaped_tupW hz, ?_⟩
      rw [eqv_tups]
      exact k
    · have kC : PySem.W.kitOne K (.type t1.nm) (.ref C) = some false := by
        rcases h3 with rfl | rfl | rfl
        · exact N.kL
        · exact N.kT
        · exact N.kS
      refine ⟨_, rfl, _, _, _, _, _, rfl, .own _, kd_ok ht1, kC, _, rfl, iteF ?_⟩
      exact k
end
end K01

namespace Own
open PySem PySem.Spec PyProof.Rows L2
def abcL : List Str := ["a", "b", "c", "d", "e", "f", "g", "h", "i", "j", "k", "l", "m", "n", "o", "p", "q", "r", "s", "t", "u", "v", "w", "x", "y", "z"]
theorem abc_signs : signsV "abcdefghijklmnopqrstuvwxyz" = abcL.map V.str := by decide +kernel
theorem abc_low : ∀ z ∈ abcL, z.length = 1 ∧ ∀ c ∈ z.cps.toList, lowB c = true := by decide +kernel
theorem abc_nd : abcL.Nodup := by decide +kernel
theorem abc_kept : ∀ z ∈ abcL, z ∉ keptL := by decide +kernel
theorem cps_app (a b : Str) : (a ++ b).cps.toList = a.cps.toList ++ b.cps.toList := by
  show (a.cps ++ b.cps).toList = _
  exact Array.toList_append
theorem len_cps (a : Str) : a.cps.toList.length = a.length := Array.length_toList
theorem low_app {a b : Str} (ha : ∀ c ∈ a.cps.toList, lowB c = true) (hb : ∀ c ∈ b.cps.toList, lowB c = true) : ∀ c ∈ (a ++ b).cps.toList, lowB c = true := fun c hc => by
  rw [cps_app] at hc
  rcases List.mem_append.mp hc with hc | hc
  · exact ha c hc
  · exact hb c hc
theorem low_cut {z : Str} {lo hi : Option Int} (h : ∀ c ∈ z.cps.toList, lowB c = true) : ∀ c ∈ (cutS z lo hi).cps.toList, lowB c = true := fun c hc => by
  unfold cutS at hc
  exact h c (List.mem_of_mem_drop (List.mem_of_mem_take hc))
theorem len_cutS (z : Str) (lo hi : Option Int) : (cutS z lo hi).length = min (HT.sIx z.length z.length hi - HT.sIx z.length 0 lo) (z.length - HT.sIx z.length 0 lo) := by
  show (((z.cps.toList.drop (HT.sIx z.length 0 lo)).take (HT.sIx z.length z.length hi - HT.sIx z.length 0 lo)).toArray).size = _
  rw [List.size_toArray, List.length_take, List.length_drop, Array.length_toList] <;> rfl
theorem len_takeS {z : Str} {i : Nat} (h : i ≤ z.length) : (cutS z none (some (i : Int))).length = i := by
  rw [len_cutS, HT.sIx_none, HT.sIx_nat]
  omega
theorem len_dropS {z : Str} {i : Nat} (h : i ≤ z.length) : (cutS z (some (i : Int)) none).length = z.length - i := by
  rw [len_cutS, HT.sIx_none, HT.sIx_nat]
  omega
theorem low_swap {z x : Str} {d : Int} (hz : lowS z) (hx : x.length = 1) (hl : ∀ c ∈ x.cps.toList, lowB c = true) (d0 : 0 ≤ d) (d1 : d < z.length) : lowS (cutS z none (some d) ++ x ++ cutS z (some (d + 1)) none) := by
  obtain ⟨j, rfl⟩ : ∃ j : Nat, d = j := ⟨d.toNat, by omega⟩
  have e1 : (cutS z none (some (j : Int))).length = j := len_takeS (by omega)
  have e2 : (cutS z (some ((j : Int) + 1)) none).length = z.length - (j + 1) := by
    have q := len_dropS (z := z) (i := j + 1) (by omega)
    exact q
  obtain ⟨h1, h2, h3⟩ := hz
  refine ⟨?_, ?_, low_app (low_app (low_cut h3) hl) (low_cut h3)⟩
  · rw [Str.length_append, Str.length_append]
    omega
  · rw [Str.length_append, Str.length_append]
    omega
theorem word_of {z : Str} (h : lowS z) (hk : z ∉ keptL) : wordB z = true := by
  obtain ⟨h1, h2, h3⟩ := h
  unfold wordB
  rw [inV_str, decide_eq_false hk]
  simp only [Bool.not_false, Bool.true_and, Bool.and_eq_true, decide_eq_true_eq]
  exact ⟨⟨by omega, by omega⟩, List.all_eq_true.mpr h3⟩
theorem not_kept {z : Str} (h : wordB z = true) : z ∉ keptL := fun hm => by
  unfold wordB at h
  rw [inV_str, decide_eq_true hm] at h
  simp at h
theorem nodup_sub : ∀ (l m : List Str), l.Nodup → (∀ x ∈ l, x ∈ m) → l.length ≤ m.length
  | [], _, _, _ => Nat.zero_le _
  | x :: l, m, hn, h => by
    obtain ⟨n1, n2⟩ := List.nodup_cons.mp hn
    have hx := h x (List.mem_cons_self ..)
    have ih := nodup_sub l (m.erase x) n2 fun y hy => (List.mem_erase_of_ne (fun e : y = x => n1 (by rw [← e]; exact hy))).mpr (h y (List.mem_cons_of_mem _ hy))
    rw [List.length_erase_of_mem hx] at ih
    have := List.length_pos_of_mem hx
    rw [List.length_cons]
    omega
/-- a letter that is not among three -/
theorem abc_free {us : List Str} (h : us.length ≤ 3) : ∃ z ∈ abcL, z ∉ us := by
  by_cases q : ∃ z ∈ abcL, z ∉ us
  · exact q
  · have q2 : ∀ x ∈ abcL, x ∈ us := fun x hx => Classical.byContradiction fun n => q ⟨x, hx, n⟩
    have := nodup_sub abcL us abc_nd q2
    have e : abcL.length = 26 := rfl
    omega
theorem filter_snoc {α : Type} {xs : List α} {i : Nat} {x : α} (p : α → Bool) (h : xs[i]? = some x) : (xs.take (i + 1)).filter p = (xs.take i).filter p ++ if p x = true then [x] else [] := by
  rw [take_snoc h, List.filter_append, List.filter_cons, List.filter_nil]
theorem atI_last {α : Type} {xs : List α} {v : α} (h : xs[xs.length - 1]? = some v) : atI xs (-1) = some v := by
  have hj : xs.length - 1 < xs.length := (List.getElem?_eq_some_iff.mp h).1
  have e : ixN xs.length (-1) = some (xs.length - 1) := by
    unfold ixN
    rw [if_neg (by omega), if_pos (by omega)]
    congr 1
    omega
  unfold atI
  rw [e]
  exact h
/-- a new word -/
def spWord (K : PySem.W.Frag) : Sp := fun vs H Q _ => ∃ (b u : Addr) (us : List Str), vs = [.ref b, .ref u] ∧ Bag H b ∧ u ≠ b ∧ SqL K H u (us.map V.str) ∧ Words us ∧ us.length ≤ 3 ∧
  ∀ (z : Str) (H' : Hp), wordB z = true → z ∉ us → But b H H' → Bag H' b → Q (.str z) H'
end Own

namespace K01
open PySem PySem.Spec PyProof.Rows L2 Own
def kpL : List Str := ["def", "if", "else", "for", "in", "break", "skip", "refuse", "take", "guard", "blank", "every", "none", "any", "all", "pick", "given", "and", "or", "not", "true", "false", "self"]
theorem kp_perm : kpL.Perm keptL := by decide +kernel
section
variable {P : Program} {w : World} {K : PySem.W.Frag} {mg : Str → Option Value} {base : Heap} {f C : Addr} {fd : FuncData}
theorem sc_law_word : FnScope ["bag", "used", "letters", "kept", "word", "turn", "at", "one"] ["bag", "used"] (defScope s_law_word) := ⟨rfl, rfl, rfl, by decide +kernel, rfl, by decide +kernel, by decide +kernel⟩
theorem ok_word {ft fo : Addr} {fdt fdo : FuncData} (F : FnP K "_law_word" s_law_word f fd) (T : Free mg) (c_law_take : Cal P w K mg base CX0 1 "_law_take" ft fdt ["bag", "many"] spTake)
    (c_law_of : Cal P w K mg base CX0 2 "_law_of" fo fdo ["bag", "some"] (spOf K)) : FnOk P w K mg base CX0 3 f fd ["bag", "used"] (spWord K) := by
  refine F.ok sc_law_word (fun vs H Q E h => ?_) (fun cdv A outer s H vs Q E hr h => ?_)
  · obtain ⟨b, u, us, rfl, _⟩ := h
    rfl
  · obtain ⟨b, u, us, rfl, hb, nub, hu, hw, hl, k⟩ := h
    refine ⟨_, PSs.nox (pss_cons (ps_set (i := 2) sc_law_word.nd rfl (Or.inl rfl) (pe_callTy (call_list_str rfl) (by rfl) T.list boot_list (pa_cons pe_str pa_nil)))
 (pss_cons (ps_set (i := 3) sc_law_word.nd rfl (Or.inr rfl) (pe_lst (pa_cons pe_str (pa_cons pe_str (pa_cons pe_str (pa_cons pe_str (pa_cons pe_str (pa_cons pe_str (pa_cons pe_str (pa_cons pe_str (pa_cons pe_str (pa_cons pe_str (pa_cons pe_str (pa_cons pe_str (pa_cons pe_str pa_nil)))))))))))))))
 (pss_cons (ps_set (i := 3) sc_law_word.nd rfl (Or.inr rfl) (pe_op op_cat (pv 3) (pe_lst (pa_cons pe_str (pa_cons pe_str (pa_cons pe_str (pa_cons pe_str (pa_cons pe_str (pa_cons pe_str (pa_cons pe_str (pa_cons pe_str (pa_cons pe_str (pa_cons pe_str pa_nil)))))))))))))
 (pss_cons (ps_set (i := 4) sc_law_word.nd rfl (Or.inl rfl) pe_str)
 (pss_cons (ps_for PassesOwn.never rfl (pi_range1 (by rfl) T.range (pa_cons (pe_op op_add pe_int (pe_cal c_law_take (hr.mono (by decide)) (pa_cons (pv 0) (pa_cons pe_int pa_nil)))) pa_nil)) (pg_name (i := 5) sc_law_word.nd rfl (Or.inl rfl))
 (pss_one (ps_set (i := 4) sc_law_word.nd rfl (Or.inl rfl) (pe_op op_add_str (pv 4) (pe_cal c_law_of (hr.mono (by decide)) (pa_cons (pv 0) (pa_cons (pv 2) pa_nil)))))))
 (pss_cons (ps_if (PW.pt (pw_and (pt_cmpR (op_neD (hu_of' hr)) (pv 1) (pe_lst pa_nil) (nomark _)) (pw_and1 (pt_cmpR op_eq (pe_cal c_law_take (hr.mono (by decide)) (pa_cons (pv 0) (pa_cons pe_int pa_nil))) pe_int (nomark _)))))
 (pss_cons (ps_set (i := 6) sc_law_word.nd rfl (Or.inl rfl) (pe_cal c_law_take (hr.mono (by decide)) (pa_cons (pv 0) (pa_cons (pe_callB call_len_str (by rfl) T.len boot_len (pa_cons (pe_ix ix_list (pv 1) (pe_un un_neg pe_int) (fun _ _ => rfl)) pa_nil)) pa_nil))))
 (pss_one (ps_set (i := 4) sc_law_word.nd rfl (Or.inl rfl) (pe_op op_add_str (pe_op op_add_str (pe_slice sl_str (pe_ix ix_list (pv 1) (pe_un un_neg pe_int) (fun _ _ => rfl)) po_none (po_some (pv 6))) (pe_cal c_law_of (hr.mono (by decide)) (pa_cons (pv 0) (pa_cons (pv 2) pa_nil)))) (pe_slice sl_str (pe_ix ix_list (pv 1) (pe_un un_neg pe_int) (fun _ _ => rfl)) (po_some (pe_op op_add (pv 6) pe_int)) po_none)))))
 pss_nil)
 (pss_cut (t' := fun D σ H' => ∃ (z : Str) (l p : Addr) (tv av : Option V), σ = [some (.ref b), some (.ref u), some (.ref l), some (.ref p), some (.str z), tv, av, none] ∧ lowS z ∧ But b H H' ∧ Bag H' b ∧ H' l = some (.lst (abcL.map V.str)) ∧ H' p = some (.lst (kpL.map V.str)) ∧ ∀ (z : Str) (H' : Hp), wordB z = true → z ∉ us → But b H H' → Bag H' b → D.rt (.str z) H') (pss_one (ps_ret (pe_ix ix_list (pe_lc (own := [("one", 7)]) rfl sc_law_word.nd (pi_list (pe_op op_cat (pe_lst (pa_cons (pv 4) pa_nil)) (pv 2))) (blkOk_by (N := ["bag", "used", "letters", "kept", "word", "turn", "at", "one"]) (sc := defScope s_law_word) (by decide +kernel)) (fun _ _ _ _ _ => (pg_name (i := 7) sc_law_word.nd rfl (Or.inl rfl))) (fun _ _ _ _ _ => (pts_one (PW.pt (pw_and (pt_cmpR (show OpR _ (compareOp .NotIn) (rIn K true) from op_notIn_seq) (pv 7) (pv 3) (by rfl)) (pw_and1 (pt_cmpR (show OpR _ (compareOp .NotIn) (rIn K true) from op_notIn_seq) (pv 7) (pv 1) (by rfl))))))) (fun _ _ _ _ _ => (pv 7))) pe_int (fun _ _ => rfl)))) ?c1))))))), ?_⟩
    case c1 =>
      rintro D σ H1 ⟨z, l, p, tv, av, rfl, hz, B1, hb1, hl1, hp1, k1⟩
      have hcand : ∀ (i : Nat) (x : V), ((z :: abcL).map V.str)[i]? = some x → ∃ y : Str, x = .str y ∧ (z :: abcL)[i]? = some y := by
        intro i x hx
        rw [List.getElem?_map] at hx
        cases e : (z :: abcL)[i]? with
        | none => rw [e] at hx; cases hx
        | some y => rw [e] at hx; cases hx; exact ⟨y, rfl, rfl⟩
      refine ⟨_, rfl, (by show 1 ≤ sizeLine; decide), fun c1 nc1 => ?_⟩
      have nlc1 := ne_of_none hl1 nc1
      refine ⟨_, rfl, c1, l, [V.str z], abcL.map V.str, rfl, rfl, upd_same, (by rw [upd_ne nlc1]; exact hl1), (by show 1 + 26 ≤ sizeLine; decide), fun c nc => ?_⟩
      have S2 : Same H1 (upd (upd H1 c1 (.lst [V.str z])) c (.lst ([V.str z] ++ abcL.map V.str))) := (same_newH nc1).trans (same_newH nc)
      have hc2 : upd (upd H1 c1 (.lst [V.str z])) c (.lst ([V.str z] ++ abcL.map V.str)) c = some (.lst ((z :: abcL).map V.str)) := upd_same
      generalize upd (upd H1 c1 (.lst [V.str z])) c (.lst ([V.str z] ++ abcL.map V.str)) = H2 at *
      refine ⟨c, rfl, ⟨_, SqL.of hc2⟩, fun D2 nD => ?_⟩
      let pf : Str → Bool := fun y => !(decide (y ∈ kpL)) && !(decide (y ∈ us))
      have ncD := ne_of_none hc2 nD
      have hU : SqL K H2 u (us.map V.str) := (B1.trans (But.same S2)).list nub hu
      have hp2 := S2 _ _ hp1
      refine lc_list (xs := (z :: abcL).map V.str) (fun i H' => H' = upd H2 D2 (.lst ((((z :: abcL).take i).filter pf).map V.str))) rfl (fun i H' _ e => ?_) (fun i x H' hx e => ?_) (fun H' e => ?_)
      · subst e
        exact SqL.of (by rw [upd_ne ncD]; exact hc2)
      · subst e
        obtain ⟨y, rfl, hy⟩ := hcand i x hx
        have S3 := same_newH (o := .lst ((((z :: abcL).take i).filter pf).map V.str)) nD
        have step : ∀ b : Bool, b = pf y → upd H2 D2 (.lst ((((z :: abcL).take (i + 1)).filter pf).map V.str)) = upd H2 D2 (.lst ((((z :: abcL).take i).filter pf ++ if b = true then [y] else []).map V.str)) := by
          intro b eb
          rw [filter_snoc pf hy, eb]
        refine ⟨rfl, _, rfl, _, rfl, p, kpL.map V.str, rfl, .inl (SqL.of (S3 _ _ hp2)), rfl, flat_strs _, _, rfl, ?_⟩
        have e1 : (!inV (.str y) (kpL.map V.str)) = !(decide (y ∈ kpL)) := by rw [inV_str]
        have e2 : (!inV (.str y) (us.map V.str)) = !(decide (y ∈ us)) := by rw [inV_str]
        refine ite2 (fun h1 => ?_) (fun h1 => ?_)
        · have h1 : (!(decide (y ∈ kpL))) = true := e1.symm.trans h1
          refine ⟨_, rfl, _, rfl, u, us.map V.str, rfl, .inl (S3.seq hU), rfl, flat_strs _, _, rfl, ?_⟩
          refine ite2 (fun h2 => ?_) (fun h2 => ?_)
          · have h2 : (!(decide (y ∈ us))) = true := e2.symm.trans h2
            refine ⟨_, rfl, _, upd_same, small1000 ?_, ?_⟩
            · rw [List.length_map]
              have q1 := List.length_filter_le pf ((z :: abcL).take i)
              have q2 : ((z :: abcL).take i).length ≤ 27 := by
                rw [List.length_take]
                exact Nat.min_le_right _ _
              omega
            · rw [upd_upd, step true (by show true = (_ && _); rw [h1, h2]; rfl), if_pos rfl, List.map_append] <;> rfl
          · have h2 : (!(decide (y ∈ us))) = false := by
              rw [← e2, ← Bool.not_eq_true]
              exact h2
            rw [step false (by show false = (_ && _); rw [h2, Bool.and_false]), if_neg (by decide), List.append_nil] <;> rfl
        · have h1 : (!(decide (y ∈ kpL))) = false := by
            rw [← e1, ← Bool.not_eq_true]
            exact h1
          rw [step false (by show false = (_ && _); rw [h1, Bool.false_and]), if_neg (by decide), List.append_nil] <;> rfl
      · subst e
        obtain ⟨y0, hy0, hy1⟩ := abc_free hl
        have hy2 : y0 ∈ (z :: abcL).filter pf := by
          refine List.mem_filter.mpr ⟨List.mem_cons_of_mem _ hy0, ?_⟩
          show (!(decide (y0 ∈ kpL)) && !(decide (y0 ∈ us))) = true
          rw [decide_eq_false hy1, decide_eq_false fun q => abc_kept y0 hy0 (kp_perm.mem_iff.mp q)] <;> rfl
        rw [List.length_map, List.take_of_length_le (Nat.le_refl _)]
        obtain ⟨y, r, er⟩ : ∃ y r, (z :: abcL).filter pf = y :: r := by
          cases e : (z :: abcL).filter pf with
          | nil => rw [e] at hy2; cases hy2
          | cons y r => exact ⟨y, r, rfl⟩
        have hy : y ∈ (z :: abcL).filter pf := by rw [er]; exact List.mem_cons_self ..
        rw [er]
        obtain ⟨g1, g2⟩ := List.mem_filter.mp hy
        have g3 : (!(decide (y ∈ kpL)) && !(decide (y ∈ us))) = true := g2
        simp only [Bool.and_eq_true, Bool.not_eq_true', decide_eq_false_iff_not] at g3
        have hlow : lowS y := by
          rcases List.mem_cons.mp g1 with rfl | g1
          · exact hz
          · obtain ⟨q1, q2⟩ := abc_low y g1
            exact ⟨by omega, by omega, q2⟩
        refine ⟨D2, _, 0, _, rfl, rfl, SqL.of upd_same, atI_nat (xs := (y :: r).map V.str) (j := 0) (v := .str y) rfl, ?_⟩
        refine k1 y _ (word_of hlow fun q => g3.1 (kp_perm.mem_iff.mpr q)) g3.2 ((B1.trans (But.same S2)).new nD) ((hb1.same S2).new nD)
    · refine ⟨_, rfl, (by decide), fun l nl => ?_⟩
      rw [abc_signs]
      have S1 := same_newH (o := .lst (abcL.map V.str)) nl
      have hb1 : Bag (upd H l (.lst (abcL.map V.str))) b := hb.new nl
      have nlb : l ≠ b := (hb.ne nl).symm
      refine ⟨(by show 13 ≤ sizeLine; decide), fun p1 n1 => ?_⟩
      refine ⟨_, rfl, (by show 10 ≤ sizeLine; decide), fun p2 n2 => ?_⟩
      have S2 := same_newH (o := .lst [V.str "any", V.str "all", V.str "pick", V.str "given", V.str "and", V.str "or", V.str "not", V.str "true", V.str "false", V.str "self"]) n2
      refine ⟨p1, p2, _, _, rfl, rfl, S2 _ _ upd_same, upd_same, (by show 13 + 10 ≤ sizeLine; decide), fun p n3 => ?_⟩
      have hb4 := ((hb1.new (o := .lst [V.str "def", V.str "if", V.str "else", V.str "for", V.str "in", V.str "break", V.str "skip", V.str "refuse", V.str "take", V.str "guard", V.str "blank", V.str "every", V.str "none"]) n1).new (o := .lst [V.str "any", V.str "all", V.str "pick", V.str "given", V.str "and", V.str "or", V.str "not", V.str "true", V.str "false", V.str "self"]) n2)
      have npb : p ≠ b := (hb4.ne n3).symm
      have hb5 : Bag _ b := hb4.new (o := .lst (kpL.map V.str)) n3
      have S4 := ((same_newH (o := .lst [V.str "def", V.str "if", V.str "else", V.str "for", V.str "in", V.str "break", V.str "skip", V.str "refuse", V.str "take", V.str "guard", V.str "blank", V.str "every", V.str "none"]) n1).trans S2).trans (same_newH (o := .lst (kpL.map V.str)) n3)
      have B0 : But b H _ := But.same (S1.trans S4)
      refine ⟨_, rfl, b, 8, rfl, hb5, by decide, by decide, fun d H6 d0 d1 B6 hb6 => ?_⟩
      refine ⟨_, _, rfl, rfl, _, rfl, by omega, by omega, ?_⟩
      refine for_range (fun i σ H' => ∃ (z : Str) (tv : Option V), σ = [some (.ref b), some (.ref u), some (.ref l), some (.ref p), some (.str z), tv, none, none] ∧ But b H H' ∧ Bag H' b ∧ H' l = some (.lst (abcL.map V.str)) ∧ H' p = some (.lst (kpL.map V.str)) ∧ z.length = i ∧ ∀ c ∈ z.cps.toList, lowB c = true)
        ⟨"", none, rfl, B0.trans B6, hb6, B6 _ _ nlb (S4 _ _ upd_same), B6 _ _ npb upd_same, rfl, by decide⟩ ?_ ?_
      · rintro i σ H7 hi ⟨z, tv, rfl, B7, hb7, hl7, hp7, hn, hz⟩
        refine ⟨_, rfl, _, rfl, _, rfl, b, l, _, rfl, hb7, nlb, SqL.of hl7, (by decide), (by show 26 < 1000000; decide), fun v H8 hv B8 hb8 => ?_⟩
        obtain ⟨x, hx, rfl⟩ := List.mem_map.mp hv
        obtain ⟨x1, x2⟩ := abc_low x hx
        refine ⟨_, _, rfl, rfl, Nat.le_of_lt (small1000 (by omega)), ?_⟩
        exact ⟨_, _, rfl, B7.trans B8, hb8, B8 _ _ nlb hl7, B8 _ _ npb hp7, by rw [Str.length_append, hn, x1], low_app hz x2⟩
      · rintro σ H7 ⟨z, tv, rfl, B7, hb7, hl7, hp7, hn, hz⟩
        have hzl : lowS z := ⟨by omega, by omega, hz⟩
        refine ⟨_, rfl, Nat.zero_le _, fun e ne => ?_⟩
        have hl8 := (same_newH (o := .lst []) ne) _ _ hl7
        have hp8 := (same_newH (o := .lst []) ne) _ _ hp7
        have B8 := B7.new (o := .lst []) ne
        have hb8 : Bag (upd H7 e (.lst [])) b := hb7.new ne
        have hU : ∀ H', But b H H' → SqL K H' u (us.map V.str) := fun H' B => B.list nub hu
        refine ⟨.list (us.map PyData.str), .list [], .lst (hU _ B8) (dp_strs us), .lst (SqL.of upd_same) .nil, shaped_lstW hw, shaped_nil, _, rfl, ?_⟩
        rw [show PyData.eqv (.list (us.map PyData.str)) (.list []) = decide (us = []) from eqv_lsts us []]
        refine ite2 (fun hne => ?_) (fun _ => ?_)
        rotate_left
        · exact ⟨z, l, p, _, none, rfl, hzl, B8, hb8, hl8, hp8, k⟩
        have hne2 : us ≠ [] := by
          intro q
          rw [decide_eq_true q] at hne
          cases hne
        have hpos : 0 < us.length := List.length_pos_iff.mpr hne2
        obtain ⟨zl, hzl2⟩ : ∃ zl, us[us.length - 1]? = some zl := ⟨_, List.getElem?_eq_getElem (by omega)⟩
        have hwl : lowS zl := low_of (hw zl (List.mem_of_getElem? hzl2))
        have hat : atI (us.map V.str) (-1) = some (.str zl) := atI_last (by rw [List.length_map, List.getElem?_map, hzl2]; rfl)
        obtain ⟨w1, w2, w3⟩ := hwl
        have hz8 : zl.length ≤ sizeLine := Nat.le_of_lt (small1000 (by omega))
        refine ⟨_, rfl, b, _, rfl, hb8, by decide, by decide, fun d2 H9 _ _ B9 hb9 => ?_⟩
        refine ⟨rfl, _, rfl, ite2 (fun _ => ?_) (fun _ => ?_)⟩
        rotate_left
        · exact ⟨z, l, p, _, none, rfl, hzl, B8.trans B9, hb9, B9 _ _ nlb hl8, B9 _ _ npb hp8, k⟩
        have B09 := B8.trans B9
        refine ⟨_, rfl, _, rfl, _, rfl, u, _, -1, _, rfl, rfl, hU _ B09, hat, zl, rfl, hz8, b, _, rfl, hb9, by omega, by omega, fun d3 H10 e0 e1 B10 hb10 => ?_⟩
        have B010 := B09.trans B10
        have hl10 := B10 _ _ nlb (B9 _ _ nlb hl8)
        have hp10 := B10 _ _ npb (B9 _ _ npb hp8)
        refine ⟨_, rfl, _, rfl, u, _, -1, _, rfl, rfl, hU _ B010, hat, _, rfl, _, rfl, zl, rfl, hz8, ?_⟩
        refine ⟨_, rfl, _, rfl, b, l, _, rfl, hb10, nlb, SqL.of hl10, (by decide), (by show 26 < 1000000; decide), fun v H11 hv B11 hb11 => ?_⟩
        obtain ⟨x, hx, rfl⟩ := List.mem_map.mp hv
        obtain ⟨x1, x2⟩ := abc_low x hx
        have hsw := low_swap (z := zl) ⟨w1, w2, w3⟩ x1 x2 e0 e1
        have hc1 := cutS_length zl none (some d3)
        refine ⟨_, _, rfl, rfl, Nat.le_of_lt (small1000 (by omega)), ?_⟩
        have B011 := B010.trans B11
        refine ⟨_, rfl, _, rfl, u, _, -1, _, rfl, rfl, hU _ B011, hat, ?_⟩
        have hc2 := cutS_length zl (some (d3 + 1)) none
        have hc3 := hsw.2.1
        rw [Str.length_append] at hc3
        refine ⟨_, rfl, _, _, rfl, rfl, _, rfl, zl, rfl, hz8, _, _, rfl, rfl, Nat.le_of_lt (small1000 (by omega)), ?_⟩
        exact ⟨_, l, p, _, _, rfl, hsw, B011, hb11, B11 _ _ nlb hl10, B11 _ _ npb hp10, k⟩
end
end K01

namespace K01
open PySem PySem.Spec PyProof.Rows L2 Own
/-- m different words, as a new list -/
def spWords : Sp := fun vs H Q _ => ∃ (b : Addr) (m : Int), vs = [.ref b, .int m] ∧ Bag H b ∧ 1 ≤ m ∧ m ≤ 3 ∧
  ∀ (l : Addr) (ws : List Str) (H' : Hp), Cols ws → H l = none → l ≠ b → H' l = some (.lst (ws.map V.str)) → But b H H' → Bag H' b → Q (.ref l) H'
/-- other words, as a new list -/
def spOthers : Sp := fun vs H Q _ => ∃ (b u : Addr) (us : List Str), vs = [.ref b, .ref u] ∧ Bag H b ∧ u ≠ b ∧ H u = some (.lst (us.map V.str)) ∧ Cols us ∧
  ∀ (l : Addr) (ws : List Str) (H' : Hp), Cols ws → H l = none → l ≠ b → H' l = some (.lst (ws.map V.str)) → But b H H' → Bag H' b → Q (.ref l) H'
def cutU (us : List Str) (lo hi : Option Int) : List Str := (us.drop (HT.sIx us.length 0 lo)).take (HT.sIx us.length us.length hi - HT.sIx us.length 0 lo)
theorem cutV_map (us : List Str) (lo hi : Option Int) : cutV (us.map V.str) lo hi = (cutU us lo hi).map V.str := by
  unfold cutV cutU
  rw [List.length_map, ← List.map_drop, ← List.map_take] <;> rfl
theorem cutU_sub (us : List Str) (lo hi : Option Int) : (cutU us lo hi).Sublist us := (List.take_sublist _ _).trans (List.drop_sublist _ _)
theorem cutU_len (us : List Str) (lo hi : Option Int) : (cutU us lo hi).length = min (HT.sIx us.length us.length hi - HT.sIx us.length 0 lo) (us.length - HT.sIx us.length 0 lo) := by
  unfold cutU
  rw [List.length_take, List.length_drop]
theorem cols_sub {us ws : List Str} (c : Cols us) (h : ws.Sublist us) (l : 1 ≤ ws.length) : Cols ws :=
  ⟨fun z hz => c.w z (h.subset hz), List.Pairwise.sublist h c.nd, l, Nat.le_trans h.length_le c.l3⟩
theorem cutU_take (us : List Str) (i : Nat) : cutU us none (some (i : Int)) = us.take i := by
  unfold cutU
  rw [HT.sIx_none, HT.sIx_nat, List.drop_zero, Nat.sub_zero, ← List.take_eq_take_min]
theorem cutU_drop (us : List Str) (i : Nat) : cutU us (some (i : Int)) none = us.drop i := by
  unfold cutU
  rw [HT.sIx_none, HT.sIx_nat, List.take_of_length_le (by rw [List.length_drop]; exact Nat.le_refl _)]
  rcases Nat.le_total i us.length with h | h
  · rw [Nat.min_eq_left h]
  · rw [Nat.min_eq_right h, List.drop_length, List.drop_of_length_le h]
theorem cols_mid {us : List Str} {z : Str} {i : Nat} (c : Cols us) (hz : wordB z = true) (hn : z ∉ us) (hi : i < us.length) : Cols (us.take i ++ [z] ++ us.drop (i + 1)) := by
  have p : (us.take i ++ [z] ++ us.drop (i + 1)).Perm (z :: us.eraseIdx i) := by
    rw [List.append_assoc, List.eraseIdx_eq_take_drop_succ]
    exact List.perm_middle
  have hl : (us.eraseIdx i).length = us.length - 1 := by rw [List.length_eraseIdx, if_pos hi]
  have q1 := c.l1
  have q3 := c.l3
  refine ⟨fun y hy => ?_, p.nodup_iff.mpr (List.nodup_cons.mpr ⟨fun hm => hn ((List.eraseIdx_sublist us i).subset hm), List.Pairwise.sublist (List.eraseIdx_sublist us i) c.nd⟩), ?_, ?_⟩
  · rcases List.mem_cons.mp (p.mem_iff.mp hy) with rfl | hy
    · exact hz
    · exact c.w y ((List.eraseIdx_sublist us i).subset hy)
  · rw [p.length_eq, List.length_cons]
    omega
  · rw [p.length_eq, List.length_cons]
    omega
section
variable {P : Program} {w : World} {K : PySem.W.Frag} {mg : Str → Option Value} {base : Heap} {f C : Addr} {fd : FuncData}
theorem sc_law_words : FnScope ["bag", "many", "words", "turn"] ["bag", "many"] (defScope s_law_words) := ⟨rfl, rfl, rfl, by decide +kernel, rfl, by decide +kernel, by decide +kernel⟩
theorem ok_words {fw : Addr} {fdw : FuncData} (F : FnP K "_law_words" s_law_words f fd) (T : Free mg) (c_law_word : Cal P w K mg base CX0 3 "_law_word" fw fdw ["bag", "used"] (spWord K)) : FnOk P w K mg base CX0 4 f fd ["bag", "many"] spWords := by
  refine F.ok sc_law_words (fun vs H Q E h => ?_) (fun cdv A outer s H vs Q E hr h => ⟨_, PSs.nox (pss_cons (ps_set (i := 2) sc_law_words.nd rfl (Or.inl rfl) (pe_lst pa_nil))
 (pss_cons (ps_for PassesOwn.never rfl (pi_range1 (by rfl) T.range (pa_cons (pv 1) pa_nil)) (pg_name (i := 3) sc_law_words.nd rfl (Or.inl rfl))
 (pss_one (ps_expr (pe_bm PySem.F.plainAttrs_list PySem.F.slot_list_append PySem.F.type_list_append mt_append (pv 2) (pa_cons (pe_cal c_law_word (hr.mono (by decide)) (pa_cons (pv 0) (pa_cons (pv 2) pa_nil))) pa_nil)))))
 (pss_one (ps_ret (pv 2))))), ?_⟩)
  · obtain ⟨b, m, rfl, _⟩ := h
    rfl
  · obtain ⟨b, m, rfl, hb, h1, h3, k⟩ := h
    refine ⟨Nat.zero_le _, fun l nl => ?_⟩
    have nlb : l ≠ b := (hb.ne nl).symm
    refine ⟨_, rfl, _, rfl, by omega, by omega, ?_⟩
    refine for_range (fun i σ H' => ∃ (ws : List Str) (tv : Option V), σ = [some (.ref b), some (.int m), some (.ref l), tv] ∧ But b H H' ∧ Bag H' b ∧ H' l = some (.lst (ws.map V.str)) ∧ Words ws ∧ ws.Nodup ∧ ws.length = i)
      ⟨[], none, rfl, But.same (same_newH nl), hb.new nl, upd_same, (fun _ h => by cases h), List.nodup_nil, rfl⟩ ?_ ?_
    · rintro i σ H1 hi ⟨ws, tv, rfl, B1, hb1, hl1, hw, hn, hz'⟩
      refine ⟨_, rfl, .inl ⟨rfl, _, SqL.of hl1⟩, _, rfl, _, rfl, b, l, ws, rfl, hb1, nlb, SqL.of hl1, hw, by omega, fun z H2 hz hzn B2 hb2 => ?_⟩
      have hl2 := B2 _ _ nlb hl1
      refine ⟨l, _, _, rfl, rfl, hl2, small1000 (by rw [List.length_map]; omega), ?_⟩
      refine ⟨ws ++ [z], _, rfl, (B1.trans B2).putb nl, hb2.put nlb.symm, by rw [upd_same, List.map_append]; rfl, fun y hy => ?_, ?_, by rw [List.length_append, hz']; rfl⟩
      · rcases List.mem_append.mp hy with hy | hy
        · exact hw y hy
        · rw [List.mem_singleton.mp hy]
          exact hz
      · have p : (ws ++ [z]).Perm (z :: ws) := List.perm_append_comm
        exact p.nodup_iff.mpr (List.nodup_cons.mpr ⟨hzn, hn⟩)
    · rintro σ H1 ⟨ws, tv, rfl, B1, hb1, hl1, hw, hn, hz⟩
      refine ⟨_, rfl, ?_⟩
      exact k l ws _ ⟨hw, hn, by omega, by omega⟩ nl nlb hl1 B1 hb1
theorem sc_law_others : FnScope ["bag", "words", "way", "at"] ["bag", "words"] (defScope s_law_others) := ⟨rfl, rfl, rfl, by decide +kernel, rfl, by decide +kernel, by decide +kernel⟩
theorem ok_others {fw ft : Addr} {fdw fdt : FuncData} (F : FnP K "_law_others" s_law_others f fd) (T : Free mg) (c_law_take : Cal P w K mg base CX0 1 "_law_take" ft fdt ["bag", "many"] spTake)
    (c_law_word : Cal P w K mg base CX0 3 "_law_word" fw fdw ["bag", "used"] (spWord K)) : FnOk P w K mg base CX0 4 f fd ["bag", "words"] spOthers := by
  refine F.ok sc_law_others (fun vs H Q E h => ?_) (fun cdv A outer s H vs Q E hr h => ?_)
  · obtain ⟨b, u, us, rfl, _⟩ := h
    rfl
  · obtain ⟨b, u, us, rfl, hb, nub, hu, hc, k⟩ := h
    have q1 := hc.l1
    have q3 := hc.l3
    have fre : ∀ {p : Addr} {H' : Hp}, But b H H' → Bag H' b → H' p = none → H p = none ∧ p ≠ b := fun B hB np => ⟨B.free (hB.ne np).symm np, (hB.ne np).symm⟩
    refine ⟨_, PSs.nox (pss_cons (ps_set (i := 2) sc_law_others.nd rfl (Or.inl rfl) (pe_cal c_law_take (hr.mono (by decide)) (pa_cons (pv 0) (pa_cons pe_int pa_nil))))
 (pss_cons (ps_if (pt_cmpR op_eq (pv 2) pe_int (nomark _))
 (pss_one (ps_ret (pe_revL (pv 1))))
 pss_nil)
 (pss_cons (ps_if (PW.pt (pw_and (pt_cmpR op_eq (pv 2) pe_int (nomark _)) (pw_and1 (pt_cmpR op_gt (pe_callB call_len_seq (by rfl) T.len boot_len (pa_cons (pv 1) pa_nil)) pe_int (nomark _)))))
 (pss_one (ps_ret (pe_slice sl_list (pv 1) po_none (po_some (pe_un un_neg pe_int)))))
 pss_nil)
 (pss_cut (t' := fun D σ H' => ∃ (d : Int), σ = [some (.ref b), some (.ref u), some (.int d), none] ∧ But b H H' ∧ Bag H' b ∧ ∀ (l : Addr) (ws : List Str) (H' : Hp), Cols ws → H l = none → l ≠ b → H' l = some (.lst (ws.map V.str)) → But b H H' → Bag H' b → D.rt (.ref l) H') (pss_cons (ps_if (pt_cmpR op_eq (pv 2) pe_int (nomark _))
 (pss_cons (ps_set (i := 3) sc_law_others.nd rfl (Or.inl rfl) (pe_cal c_law_take (hr.mono (by decide)) (pa_cons (pv 0) (pa_cons (pe_callB call_len_seq (by rfl) T.len boot_len (pa_cons (pv 1) pa_nil)) pa_nil))))
 (pss_one (ps_ret (pe_op op_cat (pe_op op_cat (pe_slice sl_list (pv 1) po_none (po_some (pv 3))) (pe_lst (pa_cons (pe_cal c_law_word (hr.mono (by decide)) (pa_cons (pv 0) (pa_cons (pv 1) pa_nil))) pa_nil))) (pe_slice sl_list (pv 1) (po_some (pe_op op_add (pv 3) pe_int)) po_none)))))
 pss_nil)
 (pss_one (ps_ret (pe_callTy call_list_of (by rfl) T.list boot_list (pa_cons (pv 1) pa_nil))))) ?c1)))), ?_⟩
    case c1 =>
      rintro D σ H1 ⟨d, rfl, B1, hb1, k1⟩
      have hu1 := B1 _ _ nub hu
      refine ⟨_, rfl, rfl, _, rfl, ite2 (fun _ => ?_) (fun _ => ?_)⟩
      · refine ⟨_, rfl, _, rfl, u, _, rfl, .inl (SqL.of hu1), b, _, rfl, hb1, by rw [List.length_map]; omega, by rw [List.length_map]; omega, fun d2 H2 e0 e1 B2 hb2 => ?_⟩
        rw [List.length_map] at e1
        have B02 := B1.trans B2
        have hu2 := B2 _ _ nub hu1
        obtain ⟨j, rfl⟩ : ∃ j : Nat, d2 = j := ⟨d2.toNat, by omega⟩
        refine ⟨_, rfl, _, rfl, _, rfl, u, _, rfl, SqL.of hu2, fun p1 n1 => ?_⟩
        have hb3 := hb2.new (o := .lst (cutV (us.map V.str) none (some (j : Int)))) n1
        have B03 := B02.new (o := .lst (cutV (us.map V.str) none (some (j : Int)))) n1
        have hu3 := (same_newH (o := .lst (cutV (us.map V.str) none (some (j : Int)))) n1) _ _ hu2
        have np1 := (hb2.ne n1).symm
        refine ⟨_, rfl, _, rfl, b, u, us, rfl, hb3, nub, SqL.of hu3, hc.w, q3, fun z H4 hz hzn B4 hb4 => ?_⟩
        have hp1 := B4 _ _ np1 upd_same
        refine ⟨(by show 1 ≤ sizeLine; decide), fun p2 n2 => ?_⟩
        have S5 := same_newH (o := .lst [V.str z]) n2
        have hb5 := hb4.new (o := .lst [V.str z]) n2
        have B05 := (B03.trans B4).new (o := .lst [V.str z]) n2
        have c1 := cut_len (us.map V.str) none (some (j : Int))
        rw [List.length_map] at c1
        refine ⟨p1, p2, _, _, rfl, rfl, S5 _ _ hp1, upd_same, Nat.le_of_lt (small1000 (by show _ + 1 ≤ _; omega)), fun p3 n3 => ?_⟩
        have hu5 := S5 _ _ (B4 _ _ nub hu3)
        have S6 := same_newH (o := .lst (cutV (us.map V.str) none (some (j : Int)) ++ [V.str z])) n3
        have hb6 := hb5.new (o := .lst (cutV (us.map V.str) none (some (j : Int)) ++ [V.str z])) n3
        have B06 := B05.new (o := .lst (cutV (us.map V.str) none (some (j : Int)) ++ [V.str z])) n3
        refine ⟨_, rfl, _, rfl, _, _, rfl, rfl, _, rfl, u, _, rfl, SqL.of (S6 _ _ hu5), fun p4 n4 => ?_⟩
        have c2 := cut_len (us.map V.str) (some ((j : Int) + 1)) none
        rw [List.length_map] at c2
        have S7 := same_newH (o := .lst (cutV (us.map V.str) (some ((j : Int) + 1)) none)) n4
        refine ⟨p3, p4, _, _, rfl, rfl, S7 _ _ upd_same, upd_same, Nat.le_of_lt (small1000 (by rw [List.length_append]; show _ + 1 + _ ≤ _; omega)), fun p5 n5 => ?_⟩
        have hb7 := hb6.new (o := .lst (cutV (us.map V.str) (some ((j : Int) + 1)) none)) n4
        have B07 := B06.new (o := .lst (cutV (us.map V.str) (some ((j : Int) + 1)) none)) n4
        obtain ⟨f1, f2⟩ := fre B07 hb7 n5
        refine k1 p5 _ _ (cols_mid hc hz hzn (show j < us.length by omega)) f1 f2 ?_ (B07.new n5) (hb7.new n5)
        rw [upd_same, cutV_map, cutV_map, cutU_take, show (some ((j : Int) + 1)) = some ((j + 1 : Nat) : Int) from rfl, cutU_drop, List.map_append, List.map_append] <;> rfl
      · refine ⟨_, rfl, u, _, rfl, .inl (SqL.of hu1), fun p np => ?_⟩
        obtain ⟨f1, f2⟩ := fre B1 hb1 np
        exact k1 p us _ hc f1 f2 upd_same (B1.new np) (hb1.new np)
    · refine ⟨_, rfl, b, _, rfl, hb, by decide, by decide, fun d H1 d0 d1 B1 hb1 => ?_⟩
      have hu1 := B1 _ _ nub hu
      refine ⟨_, rfl, rfl, _, rfl, ite2 (fun _ => ?_) (fun _ => ?_)⟩
      · refine ⟨_, rfl, u, _, rfl, SqL.of hu1, fun p np => ?_⟩
        obtain ⟨f1, f2⟩ := fre B1 hb1 np
        have hp : upd H1 p (.lst (us.map V.str).reverse) p = some (.lst (us.reverse.map V.str)) := by rw [upd_same, List.map_reverse]
        have pm := List.reverse_perm us
        exact k p us.reverse _ ⟨fun y hy => hc.w y (pm.mem_iff.mp hy), pm.nodup_iff.mpr hc.nd, by rw [pm.length_eq]; exact q1, by rw [pm.length_eq]; exact q3⟩ f1 f2 hp (B1.new np) (hb1.new np)
      refine ⟨_, rfl, rfl, _, rfl, ite2 (fun _ => ?_) (fun _ => ?_)⟩
      rotate_left
      · exact ⟨d, rfl, B1, hb1, k⟩
      refine ⟨_, rfl, u, _, rfl, .inl (SqL.of hu1), _, _, rfl, rfl, _, rfl, ite2 (fun h2 => ?_) (fun _ => ?_)⟩
      rotate_left
      · exact ⟨d, rfl, B1, hb1, k⟩
      have h2 := of_decide_eq_true h2
      rw [List.length_map] at h2
      refine ⟨_, rfl, _, rfl, _, rfl, u, _, rfl, SqL.of hu1, fun p np => ?_⟩
      obtain ⟨f1, f2⟩ := fre B1 hb1 np
      refine k p (cutU us none (some (-1))) _ (cols_sub hc (cutU_sub _ _ _) ?_) f1 f2 (by rw [upd_same, cutV_map]) (B1.new np) (hb1.new np)
      rw [cutU_len]
      show 1 ≤ min ((-1 + (us.length : Int)).toNat - 0) (us.length - 0)
      omega
end
end K01

namespace K01
open PySem PySem.Spec PyProof.Rows L2 Own
/-- two tables and the lists of their words -/
structure Two (C : Addr) (H : Hp) (l p o q : Addr) (ws os : List Str) : Prop where
  cw : Cols ws
  co : Cols os
  hl : H l = some (.lst (ws.map V.str))
  ho : H o = some (.lst (os.map V.str))
  tp : TabAt H C p (ws.map V.str)
  tq : TabAt H C q (os.map V.str)
theorem Two.same {C : Addr} {H H' : Hp} {l p o q : Addr} {ws os : List Str} (t : Two C H l p o q ws os) (s : Same H H') : Two C H' l p o q ws os :=
  ⟨t.cw, t.co, s _ _ t.hl, s _ _ t.ho, t.tp.same s, t.tq.same s⟩
theorem tab_put {H : Hp} {C p g : Addr} {xs ys zs : List V} (h : TabAt H C p xs) (hg : H g = some (.lst ys)) : TabAt (upd H g (.lst zs)) C p xs := by
  obtain ⟨dx, t, h1, h2⟩ := h
  exact ⟨dx, t, by rw [upd_ne (ne_of h1 hg nofun)]; exact h1, by rw [upd_ne (ne_of h2 hg nofun)]; exact h2⟩
theorem Two.put {C g : Addr} {H : Hp} {l p o q : Addr} {ws os : List Str} {ys zs : List V} (t : Two C H l p o q ws os) (hg : H g = some (.lst ys)) (nl : g ≠ l) (no : g ≠ o) : Two C (upd H g (.lst zs)) l p o q ws os :=
  ⟨t.cw, t.co, by rw [upd_ne nl.symm]; exact t.hl, by rw [upd_ne no.symm]; exact t.ho, tab_put t.tp hg, tab_put t.tq hg⟩
theorem str_bag {ws : List Str} {x y : Int} (h : 1 ≤ ws.length) : HO.lst (ws.map V.str) ≠ .lst [.int x, .int y] := by
  intro e
  cases ws with
  | nil => cases h
  | cons z r => cases e
theorem Two.but {C b : Addr} {H H' : Hp} {l p o q : Addr} {ws os : List Str} (t : Two C H l p o q ws os) (B : But b H H') (hb : Bag H b) : Two C H' l p o q ws os :=
  ⟨t.cw, t.co, B.at hb t.hl (fun _ _ => str_bag t.cw.l1), B.at hb t.ho (fun _ _ => str_bag t.co.l1), t.tp.but B hb, t.tq.but B hb⟩
theorem pickAH {P : Addr → Hp → Prop} (R : Addr → Hp → Prop) {G : Prop} (main : (∀ o H, R o H → P o H) → G) (rest : ∀ o H, R o H → P o H) : G := main rest
theorem same_put {H H1 : Hp} {g : Addr} {o : HO} (s : Same H H1) (hg : H g = none) : Same H (upd H1 g o) := fun x u e => by
  rw [upd_ne (ne_of_none e hg)]
  exact s x u e
theorem make_same {H H1 : Hp} {p dx C : Addr} (np : H p = none) (ndx : H dx = none) (B : But p (upd (upd H dx (.own p)) p (.ins C dx [])) H1) : Same H H1 := fun q o e => by
  refine B q o (ne_of_none e np) ?_
  rw [upd_ne (ne_of_none e np), upd_ne (ne_of_none e ndx)]
  exact e
theorem repr_eq (ys : List Str) : reprT ys = ("Table(" ++ Txt.join ", " ys) ++ ")" := by
  unfold reprT
  rw [show (Str.empty ++ ("Table(" : Str)) = "Table(" from by decide +kernel]
def spLaw (K : PySem.W.Frag) : Sp := fun vs H Q _ => ∃ (a : Addr) (ns : List Int), vs = [.ref a] ∧ SqL K H a (ns.map V.int) ∧ ns.length ≤ 63 ∧ ∀ H', Q (.bl true) H'
section
variable {P : Program} {w : World} {K : PySem.W.Frag} {mg : Str → Option Value} {base : Heap} {f C : Addr} {fd : FuncData}
theorem sc_law : FnScope ["script", "at", "bag", "words", "given", "table", "others", "other"] ["script"] (defScope s_law) := ⟨rfl, rfl, rfl, by decide +kernel, rfl, by decide +kernel, by decide +kernel⟩
theorem ok_law {fb ft fw fo fi fl fr fe : Addr} {fdb fdt fdw fdo fdi fdl fdr fde : FuncData} (F : FnP K "law" s_law f fd) (T : Free mg) (TC : TxC K C) (N : NeAt K C) (c_law_bag : Cal P w K mg base CX0 1 "_law_bag" fb fdb ["script", "at"] (spBag K))
    (c_law_take : Cal P w K mg base CX0 1 "_law_take" ft fdt ["bag", "many"] spTake) (c_law_words : Cal P w K mg base CX0 4 "_law_words" fw fdw ["bag", "many"] spWords) (c_law_others : Cal P w K mg base CX0 4 "_law_others" fo fdo ["bag", "words"] spOthers)
    (c_Table : CalI P w K mg base CX0 3 "Table" C fi fdi ["self", "columns"] (spTableA K C)) (c_Tablelen : CalM P w K mg base CX0 1 C "__len__" fl fdl ["self"] (spLenT C)) (c_Tablerepr : CalM P w K mg base CX0 1 C "__repr__" fr fdr ["self"] (spReprT C))
    (c_Tableeq : CalM P w K mg base CX0 1 C "__eq__" fe fde ["self", "other"] (spEqT C)) : FnOk P w K mg base CX0 5 f fd ["script"] (spLaw K) := by
  refine F.ok sc_law (fun vs H Q E h => ?_) (fun cdv A outer s H vs Q E hr h => ?_)
  · obtain ⟨a, ns, rfl, _⟩ := h
    rfl
  · obtain ⟨a, ns, rfl, hS, hlen, k⟩ := h
    refine ⟨_, PSs.nox (pss_cons (ps_for PassesOwn.never rfl (pi_range1 (by rfl) T.range (pa_cons (pe_callB (call_max2 rfl) (by rfl) T.max boot_max (pa_cons pe_int (pa_cons (pe_callB (call_min2 rfl) (by rfl) T.min boot_min (pa_cons pe_int (pa_cons (pe_callB call_len_seq (by rfl) T.len boot_len (pa_cons (pv 0) pa_nil)) pa_nil))) pa_nil))) pa_nil)) (pg_name (i := 1) sc_law.nd rfl (Or.inl rfl))
 (pss_cons (ps_set (i := 2) sc_law.nd rfl (Or.inl rfl) (pe_cal c_law_bag (hr.mono (by decide)) (pa_cons (pv 0) (pa_cons (pv 1) pa_nil))))
 (pss_cons (ps_set (i := 3) sc_law.nd rfl (Or.inl rfl) (pe_cal c_law_words (hr.mono (by decide)) (pa_cons (pv 2) (pa_cons (pe_op op_add pe_int (pe_cal c_law_take (hr.mono (by decide)) (pa_cons (pv 2) (pa_cons pe_int pa_nil)))) pa_nil))))
 (pss_cons (ps_set (i := 4) sc_law.nd rfl (Or.inl rfl) (pe_callTy call_list_of (by rfl) T.list boot_list (pa_cons (pv 3) pa_nil)))
 (pss_cons (ps_set (i := 5) sc_law.nd rfl (Or.inl rfl) (pe_mkr c_Table (hr.mono (by decide)) (pa_cons (pv 4) pa_nil)))
 (pss_cons (ps_set (i := 6) sc_law.nd rfl (Or.inl rfl) (pe_cal c_law_others (hr.mono (by decide)) (pa_cons (pv 2) (pa_cons (pv 3) pa_nil))))
 (pss_cons (ps_set (i := 7) sc_law.nd rfl (Or.inl rfl) (pe_mkr c_Table (hr.mono (by decide)) (pa_cons (pe_ifExp (pt_cmpR op_eq (pe_cal c_law_take (hr.mono (by decide)) (pa_cons (pv 2) (pa_cons pe_int pa_nil))) pe_int (nomark _)) (pe_callTy call_tuple_of (by rfl) T.tuple boot_tuple (pa_cons (pv 6) pa_nil)) (pv 6)) pa_nil)))
 (pss_cut (t' := fun D σ H' => ∃ (n : Int) (b l g p o q : Addr) (ws os : List Str), σ = [some (.ref a), some (.int n), some (.ref b), some (.ref l), some (.ref g), some (.ref p), some (.ref o), some (.ref q)] ∧ Same H H' ∧ H b = none ∧ H g = none ∧ g ≠ l ∧ g ≠ o ∧ Bag H' b ∧ H' g = some (.lst (ws.map V.str)) ∧ Two C H' l p o q ws os ∧ ∀ σ' H2, (∃ t1 t2 t3 t4 t5 t6 t7, σ' = [some (.ref a), t1, t2, t3, t4, t5, t6, t7]) → Same H H2 → D.nx σ' H2) (pss_cons (ps_if (pt_cmpR (op_neD (hu_of' hr)) (pv 4) (pv 3) (nomark _))
 (pss_one (ps_ret pe_bl))
 pss_nil)
 (pss_cons (ps_asg pe_str (pg_sub (pv 4) (pe_cal c_law_take (hr.mono (by decide)) (pa_cons (pv 2) (pa_cons (pe_callB call_len_seq (by rfl) T.len boot_len (pa_cons (pv 4) pa_nil)) pa_nil))) set_list))
 (pss_cons (ps_expr (pe_bm PySem.F.plainAttrs_list PySem.F.slot_list_append PySem.F.type_list_append mt_append (pv 4) (pa_cons pe_non pa_nil)))
 (pss_cut (t' := fun D σ H' => ∃ (n : Int) (b l g p o q : Addr) (ws os : List Str), σ = [some (.ref a), some (.int n), some (.ref b), some (.ref l), some (.ref g), some (.ref p), some (.ref o), some (.ref q)] ∧ Same H H' ∧ Two C H' l p o q ws os ∧ ∀ σ' H2, (∃ t1 t2 t3 t4 t5 t6 t7, σ' = [some (.ref a), t1, t2, t3, t4, t5, t6, t7]) → Same H H2 → D.nx σ' H2) (pss_cons (ps_if (PW.pt (pw_or (pt_not (pt_val (pe_callB call_isi (by rfl) T.isinstance boot_isinstance (pa_cons (pe_fld (pv 5) rfl) (pa_cons (pe_bltn (v := .ty "tuple") (by rfl) T.tuple boot_tuple rfl) pa_nil))))) (pw_or (pt_cmpR (op_neD (hu_of' hr)) (pe_fld (pv 5) rfl) (pe_callTy call_tuple_of (by rfl) T.tuple boot_tuple (pa_cons (pv 3) pa_nil)) (nomark _)) (pw_or1 (pt_cmpR op_ne (pe_callB (call_len_cal c_Tablelen (hr.mono (by decide))) (by rfl) T.len boot_len (pa_cons (pv 5) pa_nil)) (pe_callB call_len_seq (by rfl) T.len boot_len (pa_cons (pv 3) pa_nil)) (nomark _))))))
 (pss_one (ps_ret pe_bl))
 pss_nil)
 (pss_cons (ps_if (PW.pt (pw_or (pt_cmpR (op_neD (hu_of' hr)) (pe_fld (pv 7) rfl) (pe_callTy call_tuple_of (by rfl) T.tuple boot_tuple (pa_cons (pv 6) pa_nil)) (nomark _)) (pw_or1 (pt_cmpR op_ne (pe_callB (call_len_cal c_Tablelen (hr.mono (by decide))) (by rfl) T.len boot_len (pa_cons (pv 7) pa_nil)) (pe_callB call_len_seq (by rfl) T.len boot_len (pa_cons (pv 6) pa_nil)) (nomark _)))))
 (pss_one (ps_ret pe_bl))
 pss_nil)
 (pss_cut (t' := fun D σ H' => ∃ (n : Int) (b l g p o q : Addr) (ws os : List Str), σ = [some (.ref a), some (.int n), some (.ref b), some (.ref l), some (.ref g), some (.ref p), some (.ref o), some (.ref q)] ∧ Same H H' ∧ Two C H' l p o q ws os ∧ ∀ σ' H2, (∃ t1 t2 t3 t4 t5 t6 t7, σ' = [some (.ref a), t1, t2, t3, t4, t5, t6, t7]) → Same H H2 → D.nx σ' H2) (pss_cons (ps_if (PW.pt (pw_or (pt_cmpR op_ne (pe_callB (call_repr_cal c_Tablerepr (hr.mono (by decide))) (by rfl) T.repr boot_repr (pa_cons (pv 5) pa_nil)) (pe_op op_add_str (pe_op op_add_str pe_str (pe_join pe_str (pv 3))) pe_str) (nomark _)) (pw_or1 (pt_cmpR op_ne (pe_callB (call_repr_cal c_Tablerepr (hr.mono (by decide))) (by rfl) T.repr boot_repr (pa_cons (pv 7) pa_nil)) (pe_op op_add_str (pe_op op_add_str pe_str (pe_join pe_str (pv 6))) pe_str) (nomark _)))))
 (pss_one (ps_ret pe_bl))
 pss_nil)
 (pss_cons (ps_if (PW.pt (pw_or (pt_cmpR op_ne (pe_cmpR (op_eq_cal c_Tableeq (hr.mono (by decide))) (pv 5) (pv 7) (nomark _)) (pe_cmpR (op_eqD (hu_of' hr)) (pv 3) (pv 6) (nomark _)) (nomark _)) (pw_or1 (pt_cmpR op_ne (pe_cmpR (op_ne_cal N c_Tableeq (hr.mono (by decide))) (pv 5) (pv 7) (nomark _)) (pe_cmpR (op_neD (hu_of' hr)) (pv 3) (pv 6) (nomark _)) (nomark _)))))
 (pss_one (ps_ret pe_bl))
 pss_nil)
 (pss_cut (t' := fun D σ H' => ∃ (n : Int) (b l g p o q : Addr) (ws os : List Str), σ = [some (.ref a), some (.int n), some (.ref b), some (.ref l), some (.ref g), some (.ref p), some (.ref o), some (.ref q)] ∧ Same H H' ∧ Two C H' l p o q ws os ∧ ∀ σ' H2, (∃ t1 t2 t3 t4 t5 t6 t7, σ' = [some (.ref a), t1, t2, t3, t4, t5, t6, t7]) → Same H H2 → D.nx σ' H2) (pss_one (ps_if (PW.pt (pw_or (pt_not (pt_cmpR (op_eq_cal c_Tableeq (hr.mono (by decide))) (pv 5) (pe_mkr c_Table (hr.mono (by decide)) (pa_cons (pv 3) pa_nil)) (nomark _))) (pw_or (pt_cmpR (op_eq_cal c_Tableeq (hr.mono (by decide))) (pv 5) (pe_callTy call_tuple_of (by rfl) T.tuple boot_tuple (pa_cons (pv 3) pa_nil)) (nomark _)) (pw_or (pt_cmpR (op_eq_cal c_Tableeq (hr.mono (by decide))) (pv 5) (pv 3) (nomark _)) (pw_or1 (pt_cmpR (op_eq_cal c_Tableeq (hr.mono (by decide))) (pv 5) (pe_callB (call_repr_cal c_Tablerepr (hr.mono (by decide))) (by rfl) T.repr boot_repr (pa_cons (pv 5) pa_nil)) (nomark _)))))))
 (pss_one (ps_ret pe_bl))
 pss_nil)) ?c4))) ?c3))) ?c2)))) ?c1))))))))
 (pss_one (ps_ret pe_bl))), ?_⟩
    case c1 =>
      rintro D σ H1 ⟨n, b, l, g, p, o, q, ws, os, rfl, S1, nb, ng, ngl, ngo, hb1, hg, tw, kn⟩
      have w1 := tw.cw.l1
      have w3 := tw.cw.l3
      refine ⟨_, rfl, _, rfl, .list (ws.map PyData.str), .list (ws.map PyData.str), .lst (SqL.of hg) (dp_strs ws), .lst (SqL.of tw.hl) (dp_strs ws), shaped_lstW tw.cw.w, shaped_lstW tw.cw.w, _, rfl, ?_⟩
      rw [eqv_lsts, decide_eq_true rfl]
      refine iteF ?_
      have hlen2 : (ws.map V.str).length = ws.length := List.length_map ..
      refine ⟨_, rfl, _, rfl, _, rfl, g, _, rfl, .inl (SqL.of hg), b, _, rfl, hb1, by omega, by omega, fun d H2 d0 d1 B2 hb2 => ?_⟩
      have hg2 := B2.at hb1 hg (fun _ _ => str_bag w1)
      refine ⟨g, _, d, d.toNat, rfl, rfl, hg2, ixN_of d0 d1, ?_⟩
      refine ⟨_, rfl, .inl ⟨rfl, _, SqL.of upd_same⟩, g, _, _, rfl, rfl, upd_same, small1000 (by rw [List.length_set]; omega), ?_⟩
      exact ⟨n, b, l, g, p, o, q, ws, os, rfl, same_put (same_put (B2.to_same S1 nb) ng) ng, ((tw.but B2 hb1).put hg2 ngl ngo).put upd_same ngl ngo, kn⟩
    case c2 =>
      rintro D σ H1 ⟨n, b, l, g, p, o, q, ws, os, rfl, S1, tw, kn⟩
      obtain ⟨dx, t, hp, ht⟩ := tw.tp
      refine ⟨_, rfl, p, C, dx, _, _, rfl, hp, TC.cl, TC.nC, rfl, _, _, _, _, _, rfl, .ty _, kd_ok (kd_tup ht), kit_tuple _, _, rfl, ?_⟩
      refine iteNS rfl ?_
      refine ⟨_, rfl, p, C, dx, _, _, rfl, hp, TC.cl, TC.nC, rfl, _, rfl, l, _, rfl, .inl ⟨SqL.of tw.hl, fun t2 n2 => ?_⟩⟩
      have S2 := same_newH (o := .tup (ws.map V.str)) n2
      refine ⟨_, _, .tup (SqT.of (S2 _ _ ht)) (dp_strs ws), .tup (SqT.of upd_same) (dp_strs ws), shaped_tupW tw.cw.w, shaped_tupW tw.cw.w, _, rfl, ?_⟩
      rw [eqv_tups, decide_eq_true rfl]
      refine iteF ?_
      have tw2 := tw.same S2
      have w3 := tw.cw.l3
      have o3 := tw.co.l3
      refine ⟨_, rfl, p, dx, _, rfl, S2 _ _ hp, p, _, rfl, tw2.tp, (ws.map V.str).length, rfl, by rw [List.length_map]; omega, _, rfl, l, _, rfl, .inl (SqL.of tw2.hl), rfl, _, rfl, ?_⟩
      rw [decide_eq_true rfl]
      refine iteF ?_
      obtain ⟨dy, u, hq, hu⟩ := tw2.tq
      refine ⟨_, rfl, q, C, dy, _, _, rfl, hq, TC.cl, TC.nC, rfl, _, rfl, o, _, rfl, .inl ⟨SqL.of tw2.ho, fun t3 n3 => ?_⟩⟩
      have S3 := same_newH (o := .tup (os.map V.str)) n3
      refine ⟨_, _, .tup (SqT.of (S3 _ _ hu)) (dp_strs os), .tup (SqT.of upd_same) (dp_strs os), shaped_tupW tw.co.w, shaped_tupW tw.co.w, _, rfl, ?_⟩
      rw [eqv_tups, decide_eq_true rfl]
      refine iteF ?_
      have tw3 := tw2.same S3
      refine ⟨_, rfl, q, dy, _, rfl, S3 _ _ hq, q, _, rfl, tw3.tq, (os.map V.str).length, rfl, by rw [List.length_map]; omega, _, rfl, o, _, rfl, .inl (SqL.of tw3.ho), rfl, _, rfl, ?_⟩
      rw [decide_eq_true rfl]
      refine iteF ?_
      exact ⟨n, b, l, g, p, o, q, ws, os, rfl, S1.trans (S2.trans S3), tw3, kn⟩
    case c3 =>
      rintro D σ H1 ⟨n, b, l, g, p, o, q, ws, os, rfl, S1, tw, kn⟩
      obtain ⟨dx, t, hp, ht⟩ := tw.tp
      obtain ⟨dy, u, hq, hu⟩ := tw.tq
      have e2 : (", " : Str).length = 2 := rfl
      have small : ∀ ys : List Str, Cols ys → (ys.map (·.length)).sum + ys.length * (", " : Str).length ≤ 30 := fun ys c => by
        have h1 := sum_words c.w
        have h3 := c.l3
        rw [e2]
        omega
      have jl : ∀ ys : List Str, Cols ys → (Txt.join ", " ys).length ≤ 30 := fun ys c => Nat.le_trans (join_len ", " ys) (small ys c)
      have a1 : ∀ ys : List Str, Cols ys → ("Table(" : Str).length + (Txt.join ", " ys).length ≤ sizeLine := fun ys c => Nat.le_of_lt (small1000 (by have := jl ys c; show 6 + _ ≤ _; omega))
      have a2 : ∀ ys : List Str, Cols ys → ("Table(" ++ Txt.join ", " ys).length + (")" : Str).length ≤ sizeLine := fun ys c => Nat.le_of_lt (small1000 (by have := jl ys c; rw [Str.length_append]; show 6 + _ + 1 ≤ _; omega))
      refine ⟨_, rfl, p, dx, _, rfl, hp, p, ws, rfl, tw.tp, tw.cw, reprT ws, rfl, ⟨_, rfl⟩, _, rfl, _, l, ws, rfl, rfl, .inl (SqL.of tw.hl), Nat.le_trans (small ws tw.cw) (by decide), _, _, rfl, rfl, a1 ws tw.cw, _, _, rfl, rfl, a2 ws tw.cw, rfl, _, rfl, ?_⟩
      rw [repr_eq, decide_eq_true rfl]
      refine iteF ?_
      refine ⟨_, rfl, q, dy, _, rfl, hq, q, os, rfl, tw.tq, tw.co, reprT os, rfl, ⟨_, rfl⟩, _, rfl, _, o, os, rfl, rfl, .inl (SqL.of tw.ho), Nat.le_trans (small os tw.co) (by decide), _, _, rfl, rfl, a1 os tw.co, _, _, rfl, rfl, a2 os tw.co, rfl, _, rfl, ?_⟩
      rw [repr_eq, decide_eq_true rfl]
      refine iteF ?_
      refine ⟨_, rfl, _, rfl, p, dx, _, .ref C, rfl, hp, N.ty hq, N.self, p, .ref q, ws, rfl, tw.tp, tw.cw.w, .inl ⟨q, os, rfl, tw.tq, tw.co.w, decide (ws = os), rfl, ?_⟩⟩
      refine ⟨_, rfl, _, rfl, _, _, .lst (SqL.of tw.hl) (dp_strs ws), .lst (SqL.of tw.ho) (dp_strs os), shaped_lstW tw.cw.w, shaped_lstW tw.co.w, rfl, _, rfl, ?_⟩
      rw [eqv_lsts, if_neg (by decide), decide_eq_true rfl]
      refine iteF ?_
      refine ⟨_, rfl, _, rfl, p, dx, _, .ref C, rfl, hp, N.ty hq, N.self, p, .ref q, ws, rfl, tw.tp, tw.cw.w, .inl ⟨q, os, rfl, tw.tq, tw.co.w, decide (ws = os), rfl, ?_⟩⟩
      refine ⟨_, rfl, _, rfl, _, _, .lst (SqL.of tw.hl) (dp_strs ws), .lst (SqL.of tw.ho) (dp_strs os), shaped_lstW tw.cw.w, shaped_lstW tw.co.w, rfl, _, rfl, ?_⟩
      rw [eqv_lsts, if_pos rfl, decide_eq_true rfl]
      refine iteF ?_
      exact ⟨n, b, l, g, p, o, q, ws, os, rfl, S1, tw, kn⟩
    case c4 =>
      rintro D σ H1 ⟨n, b, l, g, p, o, q, ws, os, rfl, S1, tw, kn⟩
      have w3 := tw.cw.l3
      have hlen2 : (ws.map V.str).length = ws.length := List.length_map ..
      refine ⟨_, rfl, _, rfl, ?_⟩
      intro x dz nx ndz nxd
      have hl2 : upd (upd H1 dz (.own x)) x (.ins C dz []) l = some (.lst (ws.map V.str)) := by
        rw [upd_ne (ne_of_none tw.hl nx), upd_ne (ne_of_none tw.hl ndz)]
        exact tw.hl
      refine ⟨x, l, dz, _, rfl, upd_same, .inl (SqL.of hl2), by omega, ent_word tw.cw.w, due_cols tw.cw, fun H2 B2 hT => ⟨rfl, ?_⟩⟩
      have S2 := make_same nx ndz B2
      have tw2 := tw.same S2
      obtain ⟨dx, t, hp, ht⟩ := tw2.tp
      obtain ⟨dy, u, hq, hu⟩ := id hT
      refine ⟨p, dx, _, .ref C, rfl, hp, N.ty hq, N.self, p, .ref x, ws, rfl, tw2.tp, tw.cw.w, .inl ⟨x, ws, rfl, hT, tw.cw.w, decide (ws = ws), rfl, _, rfl, ?_⟩⟩
      rw [if_neg (by decide), decide_eq_true rfl]
      refine iteF ?_
      refine ⟨_, rfl, _, rfl, l, _, rfl, .inl ⟨SqL.of tw2.hl, fun t2 n2 => ?_⟩⟩
      have S3 := same_newH (o := .tup (ws.map V.str)) n2
      have tw3 := tw2.same S3
      refine ⟨p, dx, _, .type "tuple", rfl, S3 _ _ hp, kd_ok (kd_tup upd_same), N.fT, p, _, ws, rfl, tw3.tp, tw.cw.w, .inr ⟨.tup, kd_tup upd_same, .inr (.inl rfl), false, rfl, _, rfl, ?_⟩⟩
      rw [if_neg (by decide)]
      refine iteF ?_
      refine ⟨_, rfl, _, rfl, p, dx, _, .type "list", rfl, S3 _ _ hp, kd_ok (kd_lst tw3.hl), N.fL, p, _, ws, rfl, tw3.tp, tw.cw.w, .inr ⟨.lst, kd_lst tw3.hl, .inl rfl, false, rfl, _, rfl, ?_⟩⟩
      rw [if_neg (by decide)]
      refine iteF ?_
      refine ⟨_, rfl, _, rfl, p, dx, _, rfl, S3 _ _ hp, p, ws, rfl, tw3.tp, tw.cw, reprT ws, rfl, ?_⟩
      refine ⟨p, dx, _, .type "str", rfl, S3 _ _ hp, kd_ok (t := .str) rfl, N.fS, p, _, ws, rfl, tw3.tp, tw.cw.w, .inr ⟨.str, rfl, .inr (.inr rfl), false, rfl, _, rfl, ?_⟩⟩
      rw [if_neg (by decide)]
      refine iteF ?_
      exact kn _ _ ⟨_, _, _, _, _, _, _, rfl⟩ (S1.trans (S2.trans S3))
    · have hj : ∀ j : Int, j = (if (if ((ns.map V.int).length : Int) < 8 then ((ns.map V.int).length : Int) else 8) > 1 then (if ((ns.map V.int).length : Int) < 8 then ((ns.map V.int).length : Int) else 8) else 1) → 0 ≤ j ∧ j ≤ 8 := by
        intro j e
        subst e
        split <;> split <;> omega
      have hj := hj _ rfl
      refine ⟨_, rfl, a, _, rfl, .inl hS, _, _, rfl, _, _, rfl, _, rfl, by omega, by omega, ?_⟩
      refine for_range (fun i σ H' => ∃ t1 t2 t3 t4 t5 t6 t7, σ = [some (.ref a), t1, t2, t3, t4, t5, t6, t7] ∧ Same H H') ⟨none, none, none, none, none, none, none, rfl, Same.refl _⟩ ?_ ?_
      · rintro i σ H1 hi ⟨t1, t2, t3, t4, t5, t6, t7, rfl, S1⟩
        refine ⟨_, rfl, _, rfl, a, ns, i, (by rw [Int.zero_add]; rfl), S1.seq hS, hlen, by omega, fun b H2 S2 nb1 hb2 => ?_⟩
        have nb : H b = none := S1.free nb1
        refine ⟨_, rfl, _, rfl, b, 3, rfl, hb2, by decide, by decide, fun d H3 d0 d1 B3 hb3 => ?_⟩
        refine ⟨_, _, rfl, rfl, b, _, rfl, hb3, by omega, by omega, fun l ws H4 cw nl3 nlb hl4 B4 hb4 => ?_⟩
        have hlw : (ws.map V.str).length = ws.length := List.length_map ..
        have w3 := cw.l3
        have S3 : Same H H3 := B3.to_same (S1.trans S2) nb
        have S4 : Same H H4 := B4.to_same S3 nb
        refine ⟨_, rfl, l, _, rfl, .inl (SqL.of hl4), fun g ng4 => ?_⟩
        have ng : H g = none := S4.free ng4
        have ngl : g ≠ l := (ne_of_none hl4 ng4).symm
        have ngb : g ≠ b := (hb4.ne ng4).symm
        have S45 := same_newH (o := .lst (ws.map V.str)) ng4
        have hb5 := hb4.same S45
        have hl5 := S45 _ _ hl4
        have hg5 : upd H4 g (.lst (ws.map V.str)) g = some (.lst (ws.map V.str)) := upd_same
        generalize upd H4 g (.lst (ws.map V.str)) = H5 at *
        have S5 := S4.trans S45
        refine ⟨_, rfl, ?_⟩
        intro p dx np ndx npd
        have hg6 : upd (upd H5 dx (.own p)) p (.ins C dx []) g = some (.lst (ws.map V.str)) := by
          rw [upd_ne (ne_of_none hg5 np), upd_ne (ne_of_none hg5 ndx)]
          exact hg5
        refine ⟨p, g, dx, _, rfl, upd_same, .inl (SqL.of hg6), by omega, ent_word cw.w, due_cols cw, fun H6 B6 hT => ⟨rfl, ?_⟩⟩
        have S56 := make_same np ndx B6
        have S6 := S5.trans S56
        have hb6 := hb5.same S56
        have hl6 := S56 _ _ hl5
        have hg6 := S56 _ _ hg5
        refine ⟨_, rfl, _, rfl, b, l, ws, rfl, hb6, nlb, hl6, cw, fun o os H7 co no6 nob ho7 B7 hb7 => ?_⟩
        have ngo : g ≠ o := ne_of_none hg6 no6
        have S7 := B7.to_same S6 nb
        have hl7 := B7 _ _ nlb hl6
        have hg7 := B7 _ _ ngb hg6
        have hT7 := hT.but B7 hb6
        have hlo : (os.map V.str).length = os.length := List.length_map ..
        have o3 := co.l3
        refine ⟨_, rfl, b, 2, rfl, hb7, by decide, by decide, fun d2 H8 _ _ B8 hb8 => ?_⟩
        have S8 := B8.to_same S7 nb
        have hl8 := B8 _ _ nlb hl7
        have hg8 := B8 _ _ ngb hg7
        have ho8 := B8 _ _ nob ho7
        have hT8 := hT7.but B8 hb7
        refine ⟨rfl, _, rfl, ?_⟩
        refine' pickAH (fun r H' => Same H8 H' ∧ SqB K H' r (os.map V.str)) ?main ?rest
        case main =>
          intro go
          refine ite2 (fun _ => ?_) (fun _ => ?_)
          · refine ⟨_, rfl, o, _, rfl, .inl ⟨SqL.of ho8, fun t nt => ?_⟩⟩
            have S89 := same_newH (o := .tup (os.map V.str)) nt
            have ht : upd H8 t (.tup (os.map V.str)) t = some (.tup (os.map V.str)) := upd_same
            generalize upd H8 t (.tup (os.map V.str)) = H9 at S89 ht ⊢
            exact go t H9 ⟨S89, .inr ht⟩
          · exact ⟨_, rfl, go o H8 ⟨Same.refl _, .inl (SqL.of ho8)⟩⟩
        case rest =>
          intro r H9 hr9
          obtain ⟨S89, hr9⟩ := hr9
          refine fun q dq nq ndq nqd => ?_
          have S9 := S8.trans S89
          have hr10 : SqB K (upd (upd H9 dq (.own q)) q (.ins C dq [])) r (os.map V.str) :=
            hr9.same fun x u e => by
              rw [upd_ne (ne_of_none e nq), upd_ne (ne_of_none e ndq)]
              exact e
          refine ⟨q, r, dq, _, rfl, upd_same, hr10, by omega, ent_word co.w, due_cols co, fun H10 B10 hQ => ⟨rfl, ?_⟩⟩
          have S910 := make_same nq ndq B10
          have S810 := S89.trans S910
          exact ⟨_, b, l, g, p, o, q, ws, os, rfl, S9.trans S910, nb, ng, ngl, ngo, hb8.same S810, S810 _ _ hg8, ⟨cw, co, S810 _ _ hl8, S810 _ _ ho8, hT8.same S810, hQ⟩, fun σ' H2 hσ S => by
            obtain ⟨u1, u2, u3, u4, u5, u6, u7, rfl⟩ := hσ
            exact ⟨u1, u2, u3, u4, u5, u6, u7, rfl, S⟩⟩
      · rintro σ H1 ⟨t1, t2, t3, t4, t5, t6, t7, rfl, S1⟩
        exact k _
end
end K01

namespace K01
open PySem PySem.Spec PyProof.Rows L2 Own
def d_is_word : He.DefD := ⟨("is_word", none), "is_word", "is_word", defArgs s_is_word, defBody s_is_word, defScope s_is_word, [], []⟩
def d_first_bad : He.DefD := ⟨("first_bad", none), "first_bad", "first_bad", defArgs s_first_bad, defBody s_first_bad, defScope s_first_bad, [], []⟩
def d_Tableinit : He.DefD := ⟨("Table", some "__init__"), "__init__", "Table.__init__", defArgs s_Tableinit, defBody s_Tableinit, defScope s_Tableinit, [], []⟩
def d_Tablelen : He.DefD := ⟨("Table", some "__len__"), "__len__", "Table.__len__", defArgs s_Tablelen, defBody s_Tablelen, defScope s_Tablelen, [], []⟩
def d_Tableeq : He.DefD := ⟨("Table", some "__eq__"), "__eq__", "Table.__eq__", defArgs s_Tableeq, defBody s_Tableeq, defScope s_Tableeq, [], []⟩
def d_Tablerepr : He.DefD := ⟨("Table", some "__repr__"), "__repr__", "Table.__repr__", defArgs s_Tablerepr, defBody s_Tablerepr, defScope s_Tablerepr, [], []⟩
def d_law_bag : He.DefD := ⟨("_law_bag", none), "_law_bag", "_law_bag", defArgs s_law_bag, defBody s_law_bag, defScope s_law_bag, [], []⟩
def d_law_take : He.DefD := ⟨("_law_take", none), "_law_take", "_law_take", defArgs s_law_take, defBody s_law_take, defScope s_law_take, [], []⟩
def d_law_of : He.DefD := ⟨("_law_of", none), "_law_of", "_law_of", defArgs s_law_of, defBody s_law_of, defScope s_law_of, [], []⟩
def d_law_word : He.DefD := ⟨("_law_word", none), "_law_word", "_law_word", defArgs s_law_word, defBody s_law_word, defScope s_law_word, [], []⟩
def d_law_words : He.DefD := ⟨("_law_words", none), "_law_words", "_law_words", defArgs s_law_words, defBody s_law_words, defScope s_law_words, [], []⟩
def d_law_others : He.DefD := ⟨("_law_others", none), "_law_others", "_law_others", defArgs s_law_others, defBody s_law_others, defScope s_law_others, [], []⟩
def d_law : He.DefD := ⟨("law", none), "law", "law", defArgs s_law, defBody s_law, defScope s_law, [], []⟩
def fn : List He.DefD := [d_is_word, d_first_bad, d_Tableinit, d_Tablelen, d_Tableeq, d_Tablerepr, d_law_bag, d_law_take, d_law_of, d_law_word, d_law_words, d_law_others, d_law]
def fa : List He.Fa := [.glo "is_word", .glo "first_bad", .glo "_law_bag", .glo "_law_take", .glo "_law_of", .glo "_law_word", .glo "_law_words", .glo "_law_others", .glo "law", .free "len", .free "range", .free "enumerate", .free "int", .free "abs", .free "list", .free "tuple", .free "all", .free "isinstance", .free "max", .free "min", .free "str", .free "bool", .free "repr", .free "sorted", .free "set", .free "sum", .free "any", .free "dict", .cls "Table", .noat "Table" "columns", .meth "Table" "__len__", .meth "Table" "__eq__", .meth "Table" "__repr__", .mkr "Table", .int "WORD_LETTERS" 8, .int "MOST_COLUMNS" 3, .glo "KEPT", .glo "Table"]
section
variable {K : PySem.W.Frag} {h : Heap} {mg : Str → Option Value}
theorem F_is_word (c : He.SaysD fa fn K) : ∃ fd, FunD K "is_word" "is_word" (defArgs s_is_word) (defBody s_is_word) (defScope s_is_word) [] [] (He.fAd K ("is_word", none)) fd := c.def_ 0 (d := d_is_word) rfl
theorem b_is_word {f : Addr} {fd : FuncData} (F : FunD K "is_word" "is_word" (defArgs s_is_word) (defBody s_is_word) (defScope s_is_word) [] [] f fd) : Binds K fd ["thing"] [] := F.bindsN fun _ _ _ _ _ _ us hl => match us, hl with | [_], _ => rfl
theorem F_first_bad (c : He.SaysD fa fn K) : ∃ fd, FunD K "first_bad" "first_bad" (defArgs s_first_bad) (defBody s_first_bad) (defScope s_first_bad) [] [] (He.fAd K ("first_bad", none)) fd := c.def_ 1 (d := d_first_bad) rfl
theorem b_first_bad {f : Addr} {fd : FuncData} (F : FunD K "first_bad" "first_bad" (defArgs s_first_bad) (defBody s_first_bad) (defScope s_first_bad) [] [] f fd) : Binds K fd ["names"] [] := F.bindsN fun _ _ _ _ _ _ us hl => match us, hl with | [_], _ => rfl
theorem F_Tableinit (c : He.SaysD fa fn K) : ∃ fd, FunD K "__init__" "Table.__init__" (defArgs s_Tableinit) (defBody s_Tableinit) (defScope s_Tableinit) [] [] (He.fAd K ("Table", some "__init__")) fd := c.def_ 2 (d := d_Tableinit) rfl
theorem b_Tableinit {f : Addr} {fd : FuncData} (F : FunD K "__init__" "Table.__init__" (defArgs s_Tableinit) (defBody s_Tableinit) (defScope s_Tableinit) [] [] f fd) : Binds K fd ["self", "columns"] [] := F.bindsN fun _ _ _ _ _ _ us hl => match us, hl with | [_, _], _ => rfl
theorem F_Tablelen (c : He.SaysD fa fn K) : ∃ fd, FunD K "__len__" "Table.__len__" (defArgs s_Tablelen) (defBody s_Tablelen) (defScope s_Tablelen) [] [] (He.fAd K ("Table", some "__len__")) fd := c.def_ 3 (d := d_Tablelen) rfl
theorem b_Tablelen {f : Addr} {fd : FuncData} (F : FunD K "__len__" "Table.__len__" (defArgs s_Tablelen) (defBody s_Tablelen) (defScope s_Tablelen) [] [] f fd) : Binds K fd ["self"] [] := F.bindsN fun _ _ _ _ _ _ us hl => match us, hl with | [_], _ => rfl
theorem F_Tableeq (c : He.SaysD fa fn K) : ∃ fd, FunD K "__eq__" "Table.__eq__" (defArgs s_Tableeq) (defBody s_Tableeq) (defScope s_Tableeq) [] [] (He.fAd K ("Table", some "__eq__")) fd := c.def_ 4 (d := d_Tableeq) rfl
theorem b_Tableeq {f : Addr} {fd : FuncData} (F : FunD K "__eq__" "Table.__eq__" (defArgs s_Tableeq) (defBody s_Tableeq) (defScope s_Tableeq) [] [] f fd) : Binds K fd ["self", "other"] [] := F.bindsN fun _ _ _ _ _ _ us hl => match us, hl with | [_, _], _ => rfl
theorem F_Tablerepr (c : He.SaysD fa fn K) : ∃ fd, FunD K "__repr__" "Table.__repr__" (defArgs s_Tablerepr) (defBody s_Tablerepr) (defScope s_Tablerepr) [] [] (He.fAd K ("Table", some "__repr__")) fd := c.def_ 5 (d := d_Tablerepr) rfl
theorem b_Tablerepr {f : Addr} {fd : FuncData} (F : FunD K "__repr__" "Table.__repr__" (defArgs s_Tablerepr) (defBody s_Tablerepr) (defScope s_Tablerepr) [] [] f fd) : Binds K fd ["self"] [] := F.bindsN fun _ _ _ _ _ _ us hl => match us, hl with | [_], _ => rfl
theorem F_law_bag (c : He.SaysD fa fn K) : ∃ fd, FunD K "_law_bag" "_law_bag" (defArgs s_law_bag) (defBody s_law_bag) (defScope s_law_bag) [] [] (He.fAd K ("_law_bag", none)) fd := c.def_ 6 (d := d_law_bag) rfl
theorem b_law_bag {f : Addr} {fd : FuncData} (F : FunD K "_law_bag" "_law_bag" (defArgs s_law_bag) (defBody s_law_bag) (defScope s_law_bag) [] [] f fd) : Binds K fd ["script", "at"] [] := F.bindsN fun _ _ _ _ _ _ us hl => match us, hl with | [_, _], _ => rfl
theorem F_law_take (c : He.SaysD fa fn K) : ∃ fd, FunD K "_law_take" "_law_take" (defArgs s_law_take) (defBody s_law_take) (defScope s_law_take) [] [] (He.fAd K ("_law_take", none)) fd := c.def_ 7 (d := d_law_take) rfl
theorem b_law_take {f : Addr} {fd : FuncData} (F : FunD K "_law_take" "_law_take" (defArgs s_law_take) (defBody s_law_take) (defScope s_law_take) [] [] f fd) : Binds K fd ["bag", "many"] [] := F.bindsN fun _ _ _ _ _ _ us hl => match us, hl with | [_, _], _ => rfl
theorem F_law_of (c : He.SaysD fa fn K) : ∃ fd, FunD K "_law_of" "_law_of" (defArgs s_law_of) (defBody s_law_of) (defScope s_law_of) [] [] (He.fAd K ("_law_of", none)) fd := c.def_ 8 (d := d_law_of) rfl
theorem b_law_of {f : Addr} {fd : FuncData} (F : FunD K "_law_of" "_law_of" (defArgs s_law_of) (defBody s_law_of) (defScope s_law_of) [] [] f fd) : Binds K fd ["bag", "some"] [] := F.bindsN fun _ _ _ _ _ _ us hl => match us, hl with | [_, _], _ => rfl
theorem F_law_word (c : He.SaysD fa fn K) : ∃ fd, FunD K "_law_word" "_law_word" (defArgs s_law_word) (defBody s_law_word) (defScope s_law_word) [] [] (He.fAd K ("_law_word", none)) fd := c.def_ 9 (d := d_law_word) rfl
theorem b_law_word {f : Addr} {fd : FuncData} (F : FunD K "_law_word" "_law_word" (defArgs s_law_word) (defBody s_law_word) (defScope s_law_word) [] [] f fd) : Binds K fd ["bag", "used"] [] := F.bindsN fun _ _ _ _ _ _ us hl => match us, hl with | [_, _], _ => rfl
theorem F_law_words (c : He.SaysD fa fn K) : ∃ fd, FunD K "_law_words" "_law_words" (defArgs s_law_words) (defBody s_law_words) (defScope s_law_words) [] [] (He.fAd K ("_law_words", none)) fd := c.def_ 10 (d := d_law_words) rfl
theorem b_law_words {f : Addr} {fd : FuncData} (F : FunD K "_law_words" "_law_words" (defArgs s_law_words) (defBody s_law_words) (defScope s_law_words) [] [] f fd) : Binds K fd ["bag", "many"] [] := F.bindsN fun _ _ _ _ _ _ us hl => match us, hl with | [_, _], _ => rfl
theorem F_law_others (c : He.SaysD fa fn K) : ∃ fd, FunD K "_law_others" "_law_others" (defArgs s_law_others) (defBody s_law_others) (defScope s_law_others) [] [] (He.fAd K ("_law_others", none)) fd := c.def_ 11 (d := d_law_others) rfl
theorem b_law_others {f : Addr} {fd : FuncData} (F : FunD K "_law_others" "_law_others" (defArgs s_law_others) (defBody s_law_others) (defScope s_law_others) [] [] f fd) : Binds K fd ["bag", "words"] [] := F.bindsN fun _ _ _ _ _ _ us hl => match us, hl with | [_, _], _ => rfl
theorem F_law (c : He.SaysD fa fn K) : ∃ fd, FunD K "law" "law" (defArgs s_law) (defBody s_law) (defScope s_law) [] [] (He.fAd K ("law", none)) fd := c.def_ 12 (d := d_law) rfl
theorem b_law {f : Addr} {fd : FuncData} (F : FunD K "law" "law" (defArgs s_law) (defBody s_law) (defScope s_law) [] [] f fd) : Binds K fd ["script"] [] := F.bindsN fun _ _ _ _ _ _ us hl => match us, hl with | [_], _ => rfl
theorem g_is_word (X : K.In h) (G : h.Ns mainGlobals mg) (c : He.SaysD fa fn K) : mg "is_word" = some (.ref (He.fAd K ("is_word", none))) := He.glo_ok X G (c.fact 0 (f := .glo "is_word") rfl)
theorem g_first_bad (X : K.In h) (G : h.Ns mainGlobals mg) (c : He.SaysD fa fn K) : mg "first_bad" = some (.ref (He.fAd K ("first_bad", none))) := He.glo_ok X G (c.fact 1 (f := .glo "first_bad") rfl)
theorem g_law_bag (X : K.In h) (G : h.Ns mainGlobals mg) (c : He.SaysD fa fn K) : mg "_law_bag" = some (.ref (He.fAd K ("_law_bag", none))) := He.glo_ok X G (c.fact 2 (f := .glo "_law_bag") rfl)
theorem g_law_take (X : K.In h) (G : h.Ns mainGlobals mg) (c : He.SaysD fa fn K) : mg "_law_take" = some (.ref (He.fAd K ("_law_take", none))) := He.glo_ok X G (c.fact 3 (f := .glo "_law_take") rfl)
theorem g_law_of (X : K.In h) (G : h.Ns mainGlobals mg) (c : He.SaysD fa fn K) : mg "_law_of" = some (.ref (He.fAd K ("_law_of", none))) := He.glo_ok X G (c.fact 4 (f := .glo "_law_of") rfl)
theorem g_law_word (X : K.In h) (G : h.Ns mainGlobals mg) (c : He.SaysD fa fn K) : mg "_law_word" = some (.ref (He.fAd K ("_law_word", none))) := He.glo_ok X G (c.fact 5 (f := .glo "_law_word") rfl)
theorem g_law_words (X : K.In h) (G : h.Ns mainGlobals mg) (c : He.SaysD fa fn K) : mg "_law_words" = some (.ref (He.fAd K ("_law_words", none))) := He.glo_ok X G (c.fact 6 (f := .glo "_law_words") rfl)
theorem g_law_others (X : K.In h) (G : h.Ns mainGlobals mg) (c : He.SaysD fa fn K) : mg "_law_others" = some (.ref (He.fAd K ("_law_others", none))) := He.glo_ok X G (c.fact 7 (f := .glo "_law_others") rfl)
theorem g_law (X : K.In h) (G : h.Ns mainGlobals mg) (c : He.SaysD fa fn K) : mg "law" = some (.ref (He.fAd K ("law", none))) := He.glo_ok X G (c.fact 8 (f := .glo "law") rfl)
theorem free_all (X : K.In h) (G : h.Ns mainGlobals mg) (c : He.SaysD fa fn K) : Free mg := ⟨He.free_ok X G (c.fact 9 (f := .free "len") rfl), He.free_ok X G (c.fact 10 (f := .free "range") rfl), He.free_ok X G (c.fact 11 (f := .free "enumerate") rfl), He.free_ok X G (c.fact 12 (f := .free "int") rfl), He.free_ok X G (c.fact 13 (f := .free "abs") rfl), He.free_ok X G (c.fact 14 (f := .free "list") rfl), He.free_ok X G (c.fact 15 (f := .free "tuple") rfl), He.free_ok X G (c.fact 16 (f := .free "all") rfl), He.free_ok X G (c.fact 17 (f := .free "isinstance") rfl), He.free_ok X G (c.fact 18 (f := .free "max") rfl), He.free_ok X G (c.fact 19 (f := .free "min") rfl), He.free_ok X G (c.fact 20 (f := .free "str") rfl), He.free_ok X G (c.fact 21 (f := .free "bool") rfl), He.free_ok X G (c.fact 22 (f := .free "repr") rfl), He.free_ok X G (c.fact 23 (f := .free "sorted") rfl), He.free_ok X G (c.fact 24 (f := .free "set") rfl), He.free_ok X G (c.fact 25 (f := .free "sum") rfl), He.free_ok X G (c.fact 26 (f := .free "any") rfl), He.free_ok X G (c.fact 27 (f := .free "dict") rfl)⟩
theorem x_0 (c : He.SaysD fa fn K) : (He.Fa.cls "Table").ok K = true := c.fact 28 (f := .cls "Table") rfl
theorem x_1 (c : He.SaysD fa fn K) : (He.Fa.noat "Table" "columns").ok K = true := c.fact 29 (f := .noat "Table" "columns") rfl
theorem x_2 (c : He.SaysD fa fn K) : (He.Fa.meth "Table" "__len__").ok K = true := c.fact 30 (f := .meth "Table" "__len__") rfl
theorem x_3 (c : He.SaysD fa fn K) : (He.Fa.meth "Table" "__eq__").ok K = true := c.fact 31 (f := .meth "Table" "__eq__") rfl
theorem x_4 (c : He.SaysD fa fn K) : (He.Fa.meth "Table" "__repr__").ok K = true := c.fact 32 (f := .meth "Table" "__repr__") rfl
theorem x_5 (c : He.SaysD fa fn K) : (He.Fa.mkr "Table").ok K = true := c.fact 33 (f := .mkr "Table") rfl
theorem x_6 (c : He.SaysD fa fn K) : (He.Fa.int "WORD_LETTERS" 8).ok K = true := c.fact 34 (f := .int "WORD_LETTERS" 8) rfl
theorem x_7 (c : He.SaysD fa fn K) : (He.Fa.int "MOST_COLUMNS" 3).ok K = true := c.fact 35 (f := .int "MOST_COLUMNS" 3) rfl
theorem x_8 (c : He.SaysD fa fn K) : (He.Fa.glo "KEPT").ok K = true := c.fact 36 (f := .glo "KEPT") rfl
theorem x_9 (c : He.SaysD fa fn K) : (He.Fa.glo "Table").ok K = true := c.fact 37 (f := .glo "Table") rfl
end
/-! ### the hook: the facts, and some more -/
def neB (K : PySem.W.Frag) (C : Addr) : Bool :=
  (PySem.W.findIn K (.ref C) "__class__" == some (some (.builtin "object.__class__"))) && (PySem.W.specialIn K (.builtin "object.__class__") "__get__" == some (some (.builtin "getset_descriptor.__get__"))) &&
  (PySem.W.takesIn K (.builtin "object.__class__") == some true) && (PySem.W.mroIn K C (.type "object") == some true) && (PySem.W.findIn K (.ref C) "__ne__" == some (some (.builtin "object.__ne__"))) &&
  (PySem.W.kitOne K (.type "list") (.ref C) == some false) && (PySem.W.kitOne K (.type "tuple") (.ref C) == some false) && (PySem.W.kitOne K (.type "str") (.ref C) == some false) &&
  PySem.W.notFirst K C (.type "list") && PySem.W.notFirst K C (.type "tuple") && PySem.W.notFirst K C (.type "str")
theorem ne_at {K : PySem.W.Frag} {C : Addr} (c : Cls K C) (h : neB K C = true) : NeAt K C := by
  unfold neB at h
  simp only [Bool.and_eq_true] at h
  obtain ⟨⟨⟨⟨⟨⟨⟨⟨⟨⟨h1, h2⟩, h3⟩, h4⟩, h5⟩, h6⟩, h7⟩, h8⟩, h9⟩, h10⟩, h11⟩ := h
  exact ⟨c, eq_of_beq h1, eq_of_beq h2, eq_of_beq h3, eq_of_beq h4, eq_of_beq h5, eq_of_beq h6, eq_of_beq h7, eq_of_beq h8, h9, h10, h11⟩
def exB (K : PySem.W.Frag) : Bool := He.tupB K "KEPT" (keptL.map He.Dv.str) && neB K (He.ga K "Table")
abbrev AlM : Type := He.AlD × Bool
def obsMG (g : Addr → Option Obj) : AlM := (He.obsD fa fn (He.frG g (He.asD g 5)), exB (He.frG g (He.asD g 5)))
def valM : AlM := (He.valD fn, true)
def SaysM (K : PySem.W.Frag) : Prop := He.SaysD fa fn K ∧ exB K = true
def hkM : PySem.W.Hook where
  α := AlM
  obs := fun s => obsMG s.heap.get?
  val := fun _ => valM
  says := fun _ h => ∃ K : PySem.W.Frag, K.In h ∧ SaysM K
  of := fun _ _ e => ⟨_, He.frG_in, congrArg (fun z : AlM => z.1) e, congrArg (fun z : AlM => z.2) e⟩
  keeps := fun _ _ _ ⟨K, hK, c⟩ k => ⟨K, PySem.W.Frag.In.keeps hK k, c⟩
abbrev R : PySem.W.OpenRow := PySem.W.OpenLaw.row PySem.Challenge.rw_emptyfilters_k01_tables_made
def ob (s : PySem.W.SharedT) : AlM := obsMG (HandSHeadRun.getT s)
theorem ob_eq (s : PySem.W.SharedT) : ob s = hkM.obs s.abs := by
  have e : HandSHeadRun.getT s = s.abs.heap.get? := funext (HandSHeadRun.getT_eq s)
  unfold ob
  rw [e] <;> rfl
theorem run (w : World) : HandSHeadRun.RunEq R (PySem.W.view R.prog [20]) hkM ob 4000 ["__name__", "KEPT", "WORD_LETTERS", "is_integer", "is_word", "copied", "EmptyfiltersError", "BadTable", "MOST_COLUMNS", "first_bad", "Table", "_law_bag", "_law_take", "_law_of", "_law_word", "_law_words", "_law_others"] w := by
  intro os
  kernel_rfl
end K01

namespace K01
open PySem PySem.Spec PyProof.Rows L2 Own
theorem strs_dv {K : PySem.W.Frag} (l : List Str) : (l.map He.Dv.str).map (He.Dv.v K) = l.map V.str := by
  rw [List.map_map]
  rfl
theorem facts {P : Program} {w : World} {K : PySem.W.Frag} {h : Heap} {mg : Str → Option Value} {f : Addr} (X : K.In h) (G : h.Ns mainGlobals mg) (hfa : mg ("law" : Str) = some (.ref f)) (s : SaysM K) :
    ∃ fd : FuncData, (∀ (s : Shared) (v : Value), BindsTo s fd ⟨[v], []⟩ [("script", v)]) ∧ ∀ base : Heap, K.In base → base.Ns mainGlobals mg → FnOk P w K mg base CX0 5 f fd ["script"] (spLaw K) := by
  obtain ⟨c, hex⟩ := s
  obtain ⟨hex, hne⟩ := Bool.and_eq_true_iff.mp hex
  obtain ⟨fd2, F2⟩ := F_is_word c
  obtain ⟨fd3, F3⟩ := F_first_bad c
  obtain ⟨fd4, F4⟩ := F_Tableinit c
  obtain ⟨fdl, Fl⟩ := F_Tablelen c
  obtain ⟨fde, Fe⟩ := F_Tableeq c
  obtain ⟨fdr, Fr⟩ := F_Tablerepr c
  obtain ⟨fd6, F6⟩ := F_law_bag c
  obtain ⟨fd7, F7⟩ := F_law_take c
  obtain ⟨fd8, F8⟩ := F_law_of c
  obtain ⟨fd9, F9⟩ := F_law_word c
  obtain ⟨fd10, F10⟩ := F_law_words c
  obtain ⟨fd11, F11⟩ := F_law_others c
  obtain ⟨fd, F⟩ := F_law c
  have e := hfa.symm.trans (g_law X G c)
  cases e
  have b := FunD.bindsA (ps := ["script"]) F fun _ _ _ _ _ _ us hl => match us, hl with | [_], _ => rfl
  have T0 := free_all X G c
  have T : Txt K mg (He.ga K "KEPT") := { T0 with
    g_KEPT := He.glo_ok X G (x_8 c)
    s_KEPT := fun H => by
      have q := He.tupB_ok hex H
      rw [strs_dv] at q
      exact q
    g_WORD_LETTERS := He.int_ok X G (x_6 c)
    g_MOST_COLUMNS := He.int_ok X G (x_7 c) }
  have TC : TxC K (He.ga K "Table") := ⟨He.cls_ok (x_0 c), He.noat_ok (x_1 c)⟩
  have N : NeAt K (He.ga K "Table") := ne_at TC.cl hne
  have TG : TxG mg (He.ga K "Table") := { T0 with g_Table := He.glo_ok X G (x_9 c) }
  refine ⟨fd, fun s v => b s [v] rfl, fun base _ _ => ?_⟩
  have c2 : Cal P w K mg base CX0 1 "is_word" _ fd2 ["thing"] spIsWord := ⟨ok_is_word F2 T, g_is_word X G c, F2.kp, b_is_word F2⟩
  have c3 : Cal P w K mg base CX0 2 "first_bad" _ fd3 ["names"] (spFirstBadA K) := ⟨ok_first_bad F3 T c2, g_first_bad X G c, F3.kp, b_first_bad F3⟩
  have c4 : CalI P w K mg base CX0 3 "Table" (He.ga K "Table") _ fd4 ["self", "columns"] (spTableA K (He.ga K "Table")) := ⟨ok_Tableinit F4 T TC c3, He.mkr_ok (x_5 c), He.glo_ok X G (x_9 c), b_Tableinit F4⟩
  have cl : CalM P w K mg base CX0 1 (He.ga K "Table") "__len__" _ fdl ["self"] (spLenT (He.ga K "Table")) := ⟨ok_Tablelen Fl T0 TC, He.meth_ok (x_2 c), b_Tablelen Fl⟩
  have ce : CalM P w K mg base CX0 1 (He.ga K "Table") "__eq__" _ fde ["self", "other"] (spEqT (He.ga K "Table")) := ⟨ok_Tableeq Fe TG TC N, He.meth_ok (x_3 c), b_Tableeq Fe⟩
  have cr : CalM P w K mg base CX0 1 (He.ga K "Table") "__repr__" _ fdr ["self"] (spReprT (He.ga K "Table")) := ⟨ok_Tablerepr Fr T0 TC, He.meth_ok (x_4 c), b_Tablerepr Fr⟩
  have c6 : Cal P w K mg base CX0 1 "_law_bag" _ fd6 ["script", "at"] (spBag K) := ⟨ok_bag F6 T0, g_law_bag X G c, F6.kp, b_law_bag F6⟩
  have c7 : Cal P w K mg base CX0 1 "_law_take" _ fd7 ["bag", "many"] spTake := ⟨ok_take F7 T0, g_law_take X G c, F7.kp, b_law_take F7⟩
  have c8 : Cal P w K mg base CX0 2 "_law_of" _ fd8 ["bag", "some"] (spOf K) := ⟨ok_of F8 T0 c7, g_law_of X G c, F8.kp, b_law_of F8⟩
  have c9 : Cal P w K mg base CX0 3 "_law_word" _ fd9 ["bag", "used"] (spWord K) := ⟨ok_word F9 T0 c7 c8, g_law_word X G c, F9.kp, b_law_word F9⟩
  have c10 : Cal P w K mg base CX0 4 "_law_words" _ fd10 ["bag", "many"] spWords := ⟨ok_words F10 T0 c9, g_law_words X G c, F10.kp, b_law_words F10⟩
  have c11 : Cal P w K mg base CX0 4 "_law_others" _ fd11 ["bag", "words"] spOthers := ⟨ok_others F11 T0 c7 c9, g_law_others X G c, F11.kp, b_law_others F11⟩
  exact ok_law F T0 TC N c6 c7 c10 c11 c4 cl cr ce
end K01
open PySem PySem.W PySem.Calls PyProof.Rows
set_option maxHeartbeats 0 in
theorem PySem.Challenge.cw_emptyfilters_k01_tables_made_holds : PySem.Challenge.rw_emptyfilters_k01_tables_made.Holds := by
  w_on; o_law
  refine HandSHeadRun.head_any (r := OpenLaw.row PySem.Challenge.rw_emptyfilters_k01_tables_made) (q := view (OpenLaw.row PySem.Challenge.rw_emptyfilters_k01_tables_made).prog [20]) (H := K01.hkM) (ob := K01.ob) (M := 4000) (loose := ["__name__", "KEPT", "WORD_LETTERS", "is_integer", "is_word", "copied", "EmptyfiltersError", "BadTable", "MOST_COLUMNS", "first_bad", "Table", "_law_bag", "_law_take", "_law_of", "_law_word", "_law_words", "_law_others"]) (d := HandSHeadRun.topDef (OpenLaw.row PySem.Challenge.rw_emptyfilters_k01_tables_made).prog 20) (kwd := []) K01.ob_eq
    (by kernel_rfl) (fun s => by kernel_rfl) K01.run (by kernel_rfl) (by kernel_rfl) (by kernel_rfl) (by rfl) (by first | assumption | decide +kernel) (by decide +kernel) ⟨rfl, rfl, rfl, rfl, rfl, by decide +kernel⟩ ?hw ?hc
  case hw => w_witness2
  case hc =>
    refine L2.walk_ofE (l := PySem.Challenge.rw_emptyfilters_k01_tables_made) (n := 63) (k := 5) (x := "script") (CX := L2.CX0) rfl (by decide) (by kernel_rfl) ⟨rfl, by decide, by decide⟩ ?F (fun _ _ _ _ z => z)
    intro w mg fa h Y G hmg0
    obtain ⟨K, KX, c⟩ := Y
    have hmg : mg ("law" : PySem.Str) = some (.ref fa) := by
      have e : (HandSHeadRun.topDef (OpenLaw.row PySem.Challenge.rw_emptyfilters_k01_tables_made).prog 20).name = ("law" : PySem.Str) := by kernel_rfl
      rw [← e]
      exact hmg0
    obtain ⟨fd, hb, hF⟩ := K01.facts (P := (PySem.Challenge.rw_emptyfilters_k01_tables_made).prog) (w := w) KX G hmg c
    exact ⟨K, fd, K01.spLaw K, KX, hb, fun H a ns hl _ hS => ⟨a, ns, rfl, hS, hl, fun _ => rfl⟩, hF⟩

