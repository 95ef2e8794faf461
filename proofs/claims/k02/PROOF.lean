import PyProof.Rows.All
import Wide.All
import OpenK.AllK
import Wide.FinOn
import HandS.ForMost
import HandS.IsInst
import HandS.TupAny
import HandS.TupMul
import HandS.Wide
import HandS.OwnEq
import HandS.Walk
import HandS.Defaults
import PyProof.InstNe
import KE.KFmtOwn
import HandS.Style
import HandS.FStr
import HandS.Small
import KE.GoesEnum
import PyProof.CollectStr
import PyProof.ListNew
import PyProof.ListRange
import HandS.ForExc
import HandS.ExcInit
import HandS.ExcField
import HandS.ExcIs
import HandS.ClsMeth
import KE.KExcIs
import HandS.Ends
import HandS.HeadEnd
import PyProof.ReprRoads
import PyProof.ReprLen
import PyProof.StrLawsRepr
import HandS.Head0
import HandS.Head1
import HandS.Head2
import HandS.HeadHook1
import HandS.HeadHook2
import PySem.Challenge.RW_emptyfilters_k02_tables_refused
set_option Elab.async false
set_option linter.all false
set_option maxRecDepth 100000
set_option maxHeartbeats 2000000
namespace Own
open PySem PySem.Spec PyProof.Rows L2
section
variable {X : Cx} {n : Nat}
theorem run_own {CX : CXT} {f : Addr} {fd : FuncData} {ps : List Str} {sp : Sp} {E : XK} (F : FnOk X.prog X.w X.K X.mg X.base CX n f fd ps sp)
    (hb : Binds X.K fd ps []) (hx : Passes CX X E) (hr : Room n X.A) {pins : List (Addr × Obj)} {s : Shared} {σ : L2.St} {H : Hp} {vs : List V} {us : List Value} {Q : V → Hp → Prop} (I : Inv X pins σ H s) (r : Vals vs us)
    (hsp : sp vs H Q E) : wpAny (model X.prog X.w) X.A (call (.ref f) us) (EP X pins σ Q) X.xe s :=
  run_fn (ds := []) (dvs := []) F hr hb .nil hx I r (by rw [List.append_nil]; exact hsp)
/-- x in o, by an own __contains__ at f -/
def rInOwn (C : Addr) (neg : Bool) (sp : Sp) (E : XK) : R2 := fun x y H Q => ∃ a dx fs, y = .ref a ∧ H a = some (.ins C dx fs) ∧ sp [.ref a, x] H (fun v H' => ∃ b, v = .bl b ∧ Q (.bl (if neg then !b else b)) H') E
theorem contains_own {CX : CXT} {C f : Addr} {fd : FuncData} {ps : List Str} {sp : Sp} {E : XK} (F : FnOk X.prog X.w X.K X.mg X.base CX n f fd ps sp)
    (hm : Meth X.K C "__contains__" f) (hb : Binds X.K fd ps []) (hx : Passes CX X E) (hr : Room n X.A) {pins : List (Addr × Obj)} {s : Shared} {σ : L2.St} {H : Hp} {x : V} {v : Value} {a dx : Addr} {fs : List (Str × V)} {Q : Bool → Hp → Prop} (I : Inv X pins σ H s) (rx : RelV x v)
    (ha : H a = some (.ins C dx fs)) (hsp : sp [.ref a, x] H (fun v H' => ∃ b, v = .bl b ∧ Q b H') E) :
    wpAny (model X.prog X.w) X.A (contains (.ref a) v) (fun b s' => ∃ H', Inv X pins σ H' s' ∧ Q b H') X.xe s := by
  obtain ⟨mA, J, _⟩ := ins_get I.hok ha
  obtain ⟨od, J, _⟩ := J.look
  have hK := I.kIn
  have hf := PySem.W.looks_findIn (M := model X.prog X.w) hK hm.at_
  unfold contains
  refine wpAny_holding ?_
  have hs0 : stdlibNamesSay? (.ref a) v = none := by rfl
  rw [hs0]
  show wpAny (model X.prog X.w) X.A (specialOf (.ref a) "__contains__" >>= _) _ _ _
  unfold specialOf
  refine wpAny_bind (wpAny_bind (J.type.here (hf.here ?_)))
  have e1 : ((some (Value.ref f)) == some Value.none) = false := by rfl
  dsimp only
  rw [e1]
  simp only [Bool.false_eq_true, if_false]
  unfold callSpecialUnlessNone? specialOf
  refine wpAny_bind (wpAny_bind (wpAny_bind (J.type.here (hf.here ?_))))
  refine wpAny_holding (wpAny_bind ((PySem.W.bind_fn hK _ (beq_iff_eq.mp hm.fn)).here ?_))
  dsimp only
  have e2 : (Value.ref f == Value.none) = false := by rfl
  rw [e2]
  simp only [Bool.false_eq_true, if_false]
  show wpAny (model X.prog X.w) X.A (call (.ref f) [.ref a, v] >>= _) _ _ _
  have r2 : Vals [V.ref a, x] [Value.ref a, v] := .cons rfl (.cons rx .nil)
  refine wpAny_bind (thn (run_own (n := n) F hb hx hr I r2 hsp) fun u s1 ⟨z, H1, I1, rz, b, ez, q⟩ => ?_)
  subst ez
  cases rz
  refine wpAny_pure ?_
  show wpAny (model X.prog X.w) X.A (truthy (.bool b)) _ _ _
  exact wpAny_pure ⟨H1, I1, q⟩
theorem op_in_own {CX : CXT} {C f : Addr} {fd : FuncData} {ps : List Str} {sp : Sp} {E : XK} (F : FnOk X.prog X.w X.K X.mg X.base CX n f fd ps sp)
    (hm : Meth X.K C "__contains__" f) (hb : Binds X.K fd ps []) (hx : Passes CX X E) (hr : Room n X.A) : OpR X (compareOp .In) (rInOwn C false sp E) := by
  intro pins s σ H x y v u Q I rx ry hq
  obtain ⟨a, dx, fs, rfl, ha, h⟩ := hq
  cases ry
  refine wpAny_bind (thn (contains_own F hm hb hx hr I rx ha (Q := fun b H' => Q (.bl b) H') h) fun b s1 ⟨H1, I1, q⟩ => ?_)
  exact wpAny_pure ⟨.bl b, H1, I1, rfl, q⟩
theorem op_notIn_own {CX : CXT} {C f : Addr} {fd : FuncData} {ps : List Str} {sp : Sp} {E : XK} (F : FnOk X.prog X.w X.K X.mg X.base CX n f fd ps sp)
    (hm : Meth X.K C "__contains__" f) (hb : Binds X.K fd ps []) (hx : Passes CX X E) (hr : Room n X.A) : OpR X (compareOp .NotIn) (rInOwn C true sp E) := by
  intro pins s σ H x y v u Q I rx ry hq
  obtain ⟨a, dx, fs, rfl, ha, h⟩ := hq
  cases ry
  refine wpAny_bind (thn (contains_own F hm hb hx hr I rx ha (Q := fun b H' => Q (.bl (!b)) H') h) fun b s1 ⟨H1, I1, q⟩ => ?_)
  exact wpAny_pure ⟨.bl (!b), H1, I1, rfl, q⟩
end
/-! ### callees by name -/
structure Cal (P : Program) (w : World) (K : PySem.W.Frag) (mg : Str → Option Value) (base : Heap) (CX : CXT) (k : Nat) (x : Str) (f : Addr) (fd : FuncData) (ps : List Str) (sp : Sp) : Prop where
  ok : FnOk P w K mg base CX k f fd ps sp
  at_ : mg x = some (.ref f)
  kp : PySem.W.keepIn K (.ref f) = true
  b : Binds K fd ps []
theorem pe_cal {X : Cx} {k : Nat} {x : Str} {f : Addr} {fd : FuncData} {ps : List Str} {sp : Sp} {e : Expr} {es : List Expr} {t : TA} {p pos : Pos} (c : Cal X.prog X.w X.K X.mg X.base CX0 k x f fd ps sp) (hr : Room k X.A) (ha : PA X (e :: es) t)
    (hg : Gl X x := by rfl) (hdb : (x == ("__debug__" : Str)) = false := by decide) (he : starEach (e :: es) X.env = (false, eval e X.env) :: starEach es X.env := by rfl) (hpl : (backTo pos (starEach es X.env)).any (·.1) = false := by rfl) :
    PE X (.Call (.Name x p) (e :: es) [] pos) (tCall sp [] E0 t) := pe_call c.ok hr hg c.at_ c.kp c.b .nil pass0 ha hdb he hpl
theorem pe_gint {X : Cx} {x : Str} {i : Int} {pos : Pos} (hg : Gl X x) (hm : ∃ t, X.mg x = some (.int i t)) (hd : (x == ("__debug__" : Str)) = false := by decide) : PE X (.Name x pos) (tC (.int i)) := by
  obtain ⟨t, h⟩ := hm
  exact pe_glob hg h ⟨t, rfl⟩ hd
theorem hu_of' {k : Nat} {A : Around} (hr : Room k A) : A.units + 64 < cLine := hr.units
/-! ### builtins that the top leaves -/
structure Free (mg : Str → Option Value) : Prop where
  len : mg "len" = none
  range : mg "range" = none
  enumerate : mg "enumerate" = none
  int : mg "int" = none
  abs : mg "abs" = none
  list : mg "list" = none
  tuple : mg "tuple" = none
  all : mg "all" = none
  isinstance : mg "isinstance" = none
  max : mg "max" = none
  min : mg "min" = none
  str : mg "str" = none
  bool : mg "bool" = none
  repr : mg "repr" = none
  sorted : mg "sorted" = none
  set : mg "set" = none
  sum : mg "sum" = none
  any : mg "any" = none
  dict : mg "dict" = none
/-! ### the bag: a list of two ints, and what a draw from it leaves -/
def Bag (H : Hp) (b : Addr) : Prop := ∃ x y : Int, H b = some (.lst [.int x, .int y]) ∧ 0 ≤ x ∧ 0 ≤ y
def But (b : Addr) (H H' : Hp) : Prop := ∀ a o, a ≠ b → H a = some o → H' a = some o
theorem But.refl {b : Addr} {H : Hp} : But b H H := fun _ _ _ h => h
theorem But.trans {b : Addr} {H H1 H2 : Hp} (x : But b H H1) (y : But b H1 H2) : But b H H2 := fun a o n h => y a o n (x a o n h)
theorem But.same {b : Addr} {H H1 : Hp} (x : Same H H1) : But b H H1 := fun a o _ h => x a o h
theorem But.new {b p : Addr} {H H1 : Hp} {o : HO} (x : But b H H1) (hp : H1 p = none) : But b H (upd H1 p o) := fun a u n h => by
  have q := x a u n h
  rw [upd_ne (ne_of_none q hp)]
  exact q
theorem But.put {b : Addr} {H H1 : Hp} {o : HO} (x : But b H H1) : But b H (upd H1 b o) := fun a u n h => by
  rw [upd_ne n]
  exact x a u n h
theorem But.putb {b p : Addr} {H H1 : Hp} {o : HO} (x : But b H H1) (hp : H p = none) : But b H (upd H1 p o) := fun a u n h => by
  rw [upd_ne (ne_of_none h hp)]
  exact x a u n h
theorem But.list {K : PySem.W.Frag} {b a : Addr} {H H1 : Hp} {xs : List V} (x : But b H H1) (n : a ≠ b) (h : SqL K H a xs) : SqL K H1 a xs := by
  rcases h with (h | ⟨o, h⟩) | h
  · exact .inl (.inl (x _ _ n h))
  · exact .inl (.inr ⟨o, x _ _ n h⟩)
  · exact .inr h
theorem But.tup {K : PySem.W.Frag} {b a : Addr} {H H1 : Hp} {xs : List V} (x : But b H H1) (n : a ≠ b) (h : SqT K H a xs) : SqT K H1 a xs := by
  rcases h with (h | ⟨o, h⟩) | h
  · exact .inl (.inl (x _ _ n h))
  · exact .inl (.inr ⟨o, x _ _ n h⟩)
  · exact .inr h
theorem Bag.new {b p : Addr} {H : Hp} {o : HO} (x : Bag H b) (hp : H p = none) : Bag (upd H p o) b := by
  obtain ⟨x, y, h, h0, h1⟩ := x
  exact ⟨x, y, by rw [upd_ne (ne_of_none h hp)]; exact h, h0, h1⟩
theorem Bag.ne {b p : Addr} {H : Hp} (x : Bag H b) (hp : H p = none) : b ≠ p := by
  obtain ⟨x, y, h, _, _⟩ := x
  exact ne_of_none h hp
def spTake : Sp := fun vs H Q _ => ∃ (b : Addr) (m : Int), vs = [.ref b, .int m] ∧ Bag H b ∧ 0 < m ∧ m < 1073741824 ∧ ∀ (d : Int) (H' : Hp), 0 ≤ d → d < m → But b H H' → Bag H' b → Q (.int d) H'
/-- some[draw]: one of the items of a list -/
def spOf (K : PySem.W.Frag) : Sp := fun vs H Q _ => ∃ (b l : Addr) (xs : List V), vs = [.ref b, .ref l] ∧ Bag H b ∧ l ≠ b ∧ SqL K H l xs ∧ xs ≠ [] ∧ xs.length < 1000000 ∧ ∀ (v : V) (H' : Hp), v ∈ xs → But b H H' → Bag H' b → Q v H'
def spBag (K : PySem.W.Frag) : Sp := fun vs H Q _ => ∃ (a : Addr) (ns : List Int) (n : Nat), vs = [.ref a, .int n] ∧ SqL K H a (ns.map V.int) ∧ ns.length ≤ 63 ∧ n ≤ 63 ∧ ∀ (b : Addr) (H' : Hp), Same H H' → H b = none → Bag H' b → Q (.ref b) H'
theorem mem_cut {xs : List V} {lo hi : Option Int} {x : V} (h : x ∈ cutV xs lo hi) : x ∈ xs := by
  unfold cutV at h
  exact List.mem_of_mem_drop (List.mem_of_mem_take h)
theorem int_of_mem {ns : List Int} {x : V} (h : x ∈ ns.map V.int) : ∃ u, x = V.int u := by
  obtain ⟨u, _, e⟩ := List.mem_map.mp h
  exact ⟨u, e.symm⟩
theorem same_new {p : Addr} {H H1 : Hp} {o : HO} (x : Same H H1) (hp : H1 p = none) : Same H (upd H1 p o) := fun a u h => by
  have q := x a u h
  rw [upd_ne (ne_of_none q hp)]
  exact q
theorem same_newH {p : Addr} {H : Hp} {o : HO} (hp : H p = none) : Same H (upd H p o) := same_new (Same.refl H) hp
theorem len_ints {ns : List Int} : (ns.map V.int).length = ns.length := List.length_map ..
/-- two ways to one value: what is to be shown behind is shown once -/
theorem pick {α : Type} {P : α → Prop} {G : Prop} (main : (∀ c, P c) → G) (rest : ∀ c, P c) : G := main rest
theorem pickP {α : Type} (R : α → Prop) {P : α → Prop} {G : Prop} (main : (∀ c, R c → P c) → G) (rest : ∀ c, R c → P c) : G := main rest
theorem abs_nn (i : Int) : 0 ≤ (if i < 0 then -i else i) := by
  split <;> omega
/-! ### kinds of values -/
inductive Kd where
  | non | bl | int | str | lst | tup
  deriving DecidableEq
def Kd.nm : Kd → String
  | .non => "NoneType"
  | .bl => "bool"
  | .int => "int"
  | .str => "str"
  | .lst => "list"
  | .tup => "tuple"
def kdO : Option HO → Option Kd
  | some (.lst _) => some .lst
  | some (.tup _) => some .tup
  | _ => none
def kd (H : Hp) : V → Option Kd
  | .non => some .non
  | .bl _ => some .bl
  | .int _ => some .int
  | .str _ => some .str
  | .ref a => kdO (H a)
  | _ => none
theorem kdO_lst {o : Option HO} (h : kdO o = some .lst) : ∃ xs, o = some (.lst xs) := by
  unfold kdO at h
  split at h
  · exact ⟨_, rfl⟩
  · cases h
  · cases h
theorem kdO_tup {o : Option HO} (h : kdO o = some .tup) : ∃ xs, o = some (.tup xs) := by
  unfold kdO at h
  split at h
  · cases h
  · exact ⟨_, rfl⟩
  · cases h
theorem kdO_or {o : Option HO} {t : Kd} (h : kdO o = some t) : t = .lst ∨ t = .tup := by
  unfold kdO at h
  split at h
  · cases h; exact .inl rfl
  · cases h; exact .inr rfl
  · cases h
theorem kd_ok {K : PySem.W.Frag} {H : Hp} {v : V} {t : Kd} (h : kd H v = some t) : TyX K H v (.type t.nm) := by
  cases v with
  | non => cases h; exact .base .non
  | bl b => cases h; exact .base (.bl b)
  | int i => cases h; exact .base (.int i)
  | str z => cases h; exact .base (.str z)
  | ref a =>
    have h1 : kdO (H a) = some t := h
    rcases kdO_or h1 with e | e <;> subst e
    · obtain ⟨xs, e⟩ := kdO_lst h1
      exact .base (.lst e)
    · obtain ⟨xs, e⟩ := kdO_tup h1
      exact .base (.tup e)
  | _ => cases h
theorem kd_lst {H : Hp} {a : Addr} {xs : List V} (h : H a = some (.lst xs)) : kd H (.ref a) = some .lst := by
  show kdO (H a) = _
  rw [h] <;> rfl
theorem kd_tup {H : Hp} {a : Addr} {xs : List V} (h : H a = some (.tup xs)) : kd H (.ref a) = some .tup := by
  show kdO (H a) = _
  rw [h] <;> rfl
theorem kd_but {H H' : Hp} {b : Addr} {v : V} {t : Kd} (h : kd H v = some t) (x : But b H H') (n : v ≠ .ref b) : kd H' v = some t := by
  cases v with
  | ref a =>
    have na : a ≠ b := fun e => n (by rw [e])
    have h1 : kdO (H a) = some t := h
    rcases kdO_or h1 with e | e <;> subst e
    · obtain ⟨xs, e⟩ := kdO_lst h1
      exact kd_lst (x _ _ na e)
    · obtain ⟨xs, e⟩ := kdO_tup h1
      exact kd_tup (x _ _ na e)
  | _ => exact h
theorem kd_same {H H' : Hp} {v : V} {t : Kd} (h : kd H v = some t) (x : Same H H') : kd H' v = some t := by
  cases v with
  | ref a =>
    have h1 : kdO (H a) = some t := h
    rcases kdO_or h1 with e | e <;> subst e
    · obtain ⟨xs, e⟩ := kdO_lst h1
      exact kd_lst (x _ _ e)
    · obtain ⟨xs, e⟩ := kdO_tup h1
      exact kd_tup (x _ _ e)
  | _ => exact h
def isIntV : V → Bool
  | .int _ => true
  | _ => false
theorem kit_int {K : PySem.W.Frag} (t : Kd) : PySem.W.kitOne K (.type t.nm) (.type "int") = some (decide (t = .int) || decide (t = .bl)) := by
  cases t <;> exact kit_ty (by decide +kernel)
theorem kit_bool {K : PySem.W.Frag} (t : Kd) : PySem.W.kitOne K (.type t.nm) (.type "bool") = some (decide (t = .bl)) := by
  cases t <;> exact kit_ty (by decide +kernel)
theorem kit_str {K : PySem.W.Frag} (t : Kd) : PySem.W.kitOne K (.type t.nm) (.type "str") = some (decide (t = .str)) := by
  cases t <;> exact kit_ty (by decide +kernel)
theorem kit_tuple {K : PySem.W.Frag} (t : Kd) : PySem.W.kitOne K (.type t.nm) (.type "tuple") = some (decide (t = .tup)) := by
  cases t <;> exact kit_ty (by decide +kernel)
theorem kit_list {K : PySem.W.Frag} (t : Kd) : PySem.W.kitOne K (.type t.nm) (.type "list") = some (decide (t = .lst)) := by
  cases t <;> exact kit_ty (by decide +kernel)
theorem kit_dict {K : PySem.W.Frag} (t : Kd) : PySem.W.kitOne K (.type t.nm) (.type "dict") = some false := by
  cases t <;> exact kit_ty (by decide +kernel)
theorem kd_isInt {H : Hp} {v : V} {t : Kd} (h : kd H v = some t) : isIntV v = decide (t = .int) := by
  cases v with
  | ref a => rcases kdO_or (show kdO (H a) = some t from h) with e | e <;> subst e <;> rfl
  | _ => cases h <;> rfl
theorem kd_str {H : Hp} {v : V} (h : kd H v = some .str) : ∃ z, v = .str z := by
  cases v with
  | str z => exact ⟨z, rfl⟩
  | ref a => rcases kdO_or (show kdO (H a) = some .str from h) with e | e <;> cases e
  | _ => cases h
theorem kd_tuple {H : Hp} {v : V} (h : kd H v = some .tup) : ∃ a xs, v = .ref a ∧ H a = some (.tup xs) := by
  cases v with
  | ref a =>
    obtain ⟨xs, e⟩ := kdO_tup (show kdO (H a) = some .tup from h)
    exact ⟨a, xs, rfl, e⟩
  | _ => cases h
theorem int_not_bool {H : Hp} {v : V} {t : Kd} (h : kd H v = some t) : ((decide (t = .int) || decide (t = .bl)) && !decide (t = .bl)) = isIntV v := by
  rw [kd_isInt h]
  cases t <;> rfl
/-- is_integer -/
def spIsInt : Sp := fun vs H Q _ => ∃ (v : V) (t : Kd), vs = [v] ∧ kd H v = some t ∧ Q (.bl (isIntV v)) H
theorem take_snoc {α : Type} {xs : List α} {i : Nat} {x : α} (h : xs[i]? = some x) : xs.take (i + 1) = xs.take i ++ [x] := by
  rw [List.take_succ, h] <;> rfl
theorem map_take_snoc {α β : Type} {xs : List α} {i : Nat} {x : α} (f : α → β) (h : xs[i]? = some x) : (xs.take (i + 1)).map f = (xs.take i).map f ++ [f x] := by
  rw [take_snoc h, List.map_append] <;> rfl
/-- a value whose kind is known, a tuple's items too -/
def Known (H : Hp) (v : V) : Prop := (∃ t, kd H v = some t) ∧ ∀ a xs, v = .ref a → H a = some (.tup xs) → xs.length ≤ 1000 ∧ ∀ x ∈ xs, ∃ t, kd H x = some t
def rowO : Option HO → Int → Bool
  | some (.tup xs), m => decide ((xs.length : Int) = m) && xs.all isIntV
  | _, _ => false
/-- a tuple of m integers -/
def rowB (H : Hp) (v : V) (m : Int) : Bool := match v with
  | .ref a => rowO (H a) m
  | _ => false
theorem rowB_tup {H : Hp} {a : Addr} {xs : List V} {m : Int} (h : H a = some (.tup xs)) : rowB H (.ref a) m = (decide ((xs.length : Int) = m) && xs.all isIntV) := by
  show rowO (H a) m = _
  rw [h] <;> rfl
theorem rowB_not {H : Hp} {v : V} {t : Kd} {m : Int} (h : kd H v = some t) (n : t ≠ .tup) : rowB H v m = false := by
  cases v with
  | ref a =>
    rcases kdO_or (show kdO (H a) = some t from h) with e | e <;> subst e
    · obtain ⟨xs, e⟩ := kdO_lst (show kdO (H a) = some .lst from h)
      show rowO (H a) m = false
      rw [e] <;> rfl
    · exact absurd rfl n
  | _ => rfl
def spIsRow : Sp := fun vs H Q _ => ∃ (v : V) (m : Int), vs = [v, .int m] ∧ Known H v ∧ ∀ H', Same H H' → Q (.bl (rowB H v m)) H'
theorem all_id_map {α : Type} (xs : List α) (f : α → Bool) : (xs.map f).all id = xs.all f := by
  rw [List.all_map] <;> rfl
def spNumber : Sp := fun vs H Q _ => ∃ (b : Addr), vs = [.ref b] ∧ Bag H b ∧ ∀ (n : Int) (H' : Hp), But b H H' → Bag H' b → Q (.int n) H'
/-! ### words -/
def keptL : List Str := ["def", "if", "else", "for", "in", "break", "skip", "refuse", "take", "guard", "blank", "every", "none", "any", "all", "pick", "given", "or", "and", "not", "true", "false", "self"]
def lowB (c : Nat) : Bool := decide (97 ≤ c) && decide (c ≤ 122)
def wordB (z : Str) : Bool := !(inV (.str z) (keptL.map V.str)) && ((decide ((1 : Int) ≤ (z.length : Nat)) && decide (((z.length : Nat) : Int) ≤ 8)) && z.cps.toList.all lowB)
def wordV : V → Bool
  | .str z => wordB z
  | _ => false
theorem wordV_not {H : Hp} {v : V} {t : Kd} (h : kd H v = some t) (n : t ≠ .str) : wordV v = false := by
  cases v with
  | str z => cases h; exact absurd rfl n
  | _ => rfl
theorem le_sign (c d : Nat) : (!decide (([c] : List Nat) < [d])) = decide (d ≤ c) := by
  have h : (([c] : List Nat) < [d]) ↔ c < d := by
    rw [List.cons_lt_cons_iff]
    constructor
    · rintro (h | ⟨_, h⟩)
      · exact h
      · exact absurd h (by decide)
    · exact fun h => .inl h
  by_cases q : d ≤ c
  · rw [decide_eq_true q, decide_eq_false (fun z => absurd (h.mp z) (by omega))] <;> rfl
  · rw [decide_eq_false q, decide_eq_true (h.mpr (by omega))] <;> rfl
theorem flat_strs (l : List Str) : (l.map V.str).all flatV = true := by
  rw [List.all_map]
  exact List.all_eq_true.mpr fun _ _ => rfl
/-- is_word -/
def spIsWord : Sp := fun vs H Q _ => ∃ (v : V) (t : Kd), vs = [v] ∧ kd H v = some t ∧ (∀ z, v = .str z → z.length ≤ 1000) ∧ ∀ H', Same H H' → Q (.bl (wordV v)) H'
/-! ### the first wrong entry -/
def badFrom (pre : List V) : List V → Option Nat
  | [] => none
  | x :: r => if (!(wordV x) || inV x pre) = true then some pre.length else badFrom (pre ++ [x]) r
def dueV (xs : List V) : V :=
  if (decide ((1 : Int) ≤ (xs.length : Nat)) && decide (((xs.length : Nat) : Int) ≤ 3)) = true then (match badFrom [] xs with
    | some i => .int (i : Nat)
    | none => .non)
  else .int (-1)
theorem cut_take (xs : List V) (i : Nat) : cutV xs none (some (i : Int)) = xs.take i := by
  unfold cutV
  rw [HT.sIx_none, HT.sIx_nat, List.drop_zero, Nat.sub_zero, ← List.take_eq_take_min] 
theorem word_str {x : V} (h : wordV x = true) : ∃ z, x = .str z ∧ wordB z = true := by
  cases x with
  | str z => exact ⟨z, rfl, h⟩
  | _ => cases h
theorem word_flat {x : V} (h : wordV x = true) : flatV x = true := by
  obtain ⟨z, rfl, _⟩ := word_str h
  rfl
/-- items that a word's test may meet -/
def Ent (H : Hp) (x : V) : Prop := ∃ t, kd H x = some t ∧ ∀ z, x = .str z → z.length ≤ 1000
theorem Ent.same {H H' : Hp} {x : V} (e : Ent H x) (s : Same H H') : Ent H' x := by
  obtain ⟨t, h, l⟩ := e
  exact ⟨t, kd_same h s, l⟩
def spFirstBad (K : PySem.W.Frag) : Sp := fun vs H Q _ => ∃ (a : Addr) (xs : List V), vs = [.ref a] ∧ SqL K H a xs ∧ xs.length ≤ 1000 ∧ (∀ x ∈ xs, Ent H x) ∧ ∀ H', Same H H' → Q (dueV xs) H'
/-! ### tables -/
/-- a table at p with the columns xs -/
def TabAt (H : Hp) (C p : Addr) (xs : List V) : Prop := ∃ dx t, H p = some (.ins C dx [("columns", .ref t)]) ∧ H t = some (.tup xs)
theorem TabAt.same {H H' : Hp} {C p : Addr} {xs : List V} (h : TabAt H C p xs) (e : Same H H') : TabAt H' C p xs := by
  obtain ⟨dx, t, h1, h2⟩ := h
  exact ⟨dx, t, e _ _ h1, e _ _ h2⟩
theorem TabAt.but {H H' : Hp} {C p b : Addr} {xs : List V} (h : TabAt H C p xs) (e : But b H H') (hb : Bag H b) : TabAt H' C p xs := by
  obtain ⟨dx, t, h1, h2⟩ := h
  obtain ⟨x, y, h3, _⟩ := hb
  exact ⟨dx, t, e _ _ (ne_of h1 h3 (by intro q; cases q)) h1, e _ _ (ne_of h2 h3 (by intro q; cases q)) h2⟩
/-- Table(list), a right one -/
def spTable (K : PySem.W.Frag) (C : Addr) : Sp := fun vs H Q _ => ∃ (p a dx : Addr) (xs : List V), vs = [.ref p, .ref a] ∧ H p = some (.ins C dx []) ∧ SqL K H a xs ∧ xs.length ≤ 1000 ∧ (∀ x ∈ xs, Ent H x) ∧ dueV xs = .non ∧
  ∀ H', But p H H' → TabAt H' C p xs → Q .non H'
/-- thing in table -/
def spContains (C : Addr) : Sp := fun vs H Q _ => ∃ (p : Addr) (v : V) (xs : List V), vs = [.ref p, v] ∧ TabAt H C p xs ∧ xs.length ≤ 1000 ∧ Known H v ∧ ∀ H', Same H H' → Q (.bl (rowB H v (xs.length : Nat))) H'
/-! ### data: flat lists -/
theorem canAll_of : ∀ {ds : List PyData}, (∀ d ∈ ds, d.canLay0 = true ∧ d.depth = 0) → PyData.canLayAll0 ds = true ∧ PyData.depthAll ds = 0
  | [], _ => ⟨by simp only [PyData.canLayAll0], by simp only [PyData.depthAll]⟩
  | d :: r, h => by
    obtain ⟨h1, h2⟩ := h d (List.mem_cons_self ..)
    obtain ⟨h3, h4⟩ := canAll_of (ds := r) fun x hx => h x (List.mem_cons_of_mem _ hx)
    exact ⟨by simp only [PyData.canLayAll0, h1, h3, Bool.and_self], by simp only [PyData.depthAll, h2, h4, Nat.max_self]⟩
theorem shaped_lst {ds : List PyData} (h : ∀ d ∈ ds, d.canLay0 = true ∧ d.depth = 0) : SeqAt.shaped (.list ds) = true := by
  obtain ⟨h1, h2⟩ := canAll_of h
  unfold SeqAt.shaped
  simp only [PyData.canLay0, PyData.depth, h1, h2, Bool.true_and]
  decide
theorem shaped_tup {ds : List PyData} (h : ∀ d ∈ ds, d.canLay0 = true ∧ d.depth = 0) : SeqAt.shaped (.tuple ds) = true := by
  obtain ⟨h1, h2⟩ := canAll_of h
  unfold SeqAt.shaped
  simp only [PyData.canLay0, PyData.depth, h1, h2, Bool.true_and]
  decide
theorem int_flatD (n : Int) : (PyData.int n).canLay0 = true ∧ (PyData.int n).depth = 0 := ⟨by simp only [PyData.canLay0], by simp only [PyData.depth]⟩
theorem shaped_ints (ns : List Int) : SeqAt.shaped (.list (ns.map PyData.int)) = true := shaped_lst fun d hd => by
  obtain ⟨n, _, rfl⟩ := List.mem_map.mp hd
  exact int_flatD n
theorem shaped_nil : SeqAt.shaped (.list []) = true := shaped_lst fun _ h => by cases h
theorem dp_ints {K : PySem.W.Frag} {H : Hp} : ∀ (ns : List Int), DpAll K H (ns.map V.int) (ns.map PyData.int)
  | [] => .nil
  | n :: r => .cons (.int n) (dp_ints r)
theorem eqv_ints_nil (ns : List Int) : PyData.eqv (.list (ns.map PyData.int)) (.list []) = decide (ns = []) := by
  cases ns with
  | nil => simp [PyData.eqv, PyData.eqvAll]
  | cons n r => simp [PyData.eqv, PyData.eqvAll]
theorem pick2 {P : Option V → Hp → Prop} (R : Option V → Hp → Prop) {G : Prop} (main : (∀ o H, R o H → P o H) → G) (rest : ∀ o H, R o H → P o H) : G := main rest
def spValue : Sp := fun vs H Q _ => ∃ (b : Addr) (m : Int), vs = [.ref b, .int m] ∧ Bag H b ∧ 0 ≤ m ∧ m ≤ 3 ∧ ∀ (v : V) (H' : Hp), Known H' v → But b H H' → Bag H' b → Q v H'
theorem known_flat {H : Hp} {v : V} (h : flatV v = true) : Known H v := by
  cases v with
  | non => exact ⟨⟨_, rfl⟩, fun a xs e => by cases e⟩
  | bl b => exact ⟨⟨_, rfl⟩, fun a xs e => by cases e⟩
  | int b => exact ⟨⟨_, rfl⟩, fun a xs e => by cases e⟩
  | str b => exact ⟨⟨_, rfl⟩, fun a xs e => by cases e⟩
  | _ => cases h
theorem known_lst {H : Hp} {a : Addr} {xs : List V} (h : H a = some (.lst xs)) : Known H (.ref a) :=
  ⟨⟨_, kd_lst h⟩, fun b ys e h2 => by
    cases e
    rw [h] at h2
    cases h2⟩
theorem known_tup {H : Hp} {a : Addr} {xs : List V} (h : H a = some (.tup xs)) (hl : xs.length ≤ 1000) (hx : ∀ x ∈ xs, ∃ t, kd H x = some t) : Known H (.ref a) :=
  ⟨⟨_, kd_tup h⟩, fun b ys e h2 => by
    cases e
    rw [h] at h2
    cases h2
    exact ⟨hl, hx⟩⟩
theorem pss_cut {X : Cx} {sts : List Stmt} {t t' : TS} (h : PSs X sts t) (w : ∀ D σ H, t' D σ H → t D σ H) : PSs X sts t' := ⟨fun pins s σ H D I q => h.run pins s σ H D I (w D σ H q)⟩
theorem But.at {b : Addr} {H H' : Hp} (x : But b H H') {a : Addr} {o : HO} (hb : Bag H b) (h : H a = some o) (n : ∀ x y, o ≠ .lst [.int x, .int y]) : H' a = some o := by
  obtain ⟨x1, y1, h3, _⟩ := hb
  exact x a o (ne_of h h3 (n x1 y1)) h
theorem But.free {b p : Addr} {H H1 : Hp} (x : But b H H1) (n : p ≠ b) (h : H1 p = none) : H p = none := by
  cases e : H p with
  | none => rfl
  | some o =>
    rw [x p o n e] at h
    cases h
theorem Bag.put {b p : Addr} {H : Hp} {o : HO} (x : Bag H b) (n : b ≠ p) : Bag (upd H p o) b := by
  obtain ⟨x1, y1, h, h0, h1⟩ := x
  exact ⟨x1, y1, by rw [upd_ne n]; exact h, h0, h1⟩
theorem kd_put {H : Hp} {v : V} {t : Kd} {p : Addr} {o : HO} (h : kd H v = some t) (n : v ≠ .ref p) : kd (upd H p o) v = some t :=
  kd_but (b := p) h (But.put But.refl) n
theorem kd_new {H : Hp} {v : V} {t : Kd} {p : Addr} {o : HO} (h : kd H v = some t) (hp : H p = none) : kd (upd H p o) v = some t := kd_same h (same_newH hp)
theorem kd_ne {H : Hp} {v : V} {t : Kd} {p : Addr} (h : kd H v = some t) (hp : H p = none) : v ≠ .ref p := by
  intro e
  subst e
  have h1 : kdO (H p) = some t := h
  rw [hp] at h1
  cases h1
theorem ixN_of {n : Nat} {d : Int} (h0 : 0 ≤ d) (h1 : d < (n : Int)) : ixN n d = some d.toNat := by
  unfold ixN
  rw [if_pos h0, if_pos h1]
/-! ### t * 1 is t itself -/
theorem tuple_mul1 (l : Addr) (items : Array Value) (n : Nat) (dd : Option Addr) (sl : Array (Option Value)) (u : Tok) :
    Meets (Builtin.«tuple.__mul__» ⟨[.ref l, .int 1 u], []⟩) (fun _ R s => s.heap.get? l = some { cls := .type "tuple", dict := dd, data := .seq items n, slots := sl } ∧
      R (.ok (.ret (Value.ref l))) s) :=
  .of_wp fun prog w A R s h => by
    obtain ⟨hp, g, d, tk, os⟩ := s
    obtain ⟨hl, h⟩ := h
    have f1 := AutoSeq1.idx_int
    wp_walk using wpAny_loadPart' hl
    exact ⟨_, rfl, h⟩
def rRep1 (K : PySem.W.Frag) : R2 := fun x y H Q => ∃ l xs, x = .ref l ∧ y = .int 1 ∧ SqT K H l xs ∧ Q (.ref l) H
theorem op_rep1 {X : Cx} : OpR X (binaryOp .Mult) (rRep1 X.K) := by
  intro pins s σ H x y v u Q I rx ry h
  obtain ⟨l, xs, rfl, rfl, hT, q⟩ := h
  cases rx
  obtain ⟨t, rfl⟩ := ry
  obtain ⟨its, r, ⟨⟨cls, dd, data, sl⟩, ho, hc, n, hd⟩, hs⟩ := I.tuple hT
  simp only at hc hd
  subst hc hd
  refine wpAny_binaryOp_repeat_ref (T := "tuple") (U := "int") (by decide) ⟨_, ho, rfl⟩ (fun s' => typeIs_int s' 1 t) noFill_tuple_mul F.fills_int_mul F.slot_int_rmul repeat_tuple F.slot_int_index.lookup
    (call_meets F.slot_int_rmul (typeIs_int s 1 t) F.entry_int_rmul (F.args_int_rmul_2 _ _) (int_rmul_tuple 1 t l its.toArray n dd sl)
      ⟨ho, rfl, ⟨_, ho, rfl⟩, call_meets F.slot_tuple_mul ⟨_, ho, rfl⟩ F.entry_tuple_mul (F.args_tuple_mul_2 _ _) (tuple_mul1 l its.toArray n dd sl t) ⟨ho, ?_⟩⟩)
  exact ⟨.ref l, H, I, rfl, q⟩
theorem op_rep {X : Cx} : OpR X (binaryOp .Mult) (fun x y H Q => rRepT X.K x y H Q ∨ rRep1 X.K x y H Q) := OpR.or op_repT op_rep1
/-! ### plainer readings -/
theorem opr_imp {X : Cx} {f : Value → Value → Sem Value} {r r' : R2} (h : OpR X f r) (w : ∀ x y H Q, r' x y H Q → r x y H Q) : OpR X f r' :=
  fun pins s σ H x y v u Q I rx ry q => h pins s σ H x y v u Q I rx ry (w x y H Q q)
/-- a tuple at r, all else as it was -/
def TupTo (H : Hp) (xs : List V) (Q : VK) : Prop := ∀ (r : Addr) (H' : Hp), Same H H' → H' r = some (.tup xs) → Q (.ref r) H'
theorem TupTo.new {H : Hp} {xs : List V} {Q : VK} (h : TupTo H xs Q) : ∀ p, H p = none → Q (.ref p) (upd H p (.tup xs)) := fun p hp => h p _ (same_newH hp) upd_same
def rCatS : R2 := fun x y H Q => ∃ a b xs ys, x = .ref a ∧ y = .ref b ∧ H a = some (.tup xs) ∧ H b = some (.tup ys) ∧ xs.length + ys.length ≤ 1000 ∧ TupTo H (xs ++ ys) Q
theorem op_catS {X : Cx} : OpR X (binaryOp .Add) rCatS := opr_imp op_catA fun x y H Q h => by
  obtain ⟨a, b, xs, ys, rfl, rfl, ha, hb, hl, q⟩ := h
  refine ⟨a, b, xs, ys, rfl, rfl, SqT.of ha, SqT.of hb, Nat.le_of_lt (small1000 hl), fun e => ?_, fun _ e => ?_, fun _ _ => q.new⟩
  · exact q b H (Same.refl H) (by rw [e, List.nil_append]; exact hb)
  · exact q a H (Same.refl H) (by rw [e, List.append_nil]; exact ha)
def rRepS : R2 := fun x y H Q => ∃ l k xs, x = .ref l ∧ y = .int k ∧ H l = some (.tup xs) ∧ xs ≠ [] ∧ 1 ≤ k ∧ k ≤ 1000 ∧ xs.length ≤ 1000 ∧ TupTo H (List.replicate k.toNat xs).flatten Q
theorem op_repS {X : Cx} : OpR X (binaryOp .Mult) rRepS := opr_imp op_rep fun x y H Q h => by
  obtain ⟨l, k, xs, rfl, rfl, hl, hx, h1, h2, h3, q⟩ := h
  by_cases e : k = 1
  · subst e
    exact .inr ⟨l, xs, rfl, rfl, SqT.of hl, q l H (Same.refl H) (by simpa using hl)⟩
  · exact .inl ⟨l, k, xs, rfl, rfl, SqT.of hl, hx, by omega, h2, h3, q.new⟩
def rSlS : V → Option Int → Option Int → Hp → VK → Prop := fun x lo hi H Q => ∃ a xs, x = .ref a ∧ H a = some (.tup xs) ∧ TupTo H (cutV xs lo hi) Q
theorem cut_whole {xs : List V} {lo hi : Option Int} (h : HT.sIx xs.length 0 lo = 0 ∧ HT.sIx xs.length xs.length hi = xs.length) : cutV xs lo hi = xs := by
  unfold cutV
  rw [h.1, h.2, List.drop_zero, Nat.sub_zero, List.take_length]
theorem sl_tupS {X : Cx} : SlR X rSlS := fun pins s σ H x v vl vu lo hi sl Q I rx e1 e2 e3 q => by
  obtain ⟨a, xs, rfl, ha, t⟩ := q
  exact sl_tupA pins s σ H (.ref a) v vl vu lo hi sl Q I rx e1 e2 e3 ⟨a, xs, rfl, SqT.of ha, fun e => t a H (Same.refl H) (by rw [cut_whole e]; exact ha), fun _ => t.new⟩
theorem cut_drop (xs : List V) (i : Nat) : cutV xs (some (i : Int)) none = xs.drop i := by
  unfold cutV
  rw [HT.sIx_none, HT.sIx_nat]
  rw [List.take_of_length_le (by rw [List.length_drop]; exact Nat.le_refl _)]
  rcases Nat.le_total i xs.length with h | h
  · rw [Nat.min_eq_left h]
  · rw [Nat.min_eq_right h, List.drop_length, List.drop_of_length_le h]
/-! ### methods and makers by name -/
structure CalM (P : Program) (w : World) (K : PySem.W.Frag) (mg : Str → Option Value) (base : Heap) (CX : CXT) (k : Nat) (C : Addr) (m : Str) (f : Addr) (fd : FuncData) (ps : List Str) (sp : Sp) : Prop where
  ok : FnOk P w K mg base CX k f fd ps sp
  mt : Meth K C m f
  b : Binds K fd ps []
structure CalI (P : Program) (w : World) (K : PySem.W.Frag) (mg : Str → Option Value) (base : Heap) (CX : CXT) (k : Nat) (x : Str) (C f : Addr) (fd : FuncData) (ps : List Str) (sp : Sp) : Prop where
  ok : FnOk P w K mg base CX k f fd ps sp
  mkr : Mk K C f
  at_ : mg x = some (.ref C)
  b : Binds K fd ps []
section
variable {X : Cx} {k : Nat} {x : Str} {C f : Addr} {fd : FuncData} {ps : List Str} {sp : Sp} {e : Expr} {es : List Expr} {t : TA} {p pos : Pos}
theorem pe_mkr (c : CalI X.prog X.w X.K X.mg X.base CX0 k x C f fd ps sp) (hr : Room (k + 1) X.A) (ha : PA X (e :: es) t)
    (hg : Gl X x := by rfl) (hdb : (x == ("__debug__" : Str)) = false := by decide) (he : starEach (e :: es) X.env = (false, eval e X.env) :: starEach es X.env := by rfl) (hpl : (backTo pos (starEach es X.env)).any (·.1) = false := by rfl) :
    PE X (.Call (.Name x p) (e :: es) [] pos) (tMake C sp [] E0 t) := pe_make c.mkr c.ok hr hg c.at_ c.b .nil pass0 ha hdb he hpl
theorem op_in_cal (c : CalM X.prog X.w X.K X.mg X.base CX0 k C "__contains__" f fd ps sp) (hr : Room k X.A) : OpR X (compareOp .In) (rInOwn C false sp E0) := op_in_own c.ok c.mt c.b pass0 hr
theorem op_notIn_cal (c : CalM X.prog X.w X.K X.mg X.base CX0 k C "__contains__" f fd ps sp) (hr : Room k X.A) : OpR X (compareOp .NotIn) (rInOwn C true sp E0) := op_notIn_own c.ok c.mt c.b pass0 hr
end
theorem Known.same {H H' : Hp} {v : V} (h : Known H v) (e : Same H H') : Known H' v := by
  obtain ⟨⟨t, ht⟩, hk⟩ := h
  refine ⟨⟨t, kd_same ht e⟩, fun a xs ev ha => ?_⟩
  subst ev
  rcases kdO_or (show kdO (H a) = some t from ht) with q | q <;> subst q
  · obtain ⟨ys, q⟩ := kdO_lst (show kdO (H a) = some .lst from ht)
    rw [e _ _ q] at ha
    cases ha
  · obtain ⟨ys, q⟩ := kdO_tup (show kdO (H a) = some .tup from ht)
    rw [e _ _ q] at ha
    cases ha
    obtain ⟨h1, h2⟩ := hk a _ rfl q
    exact ⟨h1, fun x hx => let ⟨t, ht⟩ := h2 x hx; ⟨t, kd_same ht e⟩⟩
theorem rowB_same {H H' : Hp} {v : V} {m : Int} (h : Known H v) (e : Same H H') : rowB H' v m = rowB H v m := by
  obtain ⟨⟨t, ht⟩, _⟩ := h
  by_cases q : t = .tup
  · subst q
    obtain ⟨a, xs, rfl, ha⟩ := kd_tuple ht
    rw [rowB_tup ha, rowB_tup (e _ _ ha)]
  · rw [rowB_not ht q, rowB_not (kd_same ht e) q]
theorem But.to_same {b : Addr} {H H1 H2 : Hp} (s : Same H H1) (x : But b H1 H2) (hb : H b = none) : Same H H2 := fun a o h => x a o (ne_of_none h hb) (s a o h)
theorem Bag.same {b : Addr} {H H' : Hp} (x : Bag H b) (e : Same H H') : Bag H' b := by
  obtain ⟨x, y, h, h0, h1⟩ := x
  exact ⟨x, y, e _ _ h, h0, h1⟩
theorem kd_flat {H : Hp} {v : V} (h : flatV v = true) : ∃ t, kd H v = some t := (known_flat h).1
theorem known_tupF {H : Hp} {a : Addr} {xs : List V} (h : H a = some (.tup xs)) (hl : xs.length ≤ 1000) (hx : ∀ x ∈ xs, flatV x = true) : Known H (.ref a) := known_tup h hl fun x q => kd_flat (hx x q)
theorem cut_len (xs : List V) (lo hi : Option Int) : (cutV xs lo hi).length ≤ xs.length := by
  unfold cutV
  rw [List.length_take, List.length_drop]
  omega
theorem rep_flat {x : V} (n : Nat) : (List.replicate n [x]).flatten = List.replicate n x := by
  induction n with
  | zero => rfl
  | succ n ih => rw [List.replicate_succ, List.flatten_cons, ih, List.replicate_succ] <;> rfl
theorem rowB_bad {H : Hp} {a : Addr} {xs : List V} {m : Int} (h : H a = some (.tup xs)) (hx : ∃ x ∈ xs, isIntV x = false) : rowB H (.ref a) m = false := by
  rw [rowB_tup h]
  obtain ⟨x, h1, h2⟩ := hx
  have e : xs.all isIntV = false := by
    rw [List.all_eq_false]
    exact ⟨x, h1, by rw [h2]; decide⟩
  rw [e, Bool.and_false]
theorem rowB_len {H : Hp} {a : Addr} {xs : List V} {m : Int} (h : H a = some (.tup xs)) (hx : (xs.length : Int) ≠ m) : rowB H (.ref a) m = false := by
  rw [rowB_tup h, decide_eq_false hx, Bool.false_and]
end Own

namespace Own
open PySem PySem.Spec PyProof.Rows L2
section
variable {X : Cx} {n : Nat} {CX : CXT} {C f : Addr} {fd : FuncData} {ps : List Str} {sp : Sp} {E : XK}
/-- the callee runs, some units deeper -/
theorem run_at {A : Around} (sb : Sub X n A) (F : FnOk X.prog X.w X.K X.mg X.base CX n f fd ps sp) (hb : Binds X.K fd ps []) (hx : Passes CX X E)
    {pins : List (Addr × Obj)} {s : Shared} {σ : L2.St} {H : Hp} {vs : List V} {us : List Value} {Q : V → Hp → Prop} (I : Inv X pins σ H s) (r : Vals vs us) (hsp : sp vs H Q E) :
    wpAny (model X.prog X.w) A (call (.ref f) us) (EP X pins σ Q) X.xe s := by
  have hl : (us ++ ([] : List Value)).length = ps.length := by
    rw [List.append_nil, ← r.length]
    exact F.len _ _ _ _ hsp
  have bt := hb s us I.kIn hl
  rw [List.append_nil] at bt
  obtain ⟨h0, h1, h2, h3, h4, h5, h6, h7⟩ := I.env0
  refine wpAny_call (codeAny_mono (F.run A X.stack s H ⟨us, []⟩ us vs Q E sb.room ⟨sb.fr.trans h0, h1, h2, h3, h4, h5, h6, h7⟩ bt r hsp) fun z s' hq => ?_)
  match z, hq with
  | .error e, hq => exact hx pins σ H s e s' I hq
  | .ok (.ret u), hq => exact I.after hq
theorem sub_of {A : Around} (hr : Room n X.A) : Sub X n X.A := ⟨hr, rfl⟩
/-- what stands at an instance -/
theorem inst_at {pins : List (Addr × Obj)} {s : Shared} {σ : L2.St} {H : Hp} {a dx : Addr} {fs : List (Str × V)} (I : Inv X pins σ H s) (ha : H a = some (.ins C dx fs)) : ∃ od, PySem.W.InstAt s.heap a (PySem.W.instObj C dx) C (some od) := by
  obtain ⟨mA, J, _⟩ := ins_get I.hok ha
  obtain ⟨od, J, _⟩ := J.look
  exact ⟨od, J⟩
def rLenOwn (C : Addr) (sp : Sp) (E : XK) : List V → Hp → VK → Prop := fun xs H Q => ∃ a dx fs, xs = [.ref a] ∧ H a = some (.ins C dx fs) ∧ sp [.ref a] H (fun v H' => ∃ k : Nat, v = .int k ∧ k < 1000000 ∧ Q (.int k) H') E
theorem call_len_own (Fn : FnOk X.prog X.w X.K X.mg X.base CX n f fd ps sp) (hm : Meth X.K C "__len__" f) (hb : Binds X.K fd ps []) (hx : Passes CX X E) (hr : Room (n + 1) X.A) : CallR X (.builtin "len") (rLenOwn C sp E) := by
  intro pins s σ H xs us Q I r h
  obtain ⟨a, dx, fs, rfl, ha, q⟩ := h
  obtain ⟨od, J⟩ := inst_at I ha
  obtain ⟨m, hF⟩ := I.fr
  match us, r with
  | [u], .cons ru .nil =>
    cases ru
    refine PySem.W.len_K hF I.ok.mod.kin J hm.at_ hm.fn ?_
    refine thn (run_at (A := X.A.in1) ⟨hr.in1, rfl⟩ Fn hb hx I (show Vals [V.ref a] [Value.ref a] from .cons rfl .nil) q) fun v s1 ⟨z, H1, I1, rz, k, ez, hk, q1⟩ => ?_
    subst ez
    obtain ⟨t, rfl⟩ := rz
    show (0 ≤ (k : Int) ∧ (k : Int) < 2 ^ 63) ∧ _
    exact ⟨⟨by omega, by omega⟩, .int k, H1, I1.tok _, ⟨_, rfl⟩, q1⟩
def rReprOwn (C : Addr) (sp : Sp) (E : XK) : List V → Hp → VK → Prop := fun xs H Q => ∃ a dx fs, xs = [.ref a] ∧ H a = some (.ins C dx fs) ∧ sp [.ref a] H (fun v H' => ∃ z : Str, v = .str z ∧ Q (.str z) H') E
theorem call_repr_own (Fn : FnOk X.prog X.w X.K X.mg X.base CX n f fd ps sp) (hm : Meth X.K C "__repr__" f) (hb : Binds X.K fd ps []) (hx : Passes CX X E) (hr : Room (n + 1) X.A) : CallR X (.builtin "repr") (rReprOwn C sp E) := by
  intro pins s σ H xs us Q I r h
  obtain ⟨a, dx, fs, rfl, ha, q⟩ := h
  obtain ⟨od, J⟩ := inst_at I ha
  obtain ⟨m, hF⟩ := I.fr
  match us, r with
  | [u], .cons ru .nil =>
    cases ru
    refine PySem.W.repr_K hr.in1.units0 hF I.ok.mod.kin J hm.at_ hm.fn ?_
    refine thn (run_at (A := X.A.in1) ⟨hr.in1, rfl⟩ Fn hb hx I (show Vals [V.ref a] [Value.ref a] from .cons rfl .nil) q) fun v s1 ⟨z, H1, I1, rz, k, ez, q1⟩ => ?_
    subst ez
    obtain ⟨t, rfl⟩ := rz
    exact ⟨.str k, H1, I1, ⟨_, rfl⟩, q1⟩
/-- x == y by x's own __eq__; y of a class that does not come first -/
def rEqOwn (K : PySem.W.Frag) (C : Addr) (neg : Bool) (sp : Sp) (E : XK) : R2 := fun x y H Q => ∃ a dx fs t, x = .ref a ∧ H a = some (.ins C dx fs) ∧ TyX K H y t ∧ PySem.W.notFirst K C t = true ∧
  sp [.ref a, y] H (fun v H' => ∃ b, v = .bl b ∧ Q (.bl (if neg then !b else b)) H') E
theorem op_eq_own (Fn : FnOk X.prog X.w X.K X.mg X.base CX n f fd ps sp) (hm : Meth X.K C "__eq__" f) (hb : Binds X.K fd ps []) (hx : Passes CX X E) (hr : Room n X.A) : OpR X (compareOp .Eq) (rEqOwn X.K C false sp E) := by
  intro pins s σ H x y v u Q I rx ry h
  obtain ⟨a, dx, fs, t, rfl, ha, ty, nf, q⟩ := h
  cases rx
  obtain ⟨od, J⟩ := inst_at I ha
  obtain ⟨m, hF⟩ := I.fr
  obtain ⟨Pd, Z, pz, _⟩ := kit_of I ry ty
  refine PySem.W.cmp_K (op := .Eq) hr.units0 hF I.ok.mod.kin J (Z.ty _ _ I.kIn pz) nf hm.at_ hm.fn ?_
  refine thn (run_at ⟨hr, rfl⟩ Fn hb hx I (show Vals [V.ref a, y] [Value.ref a, u] from .cons rfl (.cons ry .nil)) q) fun w s1 ⟨z, H1, I1, rz, k, ez, q1⟩ => ?_
  subst ez
  cases rz
  exact ⟨.bl k, H1, I1, rfl, q1⟩
open Builtin in
theorem op_ne_own (Fn : FnOk X.prog X.w X.K X.mg X.base CX n f fd ps sp) (hm : Meth X.K C "__eq__" f) (hn : PySem.W.findIn X.K (.ref C) "__ne__" = some (some (.builtin "object.__ne__"))) (ho : PySem.W.mroIn X.K C (.type "object") = some true)
    (hb : Binds X.K fd ps []) (hx : Passes CX X E) (hr : Room (n + 1) X.A) : OpR X (compareOp .NotEq) (rEqOwn X.K C true sp E) := by
  intro pins s σ H x y v u Q I rx ry h
  obtain ⟨a, dx, fs, t, rfl, ha, ty, nf, q⟩ := h
  cases rx
  obtain ⟨od, J⟩ := inst_at I ha
  obtain ⟨Pd, Z, pz, _⟩ := kit_of I ry ty
  have hK := I.kIn
  have core : wpAny (model X.prog X.w) X.A (tryCompare (.ref a) "__ne__" u) (fun r s' => ∃ w, r = some w ∧ EP X pins σ Q w s') X.xe s := by
    unfold tryCompare
    refine wpAny_bind ?_
    simp only [callSpecialIfBound?, bindSpecialIfBound?]
    refine wpAny_holding (wpAny_bind (wpAny_bind (wpAny_bind (J.type.here ((PySem.W.looks_findIn hK hn).here ?_)))))
    refine wpAny_bind (wpAny_askSetting (wpAny_ite ?_))
    have hbs : bindSpecial (.builtin "object.__ne__") (.ref a) = pure (.builtin "object.__ne__", [.ref a]) := F.cmp_object.ne.bind _
    have fin : wpAny (model X.prog X.w) X.A (call (.builtin "object.__ne__") [.ref a, u]) (fun v s' => ∃ b, v = .bool b ∧ EP X pins σ Q (.bool b) s') X.xe s := by
      refine wpAny_call (codeAny_call_builtin F.cmp_object.ne.plain F.cmpEntry_ne (PySem.W.check_slot (i := "object.__ne__") (owner := "object") (n := "__ne__") F.cmpKind_ne F.cmpSplit_ne (J.type.andThen (PySem.W.looks_mroIn hK ho)) (F.cmpArgs_ne _ _) ?_))
      unfold Builtin.«object.__ne__»
      refine wpAny_bind (m := slotArgs "__ne__" 1 _) (wpAny_pure ?_)
      refine wpAny_bind (m := cRoomFor _ _) (wpAny_cRoomFor hr.in1.units0 ?_)
      refine wpAny_bind (m := callSpecialIfBound? (.ref a) (Str.ofString "__eq__") _) (PySem.W.ifBound_K hK J hm.at_ hm.fn ?_)
      refine thn (run_at (A := X.A.in1) ⟨hr.in1, rfl⟩ Fn hb hx I (show Vals [V.ref a, y] [Value.ref a, u] from .cons rfl (.cons ry .nil)) q) fun w s1 ⟨z, H1, I1, rz, k, ez, q1⟩ => ?_
      subst ez
      cases rz
      show wpAny _ _ (do ret (.bool (!(← truthy (.bool k))))) _ _ _
      refine wpAny_bind (wpAny_pure ?_)
      exact wpAny_pure ⟨!k, rfl, .bl (!k), H1, I1, rfl, q1⟩
    have cont : ∀ (v : Value) (s' : Shared), (∃ b, v = .bool b ∧ EP X pins σ Q (.bool b) s') → wpAny (model X.prog X.w) X.A (match (some v : Option Value) with
        | some .notImplemented => pure none
        | none => pure none
        | some r => pure (some r) : Sem (Option Value)) (fun r s' => ∃ w, r = some w ∧ EP X pins σ Q w s') X.xe s' := fun v s' ⟨b, e, z⟩ => by
      subst e
      exact wpAny_pure ⟨_, rfl, z⟩
    split
    · refine wpAny_bind ((PySem.W.Looks.of_pure hbs).here (wpAny_pure ?_))
      exact wpAny_bind (wpAny_mono fin (fun v s' z => wpAny_pure (cont v s' z)) fun _ _ e => e)
    · refine wpAny_tryCatch (wpAny_bind ((PySem.W.Looks.of_pure hbs).here (wpAny_pure ?_)))
      exact wpAny_bind (wpAny_mono fin (fun v s' z => wpAny_pure (cont v s' z)) fun _ _ e => e)
  show wpAny (model X.prog X.w) X.A (richCompare .NotEq (.ref a) u) _ _ _
  unfold richCompare
  simp only [oneThing_ref]
  refine wpAny_holding (wpAny_bind (wpAny_cRoomFor hr.units0 ?_))
  refine wpAny_bind (J.type.here (wpAny_bind ((Z.ty _ _ hK pz).here ?_)))
  have last : wpAny (model X.prog X.w) X.A (tryCompare (.ref a) (cmpInfo CmpOp.NotEq).2.fst u) (fun r s' => ∃ w, r = some w ∧ EP X pins σ Q w s') X.xe s := core
  have key : (Value.ref C != t) = true → PySem.W.subIn X.K t (.ref C) = some false := fun z => by
    rcases Bool.or_eq_true_iff.mp nf with g | g
    · have g1 := eq_of_beq g
      rw [g1, bne_self_eq_false] at z
      cases z
    · exact eq_of_beq g
  by_cases z : (Value.ref C != t) = true
  · rw [if_pos z]
    refine wpAny_bind ((PySem.W.looks_subIn hK (key z)).here ?_)
    simp only [Bool.false_eq_true, if_false]
    refine wpAny_bind (thn last fun r s2 ⟨w, e, g⟩ => ?_)
    subst e
    exact wpAny_pure g
  · rw [if_neg z]
    refine wpAny_bind (wpAny_pure ?_)
    simp only [Bool.false_eq_true, if_false]
    refine wpAny_bind (thn last fun r s2 ⟨w, e, g⟩ => ?_)
    subst e
    exact wpAny_pure g
end
/-! ### enumerate of a tuple -/
/-- the tuple at a, its items in new pairs -/
def IteT (K : PySem.W.Frag) (a : Addr) : It where
  go := fun i H => ∃ (xs : List V) (x : V), SqT K H a xs ∧ xs[i]? = some x
  yld := fun i H v H' => ∃ T x, v = .ref T ∧ H T = none ∧ H' = upd H T (.tup [.int (i : Nat), x]) ∧ ∀ xs, SqT K H a xs → xs[i]? = some x
  stop := fun i H => ∃ xs : List V, SqT K H a xs ∧ xs.length = i
theorem apart_iter {h : Heap} {a it : Addr} {i : Nat} {its : Array Value} (t : h.IsTuple a its) (x : h.IsTupleIter it a i) : a ≠ it := by
  intro e
  subst e
  obtain ⟨o, h1, _, n, h2⟩ := t
  obtain ⟨o', h3, _, h4⟩ := x
  rw [h1] at h3
  cases h3
  rw [h2] at h4
  cases h4
theorem turn_enumT {P : Program} {w : World} {K : PySem.W.Frag} {elts : List Expr} {kk : Nat} {tpos : Pos} (a e it : Addr) :
    Turn P w K (.Tuple elts kk tpos) (IteT K a) [e, it] e (fun i h => (∃ old, IsEnum h e it ((i : Nat) : Int) old) ∧ h.IsTupleIter it a i ∧ e ≠ it ∧ e ≠ a) where
  mem := List.mem_cons_self ..
  obj := fun i h ⟨⟨old, he⟩, ⟨o, ho, hc, hd⟩, _⟩ b hb => by
    rcases List.mem_cons.mp hb with z | z
    · subst z
      exact ⟨_, he, nofun⟩
    · rw [List.mem_singleton.mp z]
      exact ⟨o, ho, fun v q => by rw [hd] at q; cases q⟩
  keep := fun i h h' ⟨⟨old, he⟩, hi, hne⟩ k => ⟨⟨old, k e (List.mem_cons_self ..) _ he⟩, hi.at fun o q => k it (List.mem_cons_of_mem _ (List.mem_singleton.mpr rfl)) o q, hne⟩
  item := by
    intro X hP hw hK hc i pins s σ H E I hf st hg
    subst hP hw hK
    obtain ⟨⟨old, he⟩, hit, hne, hna⟩ := st
    obtain ⟨xs, x, hq, hx⟩ := hg
    obtain ⟨its, rv, p, hz⟩ := I.tuple hq
    obtain ⟨u, hu, ru⟩ := rv.get hx
    have hT : s.heap.IsTuple a its.toArray := p
    have hlt : i < its.toArray.size := by
      have z := (List.getElem?_eq_some_iff.mp hu).1
      simpa using z
    have D := Draws.tuple (prog := X.prog) (w := X.w) (A := X.A.in1) (I.ok.hd hc) it a (apart_iter hT hit) its.toArray
    have hel : e < s.heap.objs.size := Heap.lt_size he
    have hil : it < s.heap.objs.size := by
      obtain ⟨_, q, _⟩ := hit
      exact Heap.lt_size q
    refine wpAny_pyNext_enum_itemD D he ⟨hit, hT⟩ hlt hne (by intro z; rcases List.mem_cons.mp z with z | z; exact hne z; exact hna (List.mem_singleton.mp z)) fun y h' tk hy ho st' hT' hsz hk => ?_
    have ey : y = u := by
      have z : its[i]? = some y := by simpa using hy
      rw [hu] at z
      exact (Option.some.inj z).symm
    subst ey
    refine ⟨_, rfl, wpAny_letOwnedTupleGo_enum (s := { s with heap := h', toks := tk + 1 }) ho fun h2 he2 sb => ?_⟩
    have e2 : h2.get? s.heap.objs.size = some { cls := .type "tuple", data := .seq #[.int i tk, y] } := (sb.2 _ (Nat.ne_of_gt hel)).trans hT'
    have new : ObjOk X.prog X.w (upd H s.heap.objs.size (.tup [.int (i : Nat), x])) h2 s.heap.objs.size (.tup [.int (i : Nat), x]) :=
      ⟨(by show 2 ≤ sizeLine; decide), [.int i tk, y], .cons ⟨_, rfl⟩ (.cons ru .nil), ⟨_, e2, rfl, _, rfl⟩⟩
    have I1 : Inv X pins σ (upd H s.heap.objs.size (.tup [.int (i : Nat), x])) { s with heap := h2, toks := tk + 1 } :=
      I.turnedNew (ch := [e, it]) (fun b ob hb q => by
        have n1 : b ≠ e := fun z => hb (z ▸ List.mem_cons_self ..)
        have n2 : b ≠ it := fun z => hb (z ▸ List.mem_cons_of_mem _ (List.mem_singleton.mpr rfl))
        exact (sb.2 b n1).trans (hk b ob n1 n2 q)) hf (Nat.le_refl _) new
    have e1 : ((i + 1 : Nat) : Int) = (i : Int) + 1 := by omega
    refine ⟨.ref s.heap.objs.size, _, I1, rfl, ⟨_, x, rfl, I.hok.fresh (Nat.le_refl _), rfl, fun ys hy => by rw [I.tuple_inj hy hq]; exact hx⟩, ⟨⟨y, by rw [e1]; exact he2⟩, st'.1.at fun o q => (sb.2 it (Ne.symm hne)).trans q, hne, hna⟩, fun b hb => ?_⟩
    have hbl : b < s.heap.objs.size := by
      rcases List.mem_cons.mp hb with z | z
      · rw [z]; exact hel
      · rw [List.mem_singleton.mp z]; exact hil
    rw [upd_ne (Nat.ne_of_lt hbl)]
    exact (hf b hb).1
  done := by
    intro X hP hw hK hc i pins s σ H E I hf st hg
    subst hP hw hK
    obtain ⟨⟨old, he⟩, hit, hne, hna⟩ := st
    obtain ⟨xs, hq, hx⟩ := hg
    obtain ⟨its, rv, p, hz⟩ := I.tuple hq
    obtain ⟨f0, f1, f2, f3, f4, f5⟩ := hf it (List.mem_cons_of_mem _ (List.mem_singleton.mpr rfl))
    have hT : s.heap.IsTuple a its.toArray := p
    have hn : its.toArray.size = i := by rw [List.size_toArray, ← rv.length, hx]
    have D := Draws.tuple (prog := X.prog) (w := X.w) (A := X.A.in1) (I.ok.hd hc) it a (apart_iter hT hit) its.toArray
    rw [hn] at D
    exact wpAny_pyNext_enum_endD D he ⟨hit, hT⟩ fun h' eb => ⟨rfl, I.turned (t' := s.toks) (fun b o hb q => eb b o hb q) f0 f1 f3 f4 f5⟩
  self := fun A i s Q E ⟨⟨_, he⟩, _⟩ h => wpAny_pyIter_enum he h
set_option maxHeartbeats 4000000 in
theorem enum_new1 {v : Value} {o : Obj} {G : Heap → Prop} (B : Begins v o G) :
    Meets (Builtin.«enumerate.__new__» ⟨[.type "enumerate", v], []⟩) (fun _ R s => G s.heap ∧
      R (.ok (.ret (.ref (s.heap.push o).objs.size))) { s with heap := (s.heap.push o).push { cls := .type "enumerate", data := .fields #[.none, .bool false, .ref s.heap.objs.size, rawInt 0, .none, .none] } }) :=
  .of_wp fun prog w A R s h => by
    obtain ⟨hp, g, d, tk, os⟩ := s
    obtain ⟨h1, h⟩ := h
    have hsub := sub_enumerate
    have q1 : ∀ {A' : Around} {E : Value → Shared → Prop} {Q : Value → Shared → Prop}, Q (.ref hp.objs.size) ⟨hp.push o, g, d, tk, os⟩ → wpAny (model prog w) A' (pyIter v) Q E ⟨hp, g, d, tk, os⟩ :=
      fun z => B.iter _ _ _ _ ⟨hp, g, d, tk, os⟩ _ h1 z
    wp_walk using q1
    refine wpAny_stack_any fun st => wpAny_pure ?_
    split
    · rename_i c _ _ _ _ _
      by_cases z : (c == Value.type "enumerate") = true
      · rw [z]
        wp_walk using q1
        exact ⟨_, rfl, h⟩
      · rw [Bool.not_eq_true] at z
        rw [z]
        wp_walk using q1
        exact ⟨_, rfl, h⟩
    · wp_walk using q1
      exact ⟨_, rfl, h⟩
theorem enum_made {prog : Program} {w : World} {A : Around} {E : Value → Shared → Prop} {s : Shared} {v : Value} {o : Obj} {G : Heap → Prop} {Q : Value → Shared → Prop} (B : Begins v o G) (h1 : G s.heap)
    (h : ∀ h', IsEnum h' (s.heap.objs.size + 1) s.heap.objs.size 0 .none → h'.get? s.heap.objs.size = some o → (∀ b o', s.heap.get? b = some o' → h'.get? b = some o') → Q (.ref (s.heap.objs.size + 1)) { s with heap := h' }) :
    wpAny (model prog w) A (call (.type "enumerate") [v]) Q E s := by
  refine callType_new F.called_enumerate (by decide) (F.typeCall_enumerate_1 _) (F.newCall_enumerate_1 _) (fun obj => F.args_object_init_2 obj _) F.entry_enumerate_new (enum_new1 B) ⟨h1, ?_⟩
  have hz : (s.heap.push o).objs.size = s.heap.objs.size + 1 := Heap.size_push ..
  show _ ∧ _
  rw [hz]
  have he : IsEnum ((s.heap.push o).push { cls := .type "enumerate", data := .fields #[.none, .bool false, .ref s.heap.objs.size, rawInt 0, .none, .none] }) (s.heap.objs.size + 1) s.heap.objs.size 0 .none := by
    have q := Heap.get?_push_size (s.heap.push o) (o := { cls := .type "enumerate", data := .fields #[.none, .bool false, .ref s.heap.objs.size, rawInt 0, .none, .none] }) rfl
    rw [hz] at q
    exact q
  exact ⟨⟨_, he, rfl⟩, h _ he (Heap.get?_push_of_some _ (Heap.get?_push_size _ B.free)) fun b o' x => Heap.get?_push_of_some _ (Heap.get?_push_of_some _ x)⟩
theorem walk_enumT {K : PySem.W.Frag} {a : Addr} {xs : List V} : Walk (IteT K a) xs.length (fun H => SqT K H a xs) (YPair (fun i => some (.int (i : Nat))) (fun i => xs[i]?)) := by
  refine ⟨fun i _ hi q => ⟨xs, xs[i], q, by simp [hi]⟩, fun _ q => ⟨xs, q, rfl⟩, fun i H v H' _ q y => ?_⟩
  obtain ⟨T, x, h1, h2, h3, h4⟩ := y
  exact ⟨T, .int (i : Nat), x, h1, h2, h3, rfl, h4 xs q⟩
/-- a list or a tuple -/
def SqA (K : PySem.W.Frag) (H : Hp) (a : Addr) (xs : List V) : Prop := SqL K H a xs ∨ SqT K H a xs
theorem tup_same {K : PySem.W.Frag} {a : Addr} {H H1 : Hp} {xs : List V} (x : Same H H1) (h : SqT K H a xs) : SqT K H1 a xs := by
  rcases h with (h | ⟨o, h⟩) | h
  · exact .inl (.inl (x _ _ h))
  · exact .inl (.inr ⟨o, x _ _ h⟩)
  · exact .inr h
theorem SqA.same {K : PySem.W.Frag} {a : Addr} {H H1 : Hp} {xs : List V} (h : SqA K H a xs) (x : Same H H1) : SqA K H1 a xs := h.elim (fun h => .inl (x.seq h)) fun h => .inr (tup_same x h)
/-- enumerate of a list or a tuple: for whatever walk it is -/
def iEnumA (K : PySem.W.Frag) (ta : TA) : TI := fun σ H R => ta σ H fun vs H1 => ∃ a xs, vs = [.ref a] ∧ SqA K H1 a xs ∧ ∀ J G, Walk J xs.length G (YPair (fun i => some (.int (i : Nat))) (fun i => xs[i]?)) → (∀ H', Same H1 H' → G H') → R J H1
set_option maxHeartbeats 400000 in
theorem pi_enumA {X : Cx} {e : Expr} {ta : TA} {p pos tpos : Pos} {elts : List Expr} {kk : Nat} (hg : Gl X "enumerate") (hm : X.mg "enumerate" = none) (ha : PA X [e] ta) (hs : starEach [e] X.env = [(false, eval e X.env)] := by rfl) :
    PI X (.Tuple elts kk tpos) (.Call (.Name "enumerate" p) [e] [] pos) (iEnumA X.K ta) := by
  refine ⟨fun pins s σ H R I h => ?_⟩
  refine Call_ (ld_blt I hg hm boot_enumerate (PyProof.Rows.callWith_type1 (thn (ha.run pos pins s σ H _ I h) fun us s1 ⟨vs, H1, I1, r1, q1⟩ => ?_) hs rfl))
  obtain ⟨a, xs, ex, hq⟩ := q1
  subst ex
  have fp : ∀ b ∈ [s1.heap.objs.size + 1, s1.heap.objs.size], FpOk X pins H1 b := fun b hb => by
    have hle : s1.heap.objs.size ≤ b := by
      rcases List.mem_cons.mp hb with z | z
      · rw [z]
        exact Nat.le_succ _
      · rw [List.mem_singleton.mp z]
        exact Nat.le_refl _
    exact I1.fpOk hle (I1.hok.fresh hle)
  cases r1 with
  | cons r rr =>
    cases rr
    cases r
    obtain ⟨hs, q0⟩ := hq
    rcases hs with hq | hq
    · have q := q0 (Ite X.K a) _ walk_enum (fun H' e => e.seq hq)
      obtain ⟨its, rv, p', hz⟩ := I1.list hq
      refine enum_made (begins_list a its.toArray) p'.isList fun h' he hit hk => wpAny_pyIter_enum he ?_
      exact ⟨s1.heap.objs.size + 1, [s1.heap.objs.size + 1, s1.heap.objs.size], _, _, H1, rfl, I1.kept (t' := s1.toks) hk, turn_enum a (s1.heap.objs.size + 1) s1.heap.objs.size, ⟨⟨.none, he⟩, ⟨_, hit, rfl, rfl⟩, Nat.succ_ne_self _⟩, fp, q⟩
    · have q := q0 (IteT X.K a) _ walk_enumT (fun H' e => tup_same e hq)
      obtain ⟨its, rv, p', hz⟩ := I1.tuple hq
      have hlt : a < s1.heap.objs.size := by
        obtain ⟨o, ho, _⟩ := p'
        exact Heap.lt_size ho
      have hne : s1.heap.objs.size + 1 ≠ a := Nat.ne_of_gt (Nat.lt_succ_of_lt hlt)
      refine enum_made (begins_tuple a its.toArray) p' fun h' he hit hk => wpAny_pyIter_enum he ?_
      exact ⟨s1.heap.objs.size + 1, [s1.heap.objs.size + 1, s1.heap.objs.size], _, _, H1, rfl, I1.kept (t' := s1.toks) hk, turn_enumT a (s1.heap.objs.size + 1) s1.heap.objs.size, ⟨⟨.none, he⟩, ⟨_, hit, rfl, rfl⟩, Nat.succ_ne_self _, hne⟩, fp, q⟩
end Own

namespace Own
open PySem PySem.Spec PyProof.Rows L2
section
variable {prog : Program} {w : World} {A : Around} {E : Value → Shared → Prop} {s : Shared}
/-- a list of a text: its signs -/
theorem list_str_init {R : Result → Shared → Prop} (hh : A.handled = none) (x : Str) (t : Tok) (hn : x.cps.size ≤ sizeLine) (S : Addr) (hS : s.heap.get? S = some { cls := .type "list", data := .seq #[] })
    (hR : ∀ (s' : Shared) acc' c', (∀ b o, b ≠ S → s.heap.get? b = some o → s'.heap.get? b = some o) → s'.gens = s.gens → s'.drawn = s.drawn → s'.os = s.os → s'.heap.get? S = some { cls := .type "list", dict := none, data := .seq acc' c', slots := #[] } →
      ItemsOf (SignAt x) acc' x.cps.size → R (.ok (.ret .none)) s') :
    wpAny (model prog w) A.in1 (Builtin.«list.__init__» ⟨[.ref S, .str x t], []⟩)
      (fun fin s' => match fin with | .done f => R (.ok f) s' | .again c' => c'.quiet = true ∧ codeAny (model prog w) A c' R s') (fun e s' => R (.error e) s') s := by
  show wpAny _ _ (do let old ← Builtin.List.listItems (.ref S); Builtin.List.listUpdate (.ref S) (fun _ => #[]); letGo old.toList.reverse; Builtin.List.listExtendWith (.ref S) (.str x t) .none) _ _ s
  refine wpAny_bind ?_
  unfold Builtin.List.listItems
  refine wpAny_bind (wpAny_seqItems hS rfl (wpAny_pure ?_))
  show wpAny _ _ (updateSeq S (fun _ => #[]) >>= fun _ => letGo (#[] : Array Value).toList.reverse >>= fun _ => Builtin.List.listExtendWith (.ref S) (.str x t) .none) _ _ s
  refine wpAny_bind (wpAny_updateSeq hS rfl ?_)
  have hS2 := Heap.get?_update_self (Obj.mapSeq (fun _ => (#[] : Array Value))) hS rfl
  have oth : ∀ b o, b ≠ S → s.heap.get? b = some o → (s.heap.update S (Obj.mapSeq (fun _ => (#[] : Array Value)))).get? b = some o := fun b o hb e => (Heap.get?_update_other _ _ (Ne.symm hb)).trans e
  have hlt : S < s.heap.objs.size := Heap.lt_size hS
  have hsz : (s.heap.update S (Obj.mapSeq (fun _ => (#[] : Array Value)))).objs.size = s.heap.objs.size := by first | exact Heap.size_update .. | simp
  refine wpAny_bind (wpAny_letGo ?_)
  unfold Builtin.List.listExtendWith
  refine wpAny_bind (wpAny_typeOf (T := "str") (v := .str x t) rfl ?_)
  have h1 : Builtin.List.listSameRef (.ref S) (.str x t) = false := rfl
  have h2 : (Value.type "str" == Value.type "list") = false := by decide
  have h3 : (Value.type "str" == Value.type "tuple") = false := by decide
  simp only [h1, h2, h3, Bool.or_false, Bool.false_eq_true, if_false]
  refine wpAny_bind (wpAny_pyIter_str fun o St W hst => ?_)
  refine wpAny_bind (wpAny_holding ?_)
  unfold Builtin.List.listLengthHint
  refine wpAny_bind (wpAny_specialOf (T := "str") (v := .str x t) rfl F.str_len ?_)
  wp_delta
  refine wpAny_bind (wpAny_isInstance (T := "str") (v := .str x t) (b := true) rfl (by rw [isSubtype_type]; kernel_rfl) ?_)
  show wpAny _ A.in1 (typeOf (Value.str x t) >>= _) _ _ _
  refine wpAny_bind (wpAny_typeOf (T := "str") (v := .str x t) rfl ?_)
  refine wpAny_pure ?_
  rw [if_neg (by decide)]
  generalize hH : s.heap.update S (Obj.mapSeq (fun _ => (#[] : Array Value))) = H at W hst hS2 oth hsz ⊢
  have hSf : S ∉ [H.objs.size] := fun hm => by
    have e := List.mem_singleton.mp hm
    rw [hsz] at e
    exact absurd hlt (by rw [e]; exact Nat.lt_irrefl _)
  have hS3 : (H.push o).get? S = _ := Heap.get?_push_of_some _ hS2
  refine wpAny_pure ⟨plainId_quiet F.plain_extend_loop _, codeAny_extend_loopS (W A.in1 hh).toS hn _ hSf _ x.cps.size 0 _ _ _ rfl (Nat.zero_le _) hst hS3 (ItemsOf.nil _) fun s' acc' c' hm hS' hacc => ?_⟩
  refine hR s' acc' c' (fun b ob hb e => hm.heap b ob (fun hmem => ?_) (Heap.get?_push_of_some _ (oth b ob hb e))) hm.gens hm.drawn hm.os hS' hacc
  rcases List.mem_cons.mp hmem with z | z
  · exact hb z
  · have e2 := List.mem_singleton.mp z
    rw [hsz] at e2
    exact absurd (Heap.lt_size e) (by rw [e2]; exact Nat.lt_irrefl _)
theorem list_str {Q : Value → Shared → Prop} (hh : A.handled = none) (x : Str) (t : Tok) (hn : x.cps.size ≤ sizeLine)
    (hQ : ∀ (s' : Shared) acc' c', (∀ b o, s.heap.get? b = some o → s'.heap.get? b = some o) → s'.gens = s.gens → s'.drawn = s.drawn → s'.os = s.os → s'.heap.get? s.heap.objs.size = some { cls := .type "list", dict := none, data := .seq acc' c', slots := #[] } →
      ItemsOf (SignAt x) acc' x.cps.size → Q (.ref s.heap.objs.size) s') : wpAny (model prog w) A (call (.type "list") [.str x t]) Q E s := by
  refine callType_codes (Q₁ := fun obj s₁ => obj = .ref s.heap.objs.size ∧ s₁ = { s with heap := s.heap.push { cls := .type "list", data := .seq #[] } }) F.called_list (F.typeCall_list_1 _) F.entry_list_init (code_list_new _ ⟨rfl, rfl⟩) fun obj s1 h1 => ?_
  obtain ⟨rfl, rfl⟩ := h1
  have hS : (s.heap.push { cls := .type "list", data := .seq #[] }).get? s.heap.objs.size = some { cls := .type "list", data := .seq #[] } := Heap.get?_push_size _ rfl
  refine ⟨⟨_, hS, rfl⟩, F.args_list_init_2 _ _, list_str_init (A := A.in1) hh x t hn _ hS fun s' acc' c' hk hg hd ho hS' hacc => ?_⟩
  exact ⟨rfl, hQ s' acc' c' (fun b o e => hk b o (Nat.ne_of_lt (Heap.lt_size e)) (Heap.get?_push_of_some _ e)) hg hd ho hS' hacc⟩
end
def signsV (z : Str) : List V := z.cps.toList.map fun c => V.str ⟨#[c]⟩
theorem vals_of_get : ∀ (xs : List V) (us : List Value), xs.length = us.length → (∀ (i : Nat) (x : V) (u : Value), xs[i]? = some x → us[i]? = some u → RelV x u) → Vals xs us
  | [], [], _, _ => .nil
  | [], _ :: _, e, _ => by cases e
  | _ :: _, [], e, _ => by cases e
  | x :: xs, u :: us, e, h => .cons (h 0 x u rfl rfl) (vals_of_get xs us (Nat.succ.inj e) fun i y v h1 h2 => h (i + 1) y v h1 h2)
theorem signs_vals {x : Str} {acc : Array Value} (h : ItemsOf (SignAt x) acc x.cps.size) : Vals (signsV x) acc.toList := by
  refine vals_of_get _ _ (by unfold signsV; rw [List.length_map, Array.length_toList, Array.length_toList, h.1]) fun i y v h1 h2 => ?_
  rw [Array.getElem?_toList] at h2
  obtain ⟨c, u, hc, rfl⟩ := h.2 i v h2
  unfold signsV at h1
  rw [List.getElem?_map, Array.getElem?_toList, hc] at h1
  cases h1
  exact ⟨u, rfl⟩
theorem call_list_str {X : Cx} (hc : X.calm = true) : CallR X (.type "list") (fun xs H Q => ∃ z, xs = [.str z] ∧ z.length ≤ 1000 ∧ ∀ l, H l = none → Q (.ref l) (upd H l (.lst (signsV z)))) := by
  intro pins s σ H xs us Q I r h
  obtain ⟨z, rfl, hz, q⟩ := h
  obtain ⟨u, rfl, t, rfl⟩ := vals1 r
  have hn : z.cps.size ≤ sizeLine := Nat.le_of_lt (small1000 hz)
  refine list_str (I.ok.hd hc) z t hn fun s' acc' c' hk hg hd ho hS' hacc => ?_
  obtain ⟨hp, g, d, tk, os⟩ := s'
  obtain rfl : g = s.gens := hg
  obtain rfl : d = s.drawn := hd
  obtain rfl : os = s.os := ho
  refine ⟨.ref s.heap.objs.size, _, I.laid (t' := tk) hk (Nat.le_refl _) (show ObjOk X.prog X.w _ hp _ (.lst (signsV z)) from ⟨?_, acc'.toList, c', signs_vals hacc, hS'⟩), rfl, q _ (I.hok.fresh (Nat.le_refl _))⟩
  unfold signsV
  rw [List.length_map, Array.length_toList]
  exact hn
/-! ### a slice of a list or a tuple -/
def rSlA2 (K : PySem.W.Frag) : V → Option Int → Option Int → Hp → VK → Prop := fun x lo hi H Q => ∃ a xs, x = .ref a ∧ SqA K H a xs ∧ ∀ (r : Addr) (H' : Hp), Same H H' → SqA K H' r (cutV xs lo hi) → Q (.ref r) H'
theorem sl_A {X : Cx} : SlR X (rSlA2 X.K) := fun pins s σ H x v vl vu lo hi sl Q I rx e1 e2 e3 h => by
  obtain ⟨a, xs, rfl, ha, q⟩ := h
  rcases ha with ha | ha
  · exact sl_list pins s σ H (.ref a) v vl vu lo hi sl Q I rx e1 e2 e3 ⟨a, xs, rfl, ha, fun p np => q p _ (same_newH np) (.inl (SqL.of upd_same))⟩
  · refine sl_tupA pins s σ H (.ref a) v vl vu lo hi sl Q I rx e1 e2 e3 ⟨a, xs, rfl, ha, fun e => ?_, fun _ p np => q p _ (same_newH np) (.inr (SqT.of upd_same))⟩
    exact q a H (Same.refl H) (.inr (by rw [cut_whole e]; exact ha))
def SqB (K : PySem.W.Frag) (H : Hp) (a : Addr) (xs : List V) : Prop := SqL K H a xs ∨ H a = some (.tup xs)
theorem SqB.seqA {K : PySem.W.Frag} {H : Hp} {a : Addr} {xs : List V} (h : SqB K H a xs) : SqA K H a xs := h.elim .inl fun h => .inr (SqT.of h)
theorem SqB.same {K : PySem.W.Frag} {a : Addr} {H H1 : Hp} {xs : List V} (h : SqB K H a xs) (x : Same H H1) : SqB K H1 a xs := h.elim (fun h => .inl (x.seq h)) fun h => .inr (x _ _ h)
def spFirstBadA (K : PySem.W.Frag) : Sp := fun vs H Q _ => ∃ (a : Addr) (xs : List V), vs = [.ref a] ∧ SqB K H a xs ∧ xs.length ≤ 1000 ∧ (∀ x ∈ xs, Ent H x) ∧ ∀ H', Same H H' → Q (dueV xs) H'
def spTableA (K : PySem.W.Frag) (C : Addr) : Sp := fun vs H Q _ => ∃ (p a dx : Addr) (xs : List V), vs = [.ref p, .ref a] ∧ H p = some (.ins C dx []) ∧ SqB K H a xs ∧ xs.length ≤ 1000 ∧ (∀ x ∈ xs, Ent H x) ∧ dueV xs = .non ∧
  ∀ H', But p H H' → TabAt H' C p xs → Q .non H'
end Own

namespace Own
open PySem PySem.Spec PyProof.Rows L2
/-! ### len, repr, ==, != of an own class, by name -/
/-- what of a class no def of it says: no __ne__ of its own, and so on -/
structure NeAt (K : PySem.W.Frag) (C : Addr) : Prop where
  cl : Cls K C
  ha : PySem.W.findIn K (.ref C) "__class__" = some (some (.builtin "object.__class__"))
  hn : PySem.W.specialIn K (.builtin "object.__class__") "__get__" = some (some (.builtin "getset_descriptor.__get__"))
  htk : PySem.W.takesIn K (.builtin "object.__class__") = some true
  hm : PySem.W.mroIn K C (.type "object") = some true
  ne : PySem.W.findIn K (.ref C) "__ne__" = some (some (.builtin "object.__ne__"))
  kL : PySem.W.kitOne K (.type "list") (.ref C) = some false
  kT : PySem.W.kitOne K (.type "tuple") (.ref C) = some false
  kS : PySem.W.kitOne K (.type "str") (.ref C) = some false
  fL : PySem.W.notFirst K C (.type "list") = true
  fT : PySem.W.notFirst K C (.type "tuple") = true
  fS : PySem.W.notFirst K C (.type "str") = true
section
variable {X : Cx} {k : Nat} {C f : Addr} {fd : FuncData} {ps : List Str} {sp : Sp}
theorem call_len_cal (c : CalM X.prog X.w X.K X.mg X.base CX0 k C "__len__" f fd ps sp) (hr : Room (k + 1) X.A) : CallR X (.builtin "len") (rLenOwn C sp E0) := call_len_own c.ok c.mt c.b pass0 hr
theorem call_repr_cal (c : CalM X.prog X.w X.K X.mg X.base CX0 k C "__repr__" f fd ps sp) (hr : Room (k + 1) X.A) : CallR X (.builtin "repr") (rReprOwn C sp E0) := call_repr_own c.ok c.mt c.b pass0 hr
theorem op_eq_cal (c : CalM X.prog X.w X.K X.mg X.base CX0 k C "__eq__" f fd ps sp) (hr : Room k X.A) : OpR X (compareOp .Eq) (rEqOwn X.K C false sp E0) := op_eq_own c.ok c.mt c.b pass0 hr
theorem op_ne_cal (n : NeAt X.K C) (c : CalM X.prog X.w X.K X.mg X.base CX0 k C "__eq__" f fd ps sp) (hr : Room (k + 1) X.A) : OpR X (compareOp .NotEq) (rEqOwn X.K C true sp E0) := op_ne_own c.ok c.mt n.ne n.hm c.b pass0 hr
end
theorem NeAt.self {K : PySem.W.Frag} {C : Addr} (n : NeAt K C) : PySem.W.notFirst K C (.ref C) = true := by
  unfold PySem.W.notFirst
  rw [beq_self_eq_true, Bool.true_or]
theorem NeAt.ty {K : PySem.W.Frag} {C : Addr} (n : NeAt K C) {H : Hp} {a dx : Addr} {fs : List (Str × V)} (h : H a = some (.ins C dx fs)) : TyX K H (.ref a) (.ref C) :=
  .base (.ins h n.cl n.ha n.hn n.htk n.hm)
/-! ### texts as data -/
theorem dp_strs {K : PySem.W.Frag} {H : Hp} : ∀ (ys : List Str), DpAll K H (ys.map V.str) (ys.map PyData.str)
  | [] => .nil
  | n :: r => .cons (.str n) (dp_strs r)
theorem eqvAll_strs : ∀ (ys zs : List Str), PyData.eqvAll (ys.map PyData.str) (zs.map PyData.str) = decide (ys = zs)
  | [], [] => by simp [PyData.eqvAll]
  | [], _ :: _ => by simp [PyData.eqvAll]
  | _ :: _, [] => by simp [PyData.eqvAll]
  | y :: ys, z :: zs => by
    have ih := eqvAll_strs ys zs
    simp only [List.map_cons, PyData.eqvAll, PyData.eqv, ih]
    rw [Bool.eq_iff_iff]
    simp
theorem eqv_tups (ys zs : List Str) : PyData.eqv (.tuple (ys.map PyData.str)) (.tuple (zs.map PyData.str)) = decide (ys = zs) := by
  rw [← eqvAll_strs]
  simp only [PyData.eqv]
theorem eqv_lsts (ys zs : List Str) : PyData.eqv (.list (ys.map PyData.str)) (.list (zs.map PyData.str)) = decide (ys = zs) := by
  rw [← eqvAll_strs]
  simp only [PyData.eqv]
/-! ### words -/
/-- a text of one to eight small letters -/
def lowS (z : Str) : Prop := 1 ≤ z.length ∧ z.length ≤ 8 ∧ ∀ c ∈ z.cps.toList, lowB c = true
theorem low_of {z : Str} (h : wordB z = true) : lowS z := by
  unfold wordB at h
  simp only [Bool.and_eq_true, decide_eq_true_eq] at h
  obtain ⟨_, ⟨h1, h2⟩, h3⟩ := h
  exact ⟨by omega, by omega, fun c hc => List.all_eq_true.mp h3 c hc⟩
theorem strOk_low {z : Str} (h : ∀ c ∈ z.cps.toList, lowB c = true) : PyData.canLay0 (.str z) = true := by
  unfold PyData.canLay0 PyData.strOk
  rw [← Array.all_toList, List.all_eq_true]
  intro c hc
  have q := h c hc
  unfold lowB at q
  simp only [Bool.and_eq_true, decide_eq_true_eq] at q
  exact decide_eq_true (by omega)
def Words (ws : List Str) : Prop := ∀ z ∈ ws, wordB z = true
theorem flat_word {z : Str} (h : wordB z = true) : (PyData.str z).canLay0 = true ∧ (PyData.str z).depth = 0 := ⟨strOk_low (low_of h).2.2, by simp only [PyData.depth]⟩
theorem shaped_tupW {ws : List Str} (h : Words ws) : SeqAt.shaped (.tuple (ws.map PyData.str)) = true := shaped_tup fun d hd => by
  obtain ⟨z, hz, rfl⟩ := List.mem_map.mp hd
  exact flat_word (h z hz)
theorem shaped_lstW {ws : List Str} (h : Words ws) : SeqAt.shaped (.list (ws.map PyData.str)) = true := shaped_lst fun d hd => by
  obtain ⟨z, hz, rfl⟩ := List.mem_map.mp hd
  exact flat_word (h z hz)
theorem inV_str (z : Str) : ∀ (l : List Str), inV (.str z) (l.map V.str) = decide (z ∈ l)
  | [] => by rfl
  | y :: l => by
    have ih := inV_str z l
    unfold inV at ih ⊢
    rw [List.map_cons, List.any_cons, ih]
    show ((y == z) || decide (z ∈ l)) = decide (z ∈ y :: l)
    rw [Bool.eq_iff_iff]
    simp only [Bool.or_eq_true, beq_iff_eq, decide_eq_true_eq, List.mem_cons]
    constructor
    · rintro (e | e)
      · exact .inl e.symm
      · exact .inr e
    · rintro (e | e)
      · exact .inl e.symm
      · exact .inr e
theorem inV_mem {x : V} {xs ys : List V} (h : ∀ y, y ∈ xs ↔ y ∈ ys) : inV x xs = inV x ys := by
  unfold inV
  rw [Bool.eq_iff_iff, List.any_eq_true, List.any_eq_true]
  constructor
  · rintro ⟨y, hy, e⟩
    exact ⟨y, (h y).mp hy, e⟩
  · rintro ⟨y, hy, e⟩
    exact ⟨y, (h y).mpr hy, e⟩
theorem badFrom_words : ∀ (ws pre : List Str), Words ws → (∀ z ∈ ws, z ∉ pre) → ws.Nodup → badFrom (pre.map V.str) (ws.map V.str) = none
  | [], _, _, _, _ => rfl
  | z :: ws, pre, hw, hp, hn => by
    obtain ⟨n1, n2⟩ := List.nodup_cons.mp hn
    have h1 : wordV (.str z) = true := hw z (List.mem_cons_self ..)
    have h2 : inV (.str z) (pre.map V.str) = false := by
      rw [inV_str]
      exact decide_eq_false (hp z (List.mem_cons_self ..))
    have ih := badFrom_words ws (pre ++ [z]) (fun y hy => hw y (List.mem_cons_of_mem _ hy)) (fun y hy hm => by
      rcases List.mem_append.mp hm with hm | hm
      · exact hp y (List.mem_cons_of_mem _ hy) hm
      · rw [List.mem_singleton.mp hm] at hy
        exact n1 hy) n2
    show (if (!(wordV (.str z)) || inV (.str z) (pre.map V.str)) = true then some _ else badFrom (pre.map V.str ++ [.str z]) (ws.map V.str)) = none
    rw [h1, h2, if_neg (by decide)]
    rw [List.map_append] at ih
    exact ih
/-- one to three different words -/
structure Cols (ws : List Str) : Prop where
  w : Words ws
  nd : ws.Nodup
  l1 : 1 ≤ ws.length
  l3 : ws.length ≤ 3
theorem due_cols {ws : List Str} (c : Cols ws) : dueV (ws.map V.str) = .non := by
  have q := badFrom_words ws [] c.w (fun _ _ h => by cases h) c.nd
  unfold dueV
  have h1 := c.l1
  have h3 := c.l3
  rw [List.length_map, decide_eq_true (by omega : (1 : Int) ≤ (ws.length : Nat)), decide_eq_true (by omega : ((ws.length : Nat) : Int) ≤ 3), if_pos (by rfl)]
  rw [show badFrom [] (ws.map V.str) = none from q]
theorem ent_word {H : Hp} {ws : List Str} (h : Words ws) : ∀ x ∈ ws.map V.str, Ent H x := fun x hx => by
  obtain ⟨z, hz, rfl⟩ := List.mem_map.mp hx
  refine ⟨_, rfl, fun y e => ?_⟩
  cases e
  have := (low_of (h z hz)).2.1
  omega
/-! ### len, repr and == of a table -/
def spLenT (C : Addr) : Sp := fun vs H Q _ => ∃ (p : Addr) (xs : List V), vs = [.ref p] ∧ TabAt H C p xs ∧ Q (.int (xs.length : Nat)) H
def reprT (ys : List Str) : Str := ((Str.empty ++ "Table(") ++ Txt.join ", " ys) ++ ")"
def spReprT (C : Addr) : Sp := fun vs H Q _ => ∃ (p : Addr) (ys : List Str), vs = [.ref p] ∧ TabAt H C p (ys.map V.str) ∧ Cols ys ∧ Q (.str (reprT ys)) H
def spEqT (C : Addr) : Sp := fun vs H Q _ => ∃ (p : Addr) (y : V) (ys : List Str), vs = [.ref p, y] ∧ TabAt H C p (ys.map V.str) ∧ Words ys ∧
  ((∃ q zs, y = .ref q ∧ TabAt H C q (zs.map V.str) ∧ Words zs ∧ Q (.bl (decide (ys = zs))) H) ∨ (∃ t, kd H y = some t ∧ (t = .lst ∨ t = .tup ∨ t = .str) ∧ Q (.bl false) H))
theorem join_len (S : Str) (ys : List Str) : (Txt.join S ys).length ≤ (ys.map (·.length)).sum + ys.length * S.length := by
  show (Builtin.Str.glued S ys).length ≤ _
  rw [StrLaws.glued_eq_join]
  exact StrLaws.join_length_le S ys
theorem sum_words : ∀ {ws : List Str}, Words ws → (ws.map (·.length)).sum ≤ ws.length * 8
  | [], _ => Nat.zero_le _
  | z :: r, h => by
    have ih := sum_words (ws := r) fun y hy => h y (List.mem_cons_of_mem _ hy)
    have := (low_of (h z (List.mem_cons_self ..))).2.1
    simp only [List.map_cons, List.sum_cons, List.length_cons]
    omega
end Own

namespace Own
open PySem PySem.Spec PyProof.Rows L2
def abcL : List Str := ["a", "b", "c", "d", "e", "f", "g", "h", "i", "j", "k", "l", "m", "n", "o", "p", "q", "r", "s", "t", "u", "v", "w", "x", "y", "z"]
theorem abc_signs : signsV "abcdefghijklmnopqrstuvwxyz" = abcL.map V.str := by decide +kernel
theorem abc_low : ∀ z ∈ abcL, z.length = 1 ∧ ∀ c ∈ z.cps.toList, lowB c = true := by decide +kernel
theorem abc_nd : abcL.Nodup := by decide +kernel
theorem abc_kept : ∀ z ∈ abcL, z ∉ keptL := by decide +kernel
theorem cps_app (a b : Str) : (a ++ b).cps.toList = a.cps.toList ++ b.cps.toList := by
  show (a.cps ++ b.cps).toList = _
  exact Array.toList_append
theorem len_cps (a : Str) : a.cps.toList.length = a.length := Array.length_toList
theorem low_app {a b : Str} (ha : ∀ c ∈ a.cps.toList, lowB c = true) (hb : ∀ c ∈ b.cps.toList, lowB c = true) : ∀ c ∈ (a ++ b).cps.toList, lowB c = true := fun c hc => by
  rw [cps_app] at hc
  rcases List.mem_append.mp hc with hc | hc
  · exact ha c hc
  · exact hb c hc
theorem low_cut {z : Str} {lo hi : Option Int} (h : ∀ c ∈ z.cps.toList, lowB c = true) : ∀ c ∈ (cutS z lo hi).cps.toList, lowB c = true := fun c hc => by
  unfold cutS at hc
  exact h c (List.mem_of_mem_drop (List.mem_of_mem_take hc))
theorem len_cutS (z : Str) (lo hi : Option Int) : (cutS z lo hi).length = min (HT.sIx z.length z.length hi - HT.sIx z.length 0 lo) (z.length - HT.sIx z.length 0 lo) := by
  show (((z.cps.toList.drop (HT.sIx z.length 0 lo)).take (HT.sIx z.length z.length hi - HT.sIx z.length 0 lo)).toArray).size = _
  rw [List.size_toArray, List.length_take, List.length_drop, Array.length_toList] <;> rfl
theorem len_takeS {z : Str} {i : Nat} (h : i ≤ z.length) : (cutS z none (some (i : Int))).length = i := by
  rw [len_cutS, HT.sIx_none, HT.sIx_nat]
  omega
theorem len_dropS {z : Str} {i : Nat} (h : i ≤ z.length) : (cutS z (some (i : Int)) none).length = z.length - i := by
  rw [len_cutS, HT.sIx_none, HT.sIx_nat]
  omega
theorem low_swap {z x : Str} {d : Int} (hz : lowS z) (hx : x.length = 1) (hl : ∀ c ∈ x.cps.toList, lowB c = true) (d0 : 0 ≤ d) (d1 : d < z.length) : lowS (cutS z none (some d) ++ x ++ cutS z (some (d + 1)) none) := by
  obtain ⟨j, rfl⟩ : ∃ j : Nat, d = j := ⟨d.toNat, by omega⟩
  have e1 : (cutS z none (some (j : Int))).length = j := len_takeS (by omega)
  have e2 : (cutS z (some ((j : Int) + 1)) none).length = z.length - (j + 1) := by
    have q := len_dropS (z := z) (i := j + 1) (by omega)
    exact q
  obtain ⟨h1, h2, h3⟩ := hz
  refine ⟨?_, ?_, low_app (low_app (low_cut h3) hl) (low_cut h3)⟩
  · rw [Str.length_append, Str.length_append]
    omega
  · rw [Str.length_append, Str.length_append]
    omega
theorem word_of {z : Str} (h : lowS z) (hk : z ∉ keptL) : wordB z = true := by
  obtain ⟨h1, h2, h3⟩ := h
  unfold wordB
  rw [inV_str, decide_eq_false hk]
  simp only [Bool.not_false, Bool.true_and, Bool.and_eq_true, decide_eq_true_eq]
  exact ⟨⟨by omega, by omega⟩, List.all_eq_true.mpr h3⟩
theorem not_kept {z : Str} (h : wordB z = true) : z ∉ keptL := fun hm => by
  unfold wordB at h
  rw [inV_str, decide_eq_true hm] at h
  simp at h
theorem nodup_sub : ∀ (l m : List Str), l.Nodup → (∀ x ∈ l, x ∈ m) → l.length ≤ m.length
  | [], _, _, _ => Nat.zero_le _
  | x :: l, m, hn, h => by
    obtain ⟨n1, n2⟩ := List.nodup_cons.mp hn
    have hx := h x (List.mem_cons_self ..)
    have ih := nodup_sub l (m.erase x) n2 fun y hy => (List.mem_erase_of_ne (fun e : y = x => n1 (by rw [← e]; exact hy))).mpr (h y (List.mem_cons_of_mem _ hy))
    rw [List.length_erase_of_mem hx] at ih
    have := List.length_pos_of_mem hx
    rw [List.length_cons]
    omega
/-- a letter that is not among three -/
theorem abc_free {us : List Str} (h : us.length ≤ 3) : ∃ z ∈ abcL, z ∉ us := by
  by_cases q : ∃ z ∈ abcL, z ∉ us
  · exact q
  · have q2 : ∀ x ∈ abcL, x ∈ us := fun x hx => Classical.byContradiction fun n => q ⟨x, hx, n⟩
    have := nodup_sub abcL us abc_nd q2
    have e : abcL.length = 26 := rfl
    omega
theorem filter_snoc {α : Type} {xs : List α} {i : Nat} {x : α} (p : α → Bool) (h : xs[i]? = some x) : (xs.take (i + 1)).filter p = (xs.take i).filter p ++ if p x = true then [x] else [] := by
  rw [take_snoc h, List.filter_append, List.filter_cons, List.filter_nil]
theorem atI_last {α : Type} {xs : List α} {v : α} (h : xs[xs.length - 1]? = some v) : atI xs (-1) = some v := by
  have hj : xs.length - 1 < xs.length := (List.getElem?_eq_some_iff.mp h).1
  have e : ixN xs.length (-1) = some (xs.length - 1) := by
    unfold ixN
    rw [if_neg (by omega), if_pos (by omega)]
    congr 1
    omega
  unfold atI
  rw [e]
  exact h
/-- a new word -/
def spWord (K : PySem.W.Frag) : Sp := fun vs H Q _ => ∃ (b u : Addr) (us : List Str), vs = [.ref b, .ref u] ∧ Bag H b ∧ u ≠ b ∧ SqL K H u (us.map V.str) ∧ Words us ∧ us.length ≤ 3 ∧
  ∀ (z : Str) (H' : Hp), wordB z = true → z ∉ us → But b H H' → Bag H' b → Q (.str z) H'
end Own

namespace Own
open PySem PySem.Spec PyProof.Rows L2
section
variable {X : Cx} {x : Str} {B : Addr} {e : Expr} {es : List Expr} {ta : TA} {p1 p2 pos : Pos} {pl : Sem Bool}
/-- the base class at B says no __init__ of its own: the built-in's is found -/
structure BaseI (K : PySem.W.Frag) (B : Addr) : Prop where
  rd : ClX.CRead K B (.type "type")
  ini : PySem.W.findCls K (.ref B) (.type "type") "__init__" = some (.val (.builtin "ValueError.__init__"))
/-- B.__init__(self, ..) -/
theorem pe_binit (b : BaseI X.K B) (hg : Gl X x) (hm : X.mg x = some (.ref B)) (ha : PA X (e :: es) ta)
    (hc : eval (.Call (.Attribute (.Name x p1) "__init__" p2) (e :: es) [] pos) X.env = (do
      let ov ← eval (.Name x p1) X.env
      standAt p2.atName
      let (f, first) ← holding [ov] (getMethod ov "__init__" pl)
      callWith pos f first (backTo pos (starEach (e :: es) X.env)) (backToKw pos (keywordEach [] X.env))) := by rfl)
    (hdb : (x == ("__debug__" : Str)) = false := by decide)
    (he : starEach (e :: es) X.env = (false, eval e X.env) :: starEach es X.env := by rfl) (hpl : (backTo pos (starEach es X.env)).any (·.1) = false := by rfl) :
    PE X (.Call (.Attribute (.Name x p1) "__init__" p2) (e :: es) [] pos) (tVeI X.K ta) := by
  refine ⟨fun pins s σ H Q I h => ?_⟩
  refine PySem.W.methodCall_KW (ld_glob I hg hm ?_ hdb) hc
  refine PySem.W.method_cls I.kIn b.rd.ga (PySem.W.cls_value I.kIn b.rd.rd b.ini (by decide +kernel) ?_)
  show wpAny _ _ (callWith pos (Value.builtin "ValueError.__init__") [] (backTo pos (starEach (e :: es) X.env)) []) _ _ _
  refine PyProof.Rows.callWith_method1 (thn (ha.run pos pins _ σ H _ (I.tok _) h) fun us s1 ⟨vs, H1, I1, r1, a, C, ws, ev, hl, T, ea, q⟩ => ?_) he hpl
  subst ev
  cases r1 with
  | @cons _ u0 _ ur ra rw' =>
    obtain rfl : u0 = Value.ref a := ra
    have hlen : ur.length ≤ sizeLine := by
      rw [← Paired.length rw', sizeLine_eq]
      omega
    exact oinit_ok T I1 ea hlen fun s' J => ⟨.non, H1, J, rfl, q⟩
end
/-! ### isinstance of the exception that the suite holds -/
def rIsX (K : PySem.W.Frag) (a : Addr) (cls : Value) (d : Option Addr) : List V → Hp → VK → Prop := fun xs H Q => ∃ (D dd : Addr) (fs : List (Str × V)) (c : V) (u : Value) (b : Bool), cls = .ref D ∧ d = some dd ∧ H dd = some (.xd fs) ∧ ExcC K D ∧ xs = [.ref a, c] ∧ ClsV c u ∧ PySem.W.kitOne K (.ref D) u = some b ∧ Q (.bl b) H
def rIsXT (K : PySem.W.Frag) (a : Addr) (cls : Value) (d : Option Addr) : List V → Hp → VK → Prop := fun xs H Q => ∃ (D dd : Addr) (fs : List (Str × V)) (tp : Addr) (cs : List V) (us : List Value) (b : Bool), cls = .ref D ∧ d = some dd ∧ H dd = some (.xd fs) ∧ ExcC K D ∧ xs = [.ref a, .ref tp] ∧ H tp = some (.tup cs) ∧ Paired ClsV cs us ∧ PySem.W.kitAny K (.ref D) us = some b ∧ Q (.bl b) H
section
variable {X : Cx} {a : Addr} {oe : Obj} {cls : Value} {d : Option Addr} {pn : List (Addr × Obj)}
theorem held_at {pins : List (Addr × Obj)} {σ : L2.St} {H : Hp} {s : Shared} {D dd : Addr} {fs : List (Str × V)} (I : Inv (X.suite a ((a, oe) :: pn)) pins σ H s) (hz : Zc (.ref D) (some dd) oe) (hf : ∃ vs, oe.data = .fields vs) (ea : H dd = some (.xd fs)) :
    ∃ od, PySem.W.InstAt s.heap a oe D (some od) := by
  obtain ⟨ha, _⟩ := I.pin (a, oe) (List.mem_append_left _ List.mem_cons_self)
  obtain ⟨vs, hd⟩ := hf
  have hx : ObjOk X.prog X.w H s.heap dd (.xd fs) := I.hok dd _ ea
  obtain ⟨mA, hns, hr⟩ := hx
  obtain ⟨od, ho, hl⟩ := lookIn_ns hns
  exact ⟨od, ha, hz.1, by unfold PySem.W.notCls; rw [hd] <;> rfl, by rw [hz.2]; exact ho⟩
theorem kit_held {K : PySem.W.Frag} {D x : Addr} {ox : Obj} {od : Option Obj} (c : ExcC K D) : PySem.W.KitX K (.ref x) (.ref D) (fun h => PySem.W.InstAt h x ox D od) :=
  PySem.W.kitx_exc (by obtain ⟨cd, hc, _⟩ := PySem.W.any_some c.hd; rw [hc]; rfl) c.hg c.hk c.hs c.ha c.hn c.ht c.hm
theorem call_isX (hz : Zc cls d oe) (hf : ∃ vs, oe.data = .fields vs) : CallR (X.suite a ((a, oe) :: pn)) (.builtin "isinstance") (rIsX X.K a cls d) := by
  intro pins s σ H xs us Q I r h
  obtain ⟨D, dd, fs, c, u, b, rfl, rfl, ea, E, rfl, k, e, q⟩ := h
  obtain ⟨od, J⟩ := held_at I hz hf ea
  obtain ⟨u1, u2, rfl, r1, r2⟩ := vals2 r
  cases r1
  have e2 := k.eq r2
  subst e2
  exact PySem.W.kia_one (kit_held E) I.kIn J e (fun z => nomatch z) fun tk => ⟨.bl b, H, I.tok tk, rfl, q⟩
theorem call_isXT (hz : Zc cls d oe) (hf : ∃ vs, oe.data = .fields vs) : CallR (X.suite a ((a, oe) :: pn)) (.builtin "isinstance") (rIsXT X.K a cls d) := by
  intro pins s σ H xs us Q I r h
  obtain ⟨D, dd, fs, tp, cs, ws, b, rfl, rfl, ea, E, rfl, hT, k, e, q⟩ := h
  obtain ⟨od, J⟩ := held_at I hz hf ea
  obtain ⟨u1, u2, rfl, r1, r2⟩ := vals2 r
  cases r1
  cases (show u2 = Value.ref tp from r2)
  obtain ⟨_, its, rv, o, h1, h2, n, h3⟩ := (show ObjOk X.prog X.w H s.heap tp (.tup cs) from I.hok tp _ hT)
  have e3 := ClsV.all k rv
  subst e3
  obtain ⟨oc, oda, dt, sl⟩ := o
  simp only at h2 h3
  subst h2 h3
  exact PySem.W.kia_tup (kit_held E) I.kIn J h1 e (fun z => nomatch z) fun tk => ⟨.bl b, H, I.tok tk, rfl, q⟩
end
/-! ### own exception classes, by name -/
structure CalE (P : Program) (w : World) (K : PySem.W.Frag) (mg : Str → Option Value) (base : Heap) (CX : CXT) (k : Nat) (x : Str) (C f : Addr) (fd : FuncData) (ps : List Str) (sp : Sp) : Prop where
  ok : FnOk P w K mg base CX k f fd ps sp
  cls : OexC K C
  ini : PySem.W.findIn K (.ref C) "__init__" = some (some (.ref f))
  fn : PySem.W.typeIn K (.ref f) = some (.type "function")
  at_ : mg x = some (.ref C)
  b : Binds K fd ps []
section
variable {X : Cx} {k : Nat} {x : Str} {C f : Addr} {fd : FuncData} {ps : List Str} {sp : Sp} {e : Expr} {es : List Expr} {t : TA} {p pos pos2 : Pos} {W : WX}
theorem ps_raiseE (c : CalE X.prog X.w X.K X.mg X.base CX0 k x C f fd ps sp) (hr : Room (k + 1) X.A) (hc : X.calm = true) (tk : Takes X W) (ha : PA X (e :: es) t)
    (hg : Gl X x := by rfl) (hdb : (x == ("__debug__" : Str)) = false := by decide) (he : starEach (e :: es) X.env = (false, eval e X.env) :: starEach es X.env := by rfl) (hpl : (backTo pos (starEach es X.env)).any (·.1) = false := by rfl) :
    PS X (.Raise (some (.Call (.Name x p) (e :: es) [] pos)) none pos2) (fun _ σ H => tMkO C sp [] t σ H fun cls d H' => W cls d σ H') :=
  ps_raise hc tk (pmk_oex c.cls c.ini c.fn c.ok hr c.b .nil pass0 hg c.at_ ha hdb he hpl)
/-- C(..), C's __init__ may raise; the wish of it at these locals -/
def tMakeS (C : Addr) (sp : Sp) (E : L2.St → XK) (t : TA) : TE := fun σ H Q => t σ H fun vs H1 => ∀ x dx, H1 x = none → H1 dx = none → dx ≠ x → sp (.ref x :: vs) (upd (upd H1 dx (.own x)) x (.ins C dx [])) (fun v H2 => v = .non ∧ Q (.ref x) H2) (E σ)
theorem pe_mkrX (c : CalI X.prog X.w X.K X.mg X.base (L2.CX X.prog X.w) k x C f fd ps sp) (hr : Room (k + 1) X.A) (tk : Takes X W) (ha : PA X (e :: es) t)
    (hg : Gl X x := by rfl) (hdb : (x == ("__debug__" : Str)) = false := by decide) (he : starEach (e :: es) X.env = (false, eval e X.env) :: starEach es X.env := by rfl) (hpl : (backTo pos (starEach es X.env)).any (·.1) = false := by rfl) :
    PE X (.Call (.Name x p) (e :: es) [] pos) (tMakeS C sp (fun σ cls d H => W cls d σ H) t) := by
  refine ⟨fun pins s σ H Q I h => wpAny_Call_Name_kw (ld_glob I hg c.at_ ?_ hdb)⟩
  refine PySem.W.callWith_K (h₀ := X.base) I.ok.mod.kin c.mkr.kp (thn (ha.run pos pins s σ H _ I h) fun us s1 ⟨vs, H1, I1, r, q⟩ => ⟨I1.kIn, ?_⟩) he hpl
  have q1 := q (s1.heap.objs.size + 1) s1.heap.objs.size (I1.hok.fresh (Nat.le_succ _)) (I1.hok.fresh (Nat.le_refl _)) (Nat.ne_of_lt (Nat.lt_succ_self _))
  have I2 := Inv.made (C := C) I1
  have r2 : Vals (V.ref (s1.heap.objs.size + 1) :: vs) (Value.ref (s1.heap.objs.size + 1) :: us) := .cons rfl r
  have hl : (Value.ref (s1.heap.objs.size + 1) :: us ++ []).length = ps.length := by
    rw [List.append_nil, ← r2.length]
    exact c.ok.len _ _ _ _ q1
  have bt := c.b _ (Value.ref (s1.heap.objs.size + 1) :: us) I2.kIn hl
  rw [List.append_nil] at bt
  show wpAny _ _ (call (.ref C) us) _ _ _
  refine wpAny_call (make_map (f := f) I1.kIn c.mkr.makes c.mkr.init (beq_iff_eq.mp c.mkr.fn) (codeAny_mono (c.ok.run _ X.stack _ _ ⟨Value.ref (s1.heap.objs.size + 1) :: us, []⟩ _ _ _ _ (hr.make C us []) (I2.env0.make C us []) bt r2 q1) fun z s' hz => ?_))
  match z, hz with
  | .error er, hz => exact tk er s' (XE.of_call I2 (fun _ _ _ h => h) hz)
  | .ok (.ret u), hz =>
    obtain ⟨v, H', I3, rv, ev, q3⟩ := I2.after hz
    subst ev
    exact ⟨rv, V.ref (s1.heap.objs.size + 1), H', I3, rfl, q3⟩
end
end Own
namespace Own
open PySem PySem.Spec PyProof.Rows L2
theorem pe_cal0 {X : Cx} {k : Nat} {x : Str} {f : Addr} {fd : FuncData} {ps : List Str} {sp : Sp} {p pos : Pos} (c : Cal X.prog X.w X.K X.mg X.base CX0 k x f fd ps sp) (hr : Room k X.A) (hg : Gl X x := by rfl) (hdb : (x == ("__debug__" : Str)) = false := by decide) :
    PE X (.Call (.Name x p) [] [] pos) (tCall sp [] E0 tNil) := pe_call0 c.ok hr hg c.at_ c.kp c.b .nil pass0 hdb
/-! ### the errors' own promises -/
/-- copied(v), v no list, no tuple -/
def spCopied : Sp := fun vs H Q _ => ∃ (v : V) (t : Kd), vs = [v] ∧ kd H v = some t ∧ t ≠ .lst ∧ t ≠ .tup ∧ Q v H
/-- self.at = a small number -/
def spErrAt (C : Addr) : Sp := fun vs H Q _ => ∃ (a : Addr) (i : Int), vs = [.ref a, .int i] ∧ H a = some (exo a C none) ∧ -1 ≤ i ∧ i ≤ 2 ∧ ∀ d, H d = none → d ≠ a → Q .non (upd (upd H d (exd d [("at", .int i)])) a (exo a C (some d)))
/-- Table(columns), or the error -/
def spTableX (K : PySem.W.Frag) (C CB : Addr) : Sp := fun vs H Q E => ∃ (p a dx : Addr) (xs : List V), vs = [.ref p, .ref a] ∧ H p = some (.ins C dx []) ∧ SqB K H a xs ∧ xs.length ≤ 1000 ∧ (∀ x ∈ xs, Ent H x) ∧
  (dueV xs = .non → ∀ H', But p H H' → TabAt H' C p xs → Q .non H') ∧ (∀ i, dueV xs = .int i → ∀ d H', Same H H' → H' d = some (.xd [("at", .int i)]) → E (.ref CB) (some d) H')
theorem badFrom_le : ∀ (xs pre : List V) (i : Nat), badFrom pre xs = some i → i < pre.length + xs.length
  | [], _, _, h => by cases h
  | x :: r, pre, i, h => by
    unfold badFrom at h
    split at h
    · cases h
      rw [List.length_cons]
      omega
    · have := badFrom_le r (pre ++ [x]) i h
      rw [List.length_append, List.length_singleton] at this
      rw [List.length_cons]
      omega
theorem due_cases (xs : List V) : dueV xs = .non ∨ ∃ i : Int, dueV xs = .int i ∧ -1 ≤ i ∧ i ≤ 2 := by
  unfold dueV
  split
  · rename_i h
    simp only [Bool.and_eq_true, decide_eq_true_eq] at h
    cases e : badFrom [] xs with
    | none => exact .inl rfl
    | some i =>
      have q := badFrom_le xs [] i e
      rw [List.length_nil] at q
      exact .inr ⟨i, rfl, by omega, by omega⟩
  · exact .inr ⟨-1, rfl, by decide, by decide⟩
end Own
namespace Own
open PySem PySem.Spec PyProof.Rows L2
theorem put_same {H H1 : Hp} {g : Addr} {o : HO} (s : Same H H1) (hg : H g = none) : Same H (upd H1 g o) := fun x u e => by
  rw [upd_ne (ne_of_none e hg)]
  exact s x u e
theorem made_same {H H1 : Hp} {p dx C : Addr} (np : H p = none) (ndx : H dx = none) (B : But p (upd (upd H dx (.own p)) p (.ins C dx [])) H1) : Same H H1 := fun q o e => by
  refine B q o (ne_of_none e np) ?_
  rw [upd_ne (ne_of_none e np), upd_ne (ne_of_none e ndx)]
  exact e
end Own

namespace Own
open PySem PySem.Spec PyProof.Rows L2
/-! ### the law's def, asked where nothing is being shown: repr of data -/
/-- as FnOk, at the place where laws are called -/
def Asked (P : Program) (w : World) (K : PySem.W.Frag) (mg : Str → Option Value) (base : Heap) (f : Addr) (fd : FuncData) (ps : List Str) (sp : Sp) : Prop :=
  ∀ (s : Shared) (H : Hp) (us : List Value) (vs : List V) (Q : VK), Env0 P w K mg base callerA [] s H → BindsTo s fd ⟨us, []⟩ (ps.zip us) → Vals vs us → sp vs H Q E0 →
    codeAny (model P w) callerA (.call (.ref f) ⟨us, []⟩) (CR CX0 [] P w H s Q E0) s
theorem asked_of {P : Program} {w : World} {K : PySem.W.Frag} {mg : Str → Option Value} {base : Heap} {x qual : Str} {params : Arguments} {body : List Stmt} {scope : Scope} {f : Addr} {fd : FuncData} {N ps : List Str} {k : Nat} {sp : Sp}
    (F : FunD K x qual params body scope [] [] f fd) (S : FnScope N ps scope) (hr : Room (k + 1) callerA) (len : ∀ vs H Q E, sp vs H Q E → vs.length = ps.length)
    (hbody : ∀ (cdv : Value) (s : Shared) (H : Hp) (vs : List V) (Q : VK), Room k (callerA.deeper (envOfC qual scope s.heap.objs.size f cdv)) → (callerA.deeper (envOfC qual scope s.heap.objs.size f cdv)).guards = some [] → sp vs H Q E0 →
      ∃ t, PSs (cxOf CX0 P w K mg base N qual scope f cdv callerA [] s H E0) body t ∧ t { nx := fun _ H' => Q .non H', rt := Q } (L2.start N vs) H) : Asked P w K mg base f fd ps sp := by
  obtain ⟨oc, od, dV, kV, doc, pm, an, cdv, ct, osl, rfl, lk, hcd, _, _⟩ := F.ex
  intro s H us vs Q e0 hb r hsp
  have X0 : K.In s.heap := e0.mod.kin.keeps fun b o e => (e0.bs b o e).1
  have nl : s.heap.NoLimit := e0.mod.nolimit.keeps fun b o e => (e0.bs b o e).1
  refine codeAny_call_function hr.depth (X0 _ _ lk) rfl S.co S.gen rfl (PySem.W.codeRec_of X0 hcd) (hb _ _ _ _ ?_)
  refine wpAny_newFunctionEnv_cells S.kind (fun y hy => ?_) fun env he s1 ic => ?_
  · obtain ⟨n, v⟩ := y
    exact (S.par n (List.of_mem_zip hy).1).imp id fun q => ⟨q, PySem.W.cellsFrom_some _ _ _ (.inl q)⟩
  subst he
  refine ⟨nl.keeps ic.toInCall.keep, codeAny_func ?_⟩
  obtain ⟨t, ht, hq⟩ := hbody cdv s H vs Q (hr.deeper _) rfl hsp
  refine wpAny_mono (ht.run [] s1 (L2.start N vs) H _ (inv_start S hr.hd e0 (len _ _ _ _ hsp) r ic) hq) (fun fl s' hs => ?_) fun e s' hs => hs
  match fl, hs with
  | .ret u, ⟨v, σ', H', J, rv, q⟩ => exact ⟨v, H', J.os, J.bare, J.base, J.hok, rv, q⟩
  | .next, ⟨σ', H', J, q⟩ => exact ⟨V.non, H', J.os, J.bare, J.base, J.hok, rfl, q⟩
  | .brk, ⟨_, _, _, q⟩ => exact q.elim
  | .cont, ⟨_, _, _, q⟩ => exact q.elim
/-- repr of a list or a tuple of data -/
def rReprD (K : PySem.W.Frag) : List V → Hp → VK → Prop := fun xs H Q => ∃ (a : Addr) (d : PyData), xs = [.ref a] ∧ Dp K H (.ref a) d ∧ d.showable = true ∧ d.hasDict = false ∧ d.depth ≤ 60 ∧ d.shown.length ≤ sizeLine ∧ Q (.str d.shown) H
theorem call_repr_data {X : Cx} (hu : X.A.units + 64 < cLine) (hg : X.A.guards = some []) : CallR X (.builtin "repr") (rReprD X.K) := by
  intro pins s σ H xs us Q I r h
  obtain ⟨a, d, rfl, hd, h1, h2, h3, h4, q⟩ := h
  obtain ⟨u, rfl, ru⟩ := vals1 r
  cases ru
  obtain ⟨as, rd⟩ := Dp.reads I d (.ref a) (.ref a) hd rfl
  refine repr_of_reads' rd h1 (fun e => by rw [h2] at e; cases e) hg (by omega) (fun _ _ e => e) (fun h' u tk hk => ?_) h4
  exact ⟨.str d.shown, H, I.kept (t' := tk) hk, ⟨_, rfl⟩, q⟩
/-! ### the end of a law whose def is asked so -/
theorem asked_call {P : Program} {w : World} {K : PySem.W.Frag} {mg mb : Str → Option Value} {fa a : Addr} {fd : FuncData} {x : Str} {sp : Sp} {s1 : Shared} {vs : List Value} {ns : List Int}
    (KX : K.In s1.heap) (hns : s1.heap.Ns mainGlobals mg) (hb : s1.heap.Ns builtinsNs mb) (hbb : ∀ x : Str, x ≠ "__name__" → mb x = bootBuiltins x) (hlim : s1.heap.NoLimit) (hg : s1.gens = #[])
    (ha : s1.heap.get? a = some { cls := .type "list", data := .seq vs.toArray }) (hi : IntsAre vs ns) (hl : ns.length ≤ sizeLine)
    (F : ∀ base : Heap, K.In base → base.Ns mainGlobals mg → Asked P w K mg base fa fd [x] sp) (hbind : ∀ (s : Shared) (u : Value), BindsTo s fd ⟨[u], []⟩ [(x, u)])
    (hsp : ∀ H : Hp, SqL K H a (ns.map V.int) → sp [.ref a] H (fun v _ => v = .bl true) E0) :
    codeAny (model P w) callerA (.call (.ref fa) ⟨[.ref a], []⟩) (fun r s' => r = .ok (.ret (.bool true)) ∧ OldK s1.heap s'.heap ∧ s'.os = s1.os ∧ AllBare s'.gens) s1 := by
  have rv := vals_ints hi
  have go : ∀ H : Hp, (∀ b, H b = none ∨ (b = a ∧ K.lookup a = none ∧ H b = some (.frz { cls := .type "list", data := .seq vs.toArray } (.lst (ns.map V.int))))) → SqL K H a (ns.map V.int) →
      codeAny (model P w) callerA (.call (.ref fa) ⟨[.ref a], []⟩) (fun r s' => r = .ok (.ret (.bool true)) ∧ OldK s1.heap s'.heap ∧ s'.os = s1.os ∧ AllBare s'.gens) s1 := by
    intro H hH hS
    have hok : HOk P w H s1.heap := fun b u z => by
      rcases hH b with q | ⟨rfl, _, q⟩
      · rw [q] at z
        cases z
      · rw [q] at z
        cases z
        exact ⟨ha, by rw [List.length_map]; exact hl, vs, _, rv, ha⟩
    have at_ : ∀ {b : Addr} {o : Obj}, s1.heap.get? b = some o → (b = a → K.lookup a = none → False) → (hidT s1.heap H).get? b = some o := fun {b o} e n => hidT_get e (by
      rcases hH b with q | ⟨q1, q2, _⟩
      · exact q
      · exact (n q1 q2).elim)
    have inK : K.In (hidT s1.heap H) := fun b o e => at_ (KX b o e) fun q1 q2 => by
      subst q1
      rw [q2] at e
      cases e
    have dic : ∀ {b : Addr} {m : Str → Option Value}, s1.heap.Ns b m → (hidT s1.heap H).Ns b m := fun {b m} ⟨o, es, ep, e, dd, r⟩ => ⟨o, es, ep, at_ e (fun q1 _ => by
      subst q1
      rw [ha] at e
      cases e
      cases dd), dd, r⟩
    have M : Mod K mg (hidT s1.heap H) := ⟨inK, dic hns, ⟨mb, dic hb, hbb⟩, let ⟨mc, h1, h2⟩ := hlim; ⟨mc, dic h1, h2⟩⟩
    have e0 : Env0 P w K mg (hidT s1.heap H) callerA [] s1 H := ⟨rfl, M, fun b o e => of_hidT e, Nat.le_of_eq (hidT_size _ _), trivial, (fun b z => by cases z), hok, .of_eq hg⟩
    refine codeAny_mono (F _ inK (dic hns) s1 H [.ref a] [.ref a] _ e0 (hbind s1 (.ref a)) (.cons rfl .nil) (hsp H hS)) fun r s' h => ?_
    match r, h with
    | .error e, h => exact h.elim
    | .ok (.ret u), ⟨v, H', os, bare, un, hok', r', q⟩ =>
      have q' : v = .bl true := q
      subst q'
      obtain rfl : u = Value.bool true := r'
      refine ⟨rfl, OldK.of_keep fun b o e => ?_, os, bare⟩
      rcases hH b with z | ⟨rfl, _, z⟩
      · exact un.keep b o e z (fun z => by cases z) (by simp)
      · obtain ⟨e2, _⟩ := hok' b _ (un.frzs b _ _ z)
        rw [ha] at e
        cases e
        exact e2
  cases hk : K.lookup a with
  | some o =>
    have e := KX a o hk
    rw [ha] at e
    cases e
    exact go (fun _ => none) (fun _ => .inl rfl) (.inr ⟨_, vs.toArray, _, hk, rfl, rfl, rfl, by rw [List.size_toArray, hi.length]; exact hl, by simpa using rv⟩)
  | none =>
    refine go (fun b => if b = a then some (.frz { cls := .type "list", data := .seq vs.toArray } (.lst (ns.map V.int))) else none) (fun b => ?_) (.inl (.inr ⟨{ cls := .type "list", data := .seq vs.toArray }, if_pos rfl⟩))
    by_cases q : b = a
    · exact .inr ⟨q, hk, if_pos q⟩
    · exact .inl (if_neg q)
theorem asked_walk {l : PySem.W.OpenLaw} {n : Nat} {q : Program} {loose : List Str} {XP : (Str → Option Value) → Heap → Prop} {YP : World → Heap → Prop} {d : DefRec} {x : Str}
    (hn : l.most = some n) (hn2 : n ≤ sizeLine) (hdf : d.params.defaults = [])
    (F : ∀ (w : World) (mg : Str → Option Value) (fa : Addr) (h : Heap), YP w h → h.Ns mainGlobals mg → mg d.name = some (.ref fa) →
      ∃ (K : PySem.W.Frag) (fd : FuncData) (sp : Sp), K.In h ∧ (∀ (s : Shared) (u : Value), BindsTo s fd ⟨[u], []⟩ [(x, u)]) ∧
        (∀ (H : Hp) (a : Addr) (ns : List Int), ns.length ≤ n → SqL K H a (ns.map V.int) → sp [.ref a] H (fun v _ => v = .bl true) E0) ∧
        ∀ base : Heap, K.In base → base.Ns mainGlobals mg → Asked l.prog w K mg base fa fd [x] sp) :
    PySem.W.WalkO q loose XP YP l.row.toRowW d [] (fun f vs => PySem.call f vs) := by
  refine Att.attach_call hn hdf fun w s0 s1 mg mb fa o pm cd doc a vs ns G Y ho hd hcd hmg hobj hints hlen hg => ?_
  obtain ⟨K, fd, sp, KX, hb, hsp, hF⟩ := F w mg fa _ Y G.T.g hmg
  exact asked_call KX G.T.g G.T.b G.T.builtins G.T.nolimit hg hobj hints (Nat.le_trans hlen hn2) hF hb (fun H hS => hsp H a ns hlen hS)
end Own

namespace K02
open PySem PySem.Spec PyProof.Rows L2 Own
def top (i : Nat) : Stmt := PySem.Challenge.pw_emptyfilters_k02_tables_refused.main.body.getD i (.Pass ⟨0, 0, 0, 0⟩)
abbrev s_is_integer : Stmt := top 3
abbrev s_is_word : Stmt := top 4
abbrev s_copied : Stmt := top 5
abbrev s_BadTableinit : Stmt := inClass (top 8) 0
abbrev s_BadConditioninit : Stmt := inClass (top 9) 0
abbrev s_BadRowsinit : Stmt := inClass (top 10) 0
abbrev s_BadForminit : Stmt := inClass (top 11) 0
abbrev s_first_bad : Stmt := top 14
abbrev s_Tableinit : Stmt := inClass (top 15) 0
abbrev s_Tablelen : Stmt := inClass (top 15) 1
abbrev s_Tablecontains : Stmt := inClass (top 15) 2
abbrev s_Tableeq : Stmt := inClass (top 15) 3
abbrev s_Tablerepr : Stmt := inClass (top 15) 4
abbrev s_law_bag : Stmt := top 17
abbrev s_law_take : Stmt := top 18
abbrev s_law_of : Stmt := top 19
abbrev s_law_kept : Stmt := top 20
abbrev s_law_is_word : Stmt := top 21
abbrev s_law_odd : Stmt := top 22
abbrev s_law_entries : Stmt := top 23
abbrev s_law_due : Stmt := top 24
abbrev s_law_told : Stmt := top 25
abbrev s_law : Stmt := top 26
abbrev FnP (K : PySem.W.Frag) (x : Str) (st : Stmt) (f : Addr) (fd : FuncData) : Prop := FunD K x x (defArgs st) (defBody st) (defScope st) [] [] f fd
abbrev FnM (K : PySem.W.Frag) (x q : Str) (st : Stmt) (f : Addr) (fd : FuncData) : Prop := FunD K x q (defArgs st) (defBody st) (defScope st) [] [] f fd
structure Txt (K : PySem.W.Frag) (mg : Str → Option Value) (aK : Addr) : Prop extends Free mg where
  g_KEPT : mg "KEPT" = some (.ref aK)
  s_KEPT : ∀ H, SqT K H aK (keptL.map V.str)
  g_WORD_LETTERS : ∃ t, mg "WORD_LETTERS" = some (.int 8 t)
  g_MOST_COLUMNS : ∃ t, mg "MOST_COLUMNS" = some (.int 3 t)
structure TxC (K : PySem.W.Frag) (C : Addr) : Prop where
  cl : Cls K C
  nC : NoAttr K C "columns"
section
variable {P : Program} {w : World} {K : PySem.W.Frag} {mg : Str → Option Value} {base : Heap} {f C : Addr} {fd : FuncData}
theorem sc_law_take : FnScope ["bag", "many", "digit"] ["bag", "many"] (defScope s_law_take) := ⟨rfl, rfl, rfl, by decide +kernel, rfl, by decide +kernel, by decide +kernel⟩
theorem ok_take (F : FnP K "_law_take" s_law_take f fd) (T : Free mg) : FnOk P w K mg base CX0 1 f fd ["bag", "many"] spTake := by
  refine F.ok sc_law_take (fun vs H Q E h => ?_) (fun cdv A outer s H vs Q E hr h => ⟨_, PSs.nox (pss_cons (ps_if (pt_cmpR op_gt (pe_ix ix_list (pv 0) pe_int (fun _ _ => rfl)) pe_int (nomark _))
 (pss_cons (ps_set (i := 2) sc_law_take.nd rfl (Or.inl rfl) (pe_op op_mod (pe_callTy call_int1 (by rfl) T.int boot_int (pa_cons (pe_ix ix_list (pv 0) pe_int (fun _ _ => rfl)) pa_nil)) (pv 1)))
 (pss_cons (ps_asg (pe_op op_fdiv (pe_ix ix_list (pv 0) pe_int (fun _ _ => rfl)) (pv 1)) (pg_sub (pv 0) pe_int set_list))
 (pss_one (ps_ret (pv 2)))))
 pss_nil)
 (pss_cons (ps_asg (pe_op op_mod (pe_callTy call_int1 (by rfl) T.int boot_int (pa_cons (pe_op op_add (pe_op op_mul (pe_ix ix_list (pv 0) pe_int (fun _ _ => rfl)) pe_int) pe_int) pa_nil)) pe_int) (pg_sub (pv 0) pe_int set_list))
 (pss_one (ps_ret (pe_op op_mod (pe_op op_fdiv (pe_op op_mod (pe_callTy call_int1 (by rfl) T.int boot_int (pa_cons (pe_op op_mul (pe_op op_fdiv (pe_ix ix_list (pv 0) pe_int (fun _ _ => rfl)) pe_int) pe_int) pa_nil)) pe_int) pe_int) (pv 1)))))), ?_⟩)
  · obtain ⟨b, m, rfl, _⟩ := h
    rfl
  · obtain ⟨b, m, rfl, ⟨x, y, hb, hx, hy⟩, hm, hm2, k⟩ := h
    refine ⟨_, rfl, b, _, 0, _, rfl, rfl, SqL.of hb, rfl, _, _, rfl, rfl, _, rfl, ?_⟩
    refine ite2 (fun hgt => ?_) (fun hle => ?_)
    · have hx0 : 0 < x := of_decide_eq_true hgt
      refine ⟨_, rfl, b, _, 0, _, rfl, rfl, SqL.of hb, rfl, .inl ⟨_, rfl, ?_⟩⟩
      refine ⟨_, rfl, _, _, rfl, rfl, hm, ?_⟩
      refine ⟨_, rfl, b, _, 0, _, rfl, rfl, SqL.of hb, rfl, _, rfl, _, _, rfl, rfl, ⟨hm, hm2⟩, ?_⟩
      refine ⟨_, rfl, b, _, 0, 0, rfl, rfl, hb, rfl, ?_⟩
      refine ⟨_, rfl, k _ _ (Int.emod_nonneg _ (by omega)) (Int.emod_lt_of_pos _ hm) (But.put But.refl) ⟨_, _, upd_same, Int.ediv_nonneg hx (by omega), hy⟩⟩
    · refine ⟨_, rfl, b, _, 1, _, rfl, rfl, SqL.of hb, rfl, _, _, rfl, rfl, .inr ⟨by decide, by decide⟩, _, _, rfl, rfl, .inl ⟨_, rfl, _, _, rfl, rfl, (by show (0 : Int) < _; decide), ?_⟩⟩
      refine ⟨_, rfl, b, _, 1, 1, rfl, rfl, hb, rfl, ?_⟩
      refine ⟨_, rfl, b, _, 1, _, rfl, rfl, SqL.of upd_same, rfl, _, _, rfl, rfl, ⟨by decide, by decide⟩, _, _, rfl, rfl, .inr ⟨by decide, by decide⟩, .inl ⟨_, rfl, _, _, rfl, rfl, (by show (0 : Int) < _; decide), ?_⟩⟩
      refine ⟨_, _, rfl, rfl, ⟨by decide, by decide⟩, _, rfl, _, _, rfl, rfl, hm, ?_⟩
      refine k _ _ (Int.emod_nonneg _ (by omega)) (Int.emod_lt_of_pos _ hm) (But.put But.refl) ⟨_, _, upd_same, hx, Int.emod_nonneg _ (by decide)⟩
theorem sc_law_of : FnScope ["bag", "some"] ["bag", "some"] (defScope s_law_of) := ⟨rfl, rfl, rfl, by decide +kernel, rfl, by decide +kernel, by decide +kernel⟩
theorem ok_of {ft : Addr} {fdt : FuncData} (F : FnP K "_law_of" s_law_of f fd) (T : Free mg) (c_law_take : Cal P w K mg base CX0 1 "_law_take" ft fdt ["bag", "many"] spTake) : FnOk P w K mg base CX0 2 f fd ["bag", "some"] (spOf K) := by
  refine F.ok sc_law_of (fun vs H Q E h => ?_) (fun cdv A outer s H vs Q E hr h => ⟨_, PSs.nox (pss_one (ps_ret (pe_ix ix_list (pv 1) (pe_cal c_law_take (hr.mono (by decide)) (pa_cons (pv 0) (pa_cons (pe_callB call_len_seq (by rfl) T.len boot_len (pa_cons (pv 1) pa_nil)) pa_nil))) (fun _ _ => rfl)))), ?_⟩)
  · obtain ⟨b, l, xs, rfl, _⟩ := h
    rfl
  · obtain ⟨b, l, xs, rfl, hb, hne, hl, hx, hlen, k⟩ := h
    have hpos : 0 < xs.length := List.length_pos_iff.mpr hx
    refine ⟨_, rfl, _, rfl, _, rfl, l, _, rfl, .inl hl, b, _, rfl, hb, by omega, by omega, fun d H' h0 h1 hB hb' => ?_⟩
    refine ⟨l, xs, d, xs[d.toNat]'(by omega), rfl, rfl, hB.list hne hl, ?_, ?_⟩
    · exact at_of (j := d.toNat) (by omega) (List.getElem?_eq_getElem _)
    · exact k _ _ (List.getElem_mem _) hB hb'
theorem sc_law_bag : FnScope ["script", "at", "cell", "mixed", "k", "each"] ["script", "at"] (defScope s_law_bag) := ⟨rfl, rfl, rfl, by decide +kernel, rfl, by decide +kernel, by decide +kernel⟩
theorem ok_bag (F : FnP K "_law_bag" s_law_bag f fd) (T : Free mg) : FnOk P w K mg base CX0 1 f fd ["script", "at"] (spBag K) := by
  refine F.ok sc_law_bag (fun vs H Q E h => ?_) (fun cdv A outer s H vs Q E hr h => ⟨_, PSs.nox (pss_cons (ps_set (i := 2) sc_law_bag.nd rfl (Or.inl rfl) (pe_ifExp (pt_cmpR op_lt (pv 1) (pe_callB call_len_seq (by rfl) T.len boot_len (pa_cons (pv 0) pa_nil)) (nomark _)) (pe_ix ix_list (pv 0) (pv 1) (fun _ _ => rfl)) pe_int))
 (pss_cons (ps_set (i := 3) sc_law_bag.nd rfl (Or.inl rfl) (pe_op op_add (pe_op op_mul pe_int (pv 1)) pe_int))
 (pss_cons (ps_for PassesOwn.never rfl (pi_enum (by rfl) T.enumerate (pa_cons (pe_slice sl_list (pv 0) po_none (po_some pe_int)) pa_nil)) (pg_tup rfl (pgs_cons (pg_name (i := 4) sc_law_bag.nd rfl (Or.inl rfl)) (pgs_cons (pg_name (i := 5) sc_law_bag.nd rfl (Or.inl rfl)) pgs_nil)))
 (pss_one (ps_set (i := 3) sc_law_bag.nd rfl (Or.inl rfl) (pe_op op_mod (pe_callTy call_int1 (by rfl) T.int boot_int (pa_cons (pe_op op_add (pe_op op_add (pe_op op_mul (pv 3) pe_int) (pe_op op_mod (pe_callTy call_int1 (by rfl) T.int boot_int (pa_cons (pv 5) pa_nil)) pe_int)) (pe_op op_mul pe_int (pv 4))) pa_nil)) pe_int))))
 (pss_one (ps_ret (pe_lst (pa_cons (pe_ifExp (pt_cmpR op_ge (pe_callB call_abs (by rfl) T.abs boot_abs (pa_cons (pv 2) pa_nil)) (pe_op op_pow pe_int pe_int) (nomark _)) (pe_callB call_abs (by rfl) T.abs boot_abs (pa_cons (pv 2) pa_nil)) pe_int) (pa_cons (pv 3) pa_nil)))))))), ?_⟩)
  · obtain ⟨a, ns, n, rfl, _⟩ := h
    rfl
  · obtain ⟨a, ns, n, rfl, hS, hlen, hn, k⟩ := h
    refine ⟨_, rfl, _, rfl, a, _, rfl, .inl hS, _, _, rfl, rfl, _, rfl, ?_⟩
    refine' pick (α := Int) ?main ?rest
    case main =>
      intro go
      refine ite2 (fun hlt => ?_) (fun _ => ?_)
      have hlt2 : n < ns.length := by
        have q := of_decide_eq_true hlt
        rw [len_ints] at q
        omega
      obtain ⟨u, hu⟩ : ∃ u, ns[n]? = some u := ⟨_, List.getElem?_eq_getElem hlt2⟩
      exact ⟨_, rfl, _, rfl, a, _, _, V.int u, rfl, rfl, hS, at_of rfl (by rw [List.getElem?_map, hu]; rfl), go u⟩
      exact go 0
    case rest =>
      intro c
      refine ⟨_, rfl, _, _, rfl, rfl, .inl ⟨by decide, by decide⟩, _, _, rfl, rfl, ?_⟩
      refine ⟨_, rfl, _, rfl, a, _, rfl, hS, fun p np => ⟨p, _, rfl, SqL.of upd_same, ?_⟩⟩
      refine for_it (walk_enum (xs := cutV (ns.map V.int) none (some 63))) (fun _ σ H' => ∃ (m : Int) (kv ev : Option V), σ = [some (.ref a), some (.int n), some (.int c), some (.int m), kv, ev] ∧ Same (upd H p (.lst (cutV (ns.map V.int) none (some 63)))) H' ∧ 0 ≤ m)
        ⟨_, none, none, rfl, Same.refl _, by omega⟩ (fun i σ H' _ ⟨m, kv, ev, _, R, _⟩ => SqL.of (R _ _ upd_same)) ?_ ?_
      · rintro i x σ H1 H2 hi ⟨m, kv, ev, rfl, R, hm⟩ ⟨t, k1, x1, rfl, nt, rfl, hk, hx⟩
        cases hk
        obtain ⟨u, rfl⟩ := int_of_mem (mem_cut (List.mem_of_getElem? hx))
        refine ⟨t, _, rfl, .inl (.inl upd_same), rfl, ?_⟩
        refine ⟨_, _, rfl, _, _, rfl, rfl, ?_⟩
        refine ⟨_, rfl, _, _, rfl, rfl, .inr ⟨by decide, by decide⟩, _, rfl, .inl ⟨_, rfl, _, _, rfl, rfl, (by show (0 : Int) < _; decide), _, _, rfl, rfl, _, rfl, _, _, rfl, rfl, .inl ⟨by decide, by decide⟩, _, _, rfl, rfl, .inl ⟨_, rfl, _, _, rfl, rfl, (by show (0 : Int) < _; decide), ?_⟩⟩⟩
        exact ⟨_, _, _, rfl, same_new R nt, Int.emod_nonneg _ (by decide)⟩
      · rintro σ H' ⟨m, kv, ev, rfl, R, hm⟩
        refine ⟨_, rfl, _, rfl, _, _, rfl, rfl, ⟨by decide, by decide, by decide⟩, _, _, rfl, rfl, _, rfl, ?_⟩
        refine' pickP (α := Int) (fun z => 0 ≤ z) ?main2 ?rest2
        case main2 =>
          intro go
          refine ite2 (fun _ => ?_) (fun _ => ?_)
          obtain ⟨u, hu, e⟩ : ∃ u, 0 ≤ u ∧ u = (if c < 0 then -c else c) := ⟨_, abs_nn c, rfl⟩
          refine ⟨_, rfl, _, rfl, ?_⟩
          rw [← e]
          exact go u hu
          exact go 0 (by omega)
        case rest2 =>
          intro x hx
          refine ⟨_, rfl, (by show 2 ≤ sizeLine; decide), fun b nb => ?_⟩
          exact k b _ (same_new ((same_newH np).trans R) nb) ((same_newH np).free (R.free nb)) ⟨_, _, upd_same, hx, hm⟩

theorem sc_is_word : FnScope ["thing", "letter"] ["thing"] (defScope s_is_word) := ⟨rfl, rfl, rfl, by decide +kernel, rfl, by decide +kernel, by decide +kernel⟩
theorem ok_is_word {aK : Addr} (F : FnP K "is_word" s_is_word f fd) (T : Txt K mg aK) : FnOk P w K mg base CX0 1 f fd ["thing"] spIsWord := by
  refine F.ok sc_is_word (fun vs H Q E h => ?_) (fun cdv A outer s H vs Q E hr h => ⟨_, PSs.nox (pss_cons (ps_if (PW.pt (pw_or (pt_not (pt_val (pe_callB call_isi (by rfl) T.isinstance boot_isinstance (pa_cons (pv 0) (pa_cons (pe_bltn (v := .ty "str") (by rfl) T.str boot_str rfl) pa_nil))))) (pw_or1 (pt_cmpR op_in_seq (pv 0) (pe_glob (v := .ref _) (by rfl) T.g_KEPT rfl) (by rfl)))))
 (pss_one (ps_ret pe_bl))
 pss_nil)
 (pss_one (ps_ret (pe_and (pe_chain op_le op_le pe_int (pe_callB call_len_str (by rfl) T.len boot_len (pa_cons (pv 0) pa_nil)) (pe_gint (by rfl) T.g_WORD_LETTERS)) (pe_one (pe_callB (cr_all rfl) (by rfl) T.all boot_all (pa_cons (pe_lc (own := [("letter", 1)]) rfl sc_is_word.nd (pi_str (pv 0)) (blkOk_by (N := ["thing", "letter"]) (sc := defScope s_is_word) (by decide +kernel)) (fun _ _ _ _ _ => (pg_name (i := 1) sc_is_word.nd rfl (Or.inl rfl))) (fun _ _ _ _ _ => pts_nil) (fun _ _ _ _ _ => (pe_chain op_le_str op_le_str pe_str (pv 1) pe_str))) pa_nil))))))), ?_⟩)
  · obtain ⟨v, t, rfl, _⟩ := h
    rfl
  · obtain ⟨v, t, rfl, ht, hz, k⟩ := h
    refine ⟨_, rfl, _, _, _, _, _, rfl, .ty _, kd_ok ht, kit_str t, _, rfl, ?_⟩
    by_cases e : t = .str
    · subst e
      obtain ⟨z, rfl⟩ := kd_str ht
      have hlen := hz z rfl
      refine iteNS rfl ?_
      refine ⟨_, rfl, aK, keptL.map V.str, rfl, .inr (T.s_KEPT _), rfl, flat_strs _, _, rfl, ?_⟩
      refine ite2 (fun h1 => ?_) (fun h1 => ?_)
      · have h2 : inV (.str z) (keptL.map V.str) = true := h1
        have q : Q (V.bl (wordB z)) H := k H (Same.refl H)
        unfold wordB at q
        rw [h2] at q
        exact q
      · have h2 : inV (.str z) (keptL.map V.str) = false := by
          rw [← Bool.not_eq_true]
          exact h1
        have k0 : ∀ H', Same H H' → Q (V.bl (wordB z)) H' := k
        unfold wordB at k0
        rw [h2] at k0
        have k2 : ∀ H', Same H H' → Q (V.bl ((decide ((1 : Int) ≤ (z.length : Nat)) && decide (((z.length : Nat) : Int) ≤ 8)) && z.cps.toList.all lowB)) H' := k0
        refine ⟨_, rfl, z, rfl, Nat.le_of_lt (small1000 hlen), _, _, rfl, rfl, _, rfl, ?_⟩
        refine ite2 (fun h3 => ?_) (fun h3 => ?_)
        · rw [h3] at k2
          refine ⟨_, _, rfl, rfl, _, rfl, ?_⟩
          refine ite2 (fun h4 => ?_) (fun h4 => ?_)
          · rw [h4] at k2
            refine ⟨_, rfl, z, rfl, fun D nD => ?_⟩
            refine lc_it walk_str (fun i H' => H' = upd H D (.lst (((z.cps.toList.take i).map lowB).map V.bl))) rfl (fun i H' _ e => True.intro) (fun i x H' H2 hi e y => ?_) (fun H' e => ?_)
            · subst e
              obtain ⟨rfl, c, hc, rfl⟩ := y
              have hc2 : z.cps.toList[i]? = some c := by
                rw [Array.getElem?_toList]
                exact hc
              have fin : ∀ b, b = lowB c → ∃ acc, upd H D (.lst (((z.cps.toList.take i).map lowB).map V.bl)) D = some (.lst acc) ∧ acc.length < sizeLine ∧
                  upd (upd H D (.lst (((z.cps.toList.take i).map lowB).map V.bl))) D (.lst (acc ++ [V.bl b])) = upd H D (.lst (((z.cps.toList.take (i + 1)).map lowB).map V.bl)) := by
                intro b eb
                refine ⟨_, upd_same, small1000 ?_, ?_⟩
                · simp
                  have : z.cps.size = z.length := rfl
                  omega
                · rw [upd_upd, eb, map_take_snoc lowB hc2, List.map_append] <;> rfl
              refine ⟨rfl, _, rfl, _, _, rfl, rfl, _, rfl, ?_⟩
              have q1 : (!decide (([c] : List Nat) < [97])) = decide (97 ≤ c) := le_sign c 97
              have q2 : (!decide (([122] : List Nat) < [c])) = decide (c ≤ 122) := le_sign 122 c
              refine ite2 (fun h5 => ?_) (fun h5 => ?_)
              · have h6 : decide (97 ≤ c) = true := q1.symm.trans h5
                refine ⟨_, _, rfl, rfl, fin _ ?_⟩
                unfold lowB
                rw [h6]
                exact q2
              · have h6 : decide (97 ≤ c) = false := by
                  rw [← q1, ← Bool.not_eq_true]
                  exact h5
                refine fin _ ?_
                unfold lowB
                rw [h6]
                rfl
            · subst e
              refine ⟨D, z.cps.toList.map lowB, rfl, SqL.of (by rw [upd_same, List.take_of_length_le (by simp)]), ?_⟩
              rw [all_id_map]
              exact k2 _ (same_newH nD)
          · rw [Bool.not_eq_true] at h4
            rw [h4] at k2
            exact k2 _ (Same.refl H)
        · rw [Bool.not_eq_true] at h3
          rw [h3] at k2
          exact ⟨_, rfl, k2 _ (Same.refl H)⟩
    · rw [decide_eq_false e]
      refine iteT ?_
      have q := k H (Same.refl H)
      rw [wordV_not ht e] at q
      exact q

theorem sc_first_bad : FnScope ["names", "at", "name"] ["names"] (defScope s_first_bad) := ⟨rfl, rfl, rfl, by decide +kernel, rfl, by decide +kernel, by decide +kernel⟩
theorem ok_first_bad {aK fw : Addr} {fdw : FuncData} (F : FnP K "first_bad" s_first_bad f fd) (T : Txt K mg aK) (c_is_word : Cal P w K mg base CX0 1 "is_word" fw fdw ["thing"] spIsWord) : FnOk P w K mg base CX0 2 f fd ["names"] (spFirstBadA K) := by
  refine F.ok sc_first_bad (fun vs H Q E h => ?_) (fun cdv A outer s H vs Q E hr h => ⟨_, PSs.nox (pss_cons (ps_if (pt_not (pt_chain op_le op_le pe_int (pe_callB call_len_seq (by rfl) T.len boot_len (pa_cons (pv 0) pa_nil)) (pe_gint (by rfl) T.g_MOST_COLUMNS)))
 (pss_one (ps_ret (pe_un un_neg pe_int)))
 pss_nil)
 (pss_cons (ps_for PassesOwn.never rfl (pi_enumA (by rfl) T.enumerate (pa_cons (pv 0) pa_nil)) (pg_tup rfl (pgs_cons (pg_name (i := 1) sc_first_bad.nd rfl (Or.inl rfl)) (pgs_cons (pg_name (i := 2) sc_first_bad.nd rfl (Or.inl rfl)) pgs_nil)))
 (pss_one (ps_if (PW.pt (pw_or (pt_not (pt_val (pe_cal c_is_word (hr.mono (by decide)) (pa_cons (pv 2) pa_nil)))) (pw_or1 (pt_cmpR op_in_seq (pv 2) (pe_slice sl_A (pv 0) po_none (po_some (pv 1))) (by rfl)))))
 (pss_one (ps_ret (pv 1)))
 pss_nil)))
 (pss_one (ps_ret pe_non)))), ?_⟩)
  · obtain ⟨a, xs, rfl, _⟩ := h
    rfl
  · obtain ⟨a, xs, rfl, ha, hlen, hx, k⟩ := h
    have bad : (decide ((1 : Int) ≤ (xs.length : Nat)) && decide (((xs.length : Nat) : Int) ≤ 3)) = false → Q (.int (-1)) H := by
      intro e
      have q := k H (Same.refl H)
      unfold dueV at q
      rw [e] at q
      exact q
    refine ⟨_, rfl, a, xs, rfl, ha.seqA, _, _, rfl, rfl, _, rfl, ?_⟩
    refine ite2 (fun h1 => ?_) (fun h1 => ?_)
    rotate_left
    · rw [Bool.not_eq_true] at h1
      refine ⟨_, rfl, iteT ?_⟩
      exact ⟨_, rfl, bad (by rw [h1]; rfl)⟩
    refine ⟨_, _, rfl, rfl, _, rfl, ?_⟩
    refine ite2 (fun h2 => ?_) (fun h2 => ?_)
    · rw [Bool.not_eq_true'] at h2
      exact ⟨_, rfl, bad (by rw [h1, h2]; rfl)⟩
    have h2 : decide (((xs.length : Nat) : Int) ≤ 3) = true := by
      cases q : decide (((xs.length : Nat) : Int) ≤ 3) with
      | true => rfl
      | false => exact absurd (by rw [q]; rfl) h2
    have good : ∀ H', Same H H' → Q (match badFrom [] xs with
        | some i => .int (i : Nat)
        | none => .non) H' := by
      intro H' e
      have q := k H' e
      unfold dueV at q
      rw [h1, h2] at q
      exact q
    refine ⟨_, rfl, a, xs, rfl, ha.seqA, fun J G w hG => ?_⟩
    refine for_it w (fun i σ H' => ∃ (av nv : Option V), σ = [some (.ref a), av, nv] ∧ Same H H' ∧ badFrom [] xs = badFrom (xs.take i) (xs.drop i) ∧ ∀ x ∈ xs.take i, wordV x = true)
      ⟨none, none, rfl, Same.refl _, by rw [List.take_zero, List.drop_zero], by simp⟩ (fun i σ H' _ ⟨_, _, _, R, _⟩ => hG H' R) ?_ ?_
    · rintro i x σ H1 H2 hi ⟨av, nv, rfl, R, hb, hw⟩ ⟨t, k1, x1, rfl, nt, rfl, hk, hx1⟩
      cases hk
      have hx1 : xs[i]? = some x1 := hx1
      refine ⟨t, _, rfl, .inl (.inl upd_same), rfl, ?_⟩
      refine ⟨_, _, rfl, _, _, rfl, rfl, ?_⟩
      have R1 := same_new (o := .tup [V.int (i : Nat), x1]) R nt
      obtain ⟨t1, ht1, hz1⟩ := (hx x1 (List.mem_of_getElem? hx1)).same R1
      have hd : xs.drop i = x1 :: xs.drop (i + 1) := by
        obtain ⟨hlt, e⟩ := List.getElem?_eq_some_iff.mp hx1
        rw [← e]
        exact List.drop_eq_getElem_cons hlt
      have hlt : i < xs.length := (List.getElem?_eq_some_iff.mp hx1).1
      have htl : (xs.take i).length = i := by
        rw [List.length_take]
        omega
      have hit : (!(wordV x1) || inV x1 (xs.take i)) = true → badFrom [] xs = some i := by
        intro e
        rw [hb, hd]
        show (if (!(wordV x1) || inV x1 (xs.take i)) = true then some (xs.take i).length else _) = some i
        rw [if_pos e, htl]
      have mis : (!(wordV x1) || inV x1 (xs.take i)) = false → badFrom [] xs = badFrom (xs.take (i + 1)) (xs.drop (i + 1)) := by
        intro e
        rw [hb, hd]
        show (if (!(wordV x1) || inV x1 (xs.take i)) = true then some (xs.take i).length else _) = _
        rw [if_neg (by rw [e]; decide), ← take_snoc hx1]
      refine ⟨_, rfl, x1, t1, rfl, ht1, hz1, fun H3 R3 => ?_⟩
      have RH := R1.trans R3
      refine ⟨_, rfl, ite2 (fun h3 => ?_) (fun h3 => ?_)⟩
      · refine iteT ⟨_, rfl, ?_⟩
        have q := good H3 RH
        rw [hit (by rw [h3]; rfl)] at q
        exact q
      · have hw1 : wordV x1 = true := by
          cases q : wordV x1 with
          | true => rfl
          | false => exact absurd (by rw [q]; rfl) h3
        refine ⟨_, rfl, _, rfl, _, rfl, _, rfl, a, xs, rfl, ha.seqA.same RH, fun p H4 S4 hp4 => ?_⟩
        refine ⟨p, _, rfl, hp4, word_flat hw1, ?_, _, rfl, ?_⟩
        · rw [cut_take]
          exact List.all_eq_true.mpr fun y hy => word_flat (hw y hy)
        · rw [cut_take]
          refine ite2 (fun h4 => ?_) (fun h4 => ?_)
          · refine ⟨_, rfl, ?_⟩
            have q := good _ (RH.trans S4)
            rw [hit (by rw [show inV x1 (xs.take i) = true from h4, Bool.or_true])] at q
            exact q
          · have h5 : inV x1 (xs.take i) = false := by
              rw [← Bool.not_eq_true]
              exact h4
            refine ⟨_, _, rfl, RH.trans S4, mis (by rw [hw1, h5]; rfl), fun y hy => ?_⟩
            rw [take_snoc hx1] at hy
            rcases List.mem_append.mp hy with hy | hy
            · exact hw y hy
            · rw [List.mem_singleton.mp hy]
              exact hw1
    · rintro σ H' ⟨av, nv, rfl, R, hb, hw⟩
      have q := good H' R
      rw [hb, List.drop_length] at q
      exact q

theorem sc_copied : FnScope ["thing", "part", "key"] ["thing"] (defScope s_copied) := ⟨rfl, rfl, rfl, by decide +kernel, rfl, by decide +kernel, by decide +kernel⟩
theorem ok_copied (F : FnP K "copied" s_copied f fd) (T : Free mg) : FnOk P w K mg base CX0 1 f fd ["thing"] spCopied := by
  refine F.ok sc_copied (fun vs H Q E h => ?_) (fun cdv A outer s H vs Q E hr h => ⟨_, PSs.nox (pss_cons (ps_if (pt_val (pe_callB call_isi (by rfl) T.isinstance boot_isinstance (pa_cons (pv 0) (pa_cons (pe_bltn (v := .ty "list") (by rfl) T.list boot_list rfl) pa_nil))))
 (pss_one ps_never)
 pss_nil)
 (pss_cons (ps_if (pt_val (pe_callB call_isi (by rfl) T.isinstance boot_isinstance (pa_cons (pv 0) (pa_cons (pe_bltn (v := .ty "tuple") (by rfl) T.tuple boot_tuple rfl) pa_nil))))
 (pss_one ps_never)
 pss_nil)
 (pss_cons (ps_if (pt_val (pe_callB call_isi (by rfl) T.isinstance boot_isinstance (pa_cons (pv 0) (pa_cons (pe_bltn (v := .ty "dict") (by rfl) T.dict boot_dict rfl) pa_nil))))
 (pss_one ps_never)
 pss_nil)
 (pss_one (ps_ret (pv 0)))))), ?_⟩)
  · obtain ⟨v, t, rfl, _⟩ := h
    rfl
  · obtain ⟨v, t, rfl, ht, n1, n2, k⟩ := h
    refine ⟨_, rfl, _, _, _, _, _, rfl, .ty _, kd_ok ht, kit_list t, _, rfl, ?_⟩
    rw [decide_eq_false n1]
    refine iteF ?_
    refine ⟨_, rfl, _, _, _, _, _, rfl, .ty _, kd_ok ht, kit_tuple t, _, rfl, ?_⟩
    rw [decide_eq_false n2]
    refine iteF ?_
    refine ⟨_, rfl, _, _, _, _, _, rfl, .ty _, kd_ok ht, kit_dict t, _, rfl, iteF ?_⟩
    exact ⟨_, rfl, k⟩
theorem sc_BadTableinit : FnScope ["self", "at"] ["self", "at"] (defScope s_BadTableinit) := ⟨rfl, rfl, rfl, by decide +kernel, rfl, by decide +kernel, by decide +kernel⟩
theorem ok_BadTableinit {B fc : Addr} {fdc : FuncData} (F : FnM K "__init__" "BadTable.__init__" s_BadTableinit f fd) (T : Free mg) (BI : BaseI K B) (gE : mg "EmptyfiltersError" = some (.ref B)) (O : OexC K C) (nA : PySem.W.findIn K (.ref C) "at" = some none)
    (c_copied : Cal P w K mg base CX0 1 "copied" fc fdc ["thing"] spCopied) : FnOk P w K mg base CX0 2 f fd ["self", "at"] (spErrAt C) := by
  refine F.ok sc_BadTableinit (fun vs H Q E h => ?_) (fun cdv A outer s H vs Q E hr h => ⟨_, PSs.nox (pss_cons (ps_expr (pe_binit BI (by rfl) gE (pa_cons (pv 0) (pa_cons (pe_joined (.cons pe_str (.cons (pe_fmt (pv 1)) .nil))) pa_nil))))
 (pss_one (ps_ost (pv 0) (pe_cal c_copied (hr.mono (by decide)) (pa_cons (pv 1) pa_nil))))), ?_⟩)
  · obtain ⟨a, i, rfl, _⟩ := h
    rfl
  · obtain ⟨a, i, rfl, ha, i0, i2, k⟩ := h
    have h1 : i.natAbs.log2 < 1920 ∧ ((Str.empty ++ "no columns of a table: at ") ++ toString i : Str).length ≤ 1000 := by
      have e : i = -1 ∨ i = 0 ∨ i = 1 ∨ i = 2 := by omega
      rcases e with rfl | rfl | rfl | rfl <;> exact ⟨by decide +kernel, by decide +kernel⟩
    refine ⟨_, rfl, _, rfl, (by decide), _, rfl, .inr ⟨i, rfl, h1.1, _, rfl, Nat.le_of_lt (small1000 h1.2), a, C, [_], rfl, (by show 1 ≤ 1000; decide), O, ha, ?_⟩⟩
    exact ⟨_, rfl, _, .int, rfl, rfl, nofun, nofun, _, rfl, a, C, rfl, O, nA, .inl ⟨ha, k⟩⟩
theorem sc_Tableinit : FnScope ["self", "columns", "at"] ["self", "columns"] (defScope s_Tableinit) := ⟨rfl, rfl, rfl, by decide +kernel, rfl, by decide +kernel, by decide +kernel⟩
theorem ok_TableinitX {aK fb CB fe : Addr} {fdb fde : FuncData} (F : FnM K "__init__" "Table.__init__" s_Tableinit f fd) (T : Txt K mg aK) (TC : TxC K C) (c_first_bad : Cal P w K mg base CX0 2 "first_bad" fb fdb ["names"] (spFirstBadA K))
    (c_BadTable : CalE P w K mg base CX0 2 "BadTable" CB fe fde ["self", "at"] (spErrAt CB)) : FnOk P w K mg base (L2.CX P w) 4 f fd ["self", "columns"] (spTableX K C CB) := by
  refine F.ok sc_Tableinit (fun vs H Q E h => ?_) (fun cdv A outer s H vs Q E hr h => ⟨_, (pss_cons (ps_set (i := 2) sc_Tableinit.nd rfl (Or.inl rfl) (pe_cal c_first_bad (hr.mono (by decide)) (pa_cons (pv 1) pa_nil)))
 (pss_cons (ps_if (pt_cmpR op_notN (pv 2) pe_non (nomark _))
 (pss_one (ps_raiseE c_BadTable (hr.mono (by decide)) rfl (takes_of rfl rfl rfl rfl) (pa_cons (pv 2) pa_nil)))
 pss_nil)
 (pss_one (ps_fld (pv 0) (pe_callTy call_tuple_of (by rfl) T.tuple boot_tuple (pa_cons (pv 1) pa_nil)) rfl)))), ?_⟩)
  · obtain ⟨p, a, dx, xs, rfl, _⟩ := h
    rfl
  · obtain ⟨p, a, dx, xs, rfl, hp, ha, hlen, hx, k, kE⟩ := h
    refine ⟨_, rfl, a, xs, rfl, ha, hlen, hx, fun H1 R1 => ?_⟩
    rcases due_cases xs with hd | ⟨i, hd, i0, i2⟩
    · rw [hd]
      refine ⟨_, rfl, rfl, _, rfl, iteNS rfl ?_⟩
      have k := k hd
      have hp1 := R1 _ _ hp
      rcases ha with ha | ha
      · refine ⟨_, rfl, a, xs, rfl, .inl ⟨R1.seq ha, fun t nt => ?_⟩⟩
        have npt := ne_of_none hp1 nt
        refine ⟨_, rfl, p, C, dx, [], rfl, (by rw [upd_ne npt]; exact hp1), TC.cl, TC.nC, (by show 0 < 1000; decide), ?_⟩
        refine k _ (fun q o n e => ?_) ⟨dx, t, upd_same, by rw [upd_ne npt.symm, upd_same]⟩
        rw [upd_ne n, upd_ne (ne_of_none (R1 _ _ e) nt)]
        exact R1 _ _ e
      · have ha1 := R1 _ _ ha
        refine ⟨_, rfl, a, xs, rfl, .inr ⟨SqT.of ha1, ?_⟩⟩
        refine ⟨_, rfl, p, C, dx, [], rfl, hp1, TC.cl, TC.nC, (by show 0 < 1000; decide), ?_⟩
        refine k _ (fun q o n e => ?_) ⟨dx, a, upd_same, by rw [upd_ne (ne_of ha1 hp1 nofun)]; exact ha1⟩
        rw [upd_ne n]
        exact R1 _ _ e
    · rw [hd]
      refine ⟨_, rfl, rfl, _, rfl, ?_⟩
      rw [decide_eq_false (show ¬ (V.int i = V.non) from nofun)]
      refine iteT ?_
      refine ⟨_, rfl, (by show 1 ≤ 1000; decide), fun x nx => ⟨x, i, rfl, upd_same, i0, i2, fun d nd ndx => ?_⟩⟩
      rw [upd_ne ndx] at nd
      refine ⟨rfl, d, [("at", .int i)], upd_same, by rw [upd_ne ndx, upd_same], nd, kE i hd d _ (fun q o e => ?_) upd_same⟩
      have e1 := R1 _ _ e
      rw [upd_ne (ne_of_none e1 nd), del_ne (ne_of_none e1 nx), upd_ne (ne_of_none e1 nx), upd_ne (ne_of_none e1 nd), upd_ne (ne_of_none e1 nx)]
      exact e1

end
end K02

namespace K02
open PySem PySem.Spec PyProof.Rows L2 Own
structure TxE (K : PySem.W.Frag) (mg : Str → Option Value) (B CB CC CF CR : Addr) : Prop extends Free mg where
  g_EmptyfiltersError : mg "EmptyfiltersError" = some (.ref B)
  g_BadTable : mg "BadTable" = some (.ref CB)
  g_BadCondition : mg "BadCondition" = some (.ref CC)
  g_BadForm : mg "BadForm" = some (.ref CF)
  g_BadRows : mg "BadRows" = some (.ref CR)
  own : PySem.W.exmOne K (.ref CB) (.ref CB) = some true
  inB : PySem.W.kitOne K (.ref CB) (.ref B) = some true
  notC : PySem.W.kitAny K (.ref CB) [.ref CC, .ref CF, .ref CR] = some false
  exc : ExcC K CB
def spTold (K : PySem.W.Frag) : Sp := fun vs H Q _ => ∃ (a : Addr) (xs : List V), vs = [.ref a] ∧ SqB K H a xs ∧ xs.length ≤ 1000 ∧ (∀ x ∈ xs, Ent H x) ∧ ∀ H', Same H H' → Q (dueV xs) H'
section
variable {P : Program} {w : World} {K : PySem.W.Frag} {mg : Str → Option Value} {base : Heap} {f C : Addr} {fd : FuncData}
theorem sc_law_told : FnScope ["entries", "e"] ["entries"] (defScope s_law_told) := ⟨rfl, rfl, rfl, by decide +kernel, rfl, by decide +kernel, by decide +kernel⟩
theorem ok_told {B CB CC CF CR fi : Addr} {fdi : FuncData} (F : FnP K "_law_told" s_law_told f fd) (T : TxE K mg B CB CC CF CR) (XF : XfC K CB) (nA : PySem.W.findIn K (.ref CB) "at" = some none)
    (c_Table : CalI P w K mg base (L2.CX P w) 4 "Table" C fi fdi ["self", "columns"] (spTableX K C CB)) : FnOk P w K mg base CX0 6 f fd ["entries"] (spTold K) := by
  refine F.ok sc_law_told (fun vs H Q E h => ?_) (fun cdv A outer s H vs Q E hr h => ⟨_, PSs.nox (pss_cons (ps_try_as (i := 1) rfl rfl sc_law_told.nd rfl rfl ⟨rfl, by decide, .inl T.g_BadTable⟩ takes0 (fun W pn xe tk _ => (pss_one (ps_expr (pe_mkrX c_Table (hr.mono (by decide)) tk (pa_cons (pv 0) pa_nil))))) (fun a oe cls d pn hz hf => (pss_cons (ps_if (PW.pt (pw_and (pt_val (pe_callB (call_isX hz hf) (by rfl) T.isinstance boot_isinstance (pa_cons (pv 1) (pa_cons (pe_glob (v := .ref _) (by rfl) T.g_EmptyfiltersError rfl) pa_nil)))) (pw_and1 (pt_not (pt_val (pe_callB (call_isXT hz hf) (by rfl) T.isinstance boot_isinstance (pa_cons (pv 1) (pa_cons (pe_tup (pa_cons (pe_glob (v := .ref _) (by rfl) T.g_BadCondition rfl) (pa_cons (pe_glob (v := .ref _) (by rfl) T.g_BadForm rfl) (pa_cons (pe_glob (v := .ref _) (by rfl) T.g_BadRows rfl) pa_nil)))) pa_nil))))))))
 (pss_one (ps_ret (pe_xf XF nA hz hf (pv 1))))
 pss_nil)
 (pss_one (ps_ret pe_str)))))
 (pss_one (ps_ret pe_non))), ?_⟩)
  · obtain ⟨a, xs, rfl, _⟩ := h
    rfl
  · obtain ⟨a, xs, rfl, ha, hlen, hx, k⟩ := h
    refine ⟨_, rfl, ?_⟩
    refine fun x dx nx ndx nxd => ?_
    have S : Same H (upd (upd H dx (.own x)) x (.ins C dx [])) := fun q o e => by
      rw [upd_ne (ne_of_none e nx), upd_ne (ne_of_none e ndx)]
      exact e
    refine ⟨x, a, dx, xs, rfl, upd_same, ha.same S, hlen, fun y hy => (hx y hy).same S, fun hd H' B hT => ⟨rfl, ?_⟩, fun i hd d H' SE hd' => ?_⟩
    · have q := k H' (made_same nx ndx B)
      rw [hd] at q
      exact q
    · have q := k H' (S.trans SE)
      rw [hd] at q
      refine ⟨true, T.own, fun _ a' na => ?_, nofun⟩
      refine ⟨_, rfl, CB, d, _, _, _, _, rfl, rfl, hd', T.exc, rfl, .own _, T.inB, _, rfl, iteT ?_⟩
      refine ⟨_, rfl, (by show 3 ≤ sizeLine; decide), fun tp ntp => ?_⟩
      have ndt := ne_of_none hd' ntp
      have S3 := same_newH (o := .tup [.ref CC, .ref CF, .ref CR]) ntp
      refine ⟨CB, d, _, tp, _, [.ref CC, .ref CF, .ref CR], false, rfl, rfl, S3 _ _ hd', T.exc, rfl, upd_same, .cons (.own _) (.cons (.own _) (.cons (.own _) .nil)), T.notC, _, rfl, iteT ?_⟩
      have q := k _ ((S.trans SE).trans S3)
      rw [hd] at q
      exact ⟨_, rfl, rfl, rfl, d, _, .int i, rfl, S3 _ _ hd', rfl, q⟩
end
end K02

namespace K02
open PySem PySem.Spec PyProof.Rows L2 Own
def kpL : List Str := ["def", "if", "else", "for", "in", "break", "skip", "refuse", "take", "guard", "blank", "every", "none", "any", "all", "pick", "given", "and", "or", "not", "true", "false", "self"]
theorem kp_perm : kpL.Perm keptL := by decide +kernel
def spKept : Sp := fun vs H Q _ => vs = [] ∧ ∀ (l : Addr) (H' : Hp), Same H H' → H l = none → H' l = some (.lst (kpL.map V.str)) → Q (.ref l) H'
def spDue (K : PySem.W.Frag) : Sp := fun vs H Q _ => ∃ (a : Addr) (xs : List V), vs = [.ref a] ∧ SqL K H a xs ∧ xs.length ≤ 1000 ∧ (∀ x ∈ xs, Ent H x) ∧ ∀ H', Same H H' → Q (dueV xs) H'
theorem abc_at : ∀ i : Nat, i < 26 → (⟨#[97 + i]⟩ : Str) ∈ abcL := by decide +kernel
theorem abc_cps : ∀ z ∈ abcL, ∃ c, z = ⟨#[c]⟩ ∧ lowB c = true := by
  have h : ∀ z ∈ abcL, z = ⟨#[z.cps.getD 0 0]⟩ ∧ lowB (z.cps.getD 0 0) = true := by decide +kernel
  exact fun z hz => ⟨_, h z hz⟩
theorem in_abc (c : Nat) : inV (.str ⟨#[c]⟩) (abcL.map V.str) = lowB c := by
  rw [inV_str]
  cases h : lowB c with
  | true =>
    unfold lowB at h
    simp only [Bool.and_eq_true, decide_eq_true_eq] at h
    have q := abc_at (c - 97) (by omega)
    rw [show 97 + (c - 97) = c by omega] at q
    exact decide_eq_true q
  | false =>
    refine decide_eq_false fun m => ?_
    obtain ⟨d, e, hd⟩ := abc_cps _ m
    cases e
    rw [h] at hd
    cases hd
theorem in_kp (z : Str) : inV (.str z) (kpL.map V.str) = inV (.str z) (keptL.map V.str) := by
  rw [inV_str, inV_str]
  exact decide_eq_decide.mpr kp_perm.mem_iff
section
variable {P : Program} {w : World} {K : PySem.W.Frag} {mg : Str → Option Value} {base : Heap} {f C : Addr} {fd : FuncData}
theorem sc_law_kept : FnScope ["kept"] [] (defScope s_law_kept) := ⟨rfl, rfl, rfl, by decide +kernel, rfl, by decide +kernel, by decide +kernel⟩
theorem ok_kept (F : FnP K "_law_kept" s_law_kept f fd) (T : Free mg) : FnOk P w K mg base CX0 1 f fd [] spKept := by
  refine F.ok sc_law_kept (fun vs H Q E h => ?_) (fun cdv A outer s H vs Q E hr h => ⟨_, PSs.nox (pss_cons (ps_set (i := 0) sc_law_kept.nd rfl (Or.inl rfl) (pe_lst (pa_cons pe_str (pa_cons pe_str (pa_cons pe_str (pa_cons pe_str (pa_cons pe_str (pa_cons pe_str (pa_cons pe_str (pa_cons pe_str (pa_cons pe_str (pa_cons pe_str (pa_cons pe_str (pa_cons pe_str (pa_cons pe_str pa_nil)))))))))))))))
 (pss_one (ps_ret (pe_op op_cat (pv 0) (pe_lst (pa_cons pe_str (pa_cons pe_str (pa_cons pe_str (pa_cons pe_str (pa_cons pe_str (pa_cons pe_str (pa_cons pe_str (pa_cons pe_str (pa_cons pe_str (pa_cons pe_str pa_nil))))))))))))))), ?_⟩)
  · obtain ⟨rfl, _⟩ := h
    rfl
  · obtain ⟨rfl, k⟩ := h
    refine ⟨(by show 13 ≤ sizeLine; decide), fun p1 n1 => ?_⟩
    refine ⟨_, rfl, (by show 10 ≤ sizeLine; decide), fun p2 n2 => ?_⟩
    have S1 := same_newH (o := .lst [V.str "def", V.str "if", V.str "else", V.str "for", V.str "in", V.str "break", V.str "skip", V.str "refuse", V.str "take", V.str "guard", V.str "blank", V.str "every", V.str "none"]) n1
    have S2 := same_newH (o := .lst [V.str "any", V.str "all", V.str "pick", V.str "given", V.str "and", V.str "or", V.str "not", V.str "true", V.str "false", V.str "self"]) n2
    refine ⟨p1, p2, _, _, rfl, rfl, S2 _ _ upd_same, upd_same, (by show 13 + 10 ≤ sizeLine; decide), fun p n3 => ?_⟩
    exact k p _ ((S1.trans S2).trans (same_newH (o := .lst (kpL.map V.str)) n3)) ((S1.trans S2).free n3) upd_same
theorem sc_law_is_word : FnScope ["thing", "sign"] ["thing"] (defScope s_law_is_word) := ⟨rfl, rfl, rfl, by decide +kernel, rfl, by decide +kernel, by decide +kernel⟩
theorem ok_lword {fk : Addr} {fdk : FuncData} (F : FnP K "_law_is_word" s_law_is_word f fd) (T : Free mg) (c_law_kept : Cal P w K mg base CX0 1 "_law_kept" fk fdk [] spKept) : FnOk P w K mg base CX0 2 f fd ["thing"] spIsWord := by
  refine F.ok sc_law_is_word (fun vs H Q E h => ?_) (fun cdv A outer s H vs Q E hr h => ⟨_, PSs.nox (pss_cons (ps_if (PW.pt (pw_or (pt_not (pt_val (pe_callB call_isi (by rfl) T.isinstance boot_isinstance (pa_cons (pv 0) (pa_cons (pe_bltn (v := .ty "str") (by rfl) T.str boot_str rfl) pa_nil))))) (pw_or (pt_not (pt_chain op_le op_le pe_int (pe_callB call_len_str (by rfl) T.len boot_len (pa_cons (pv 0) pa_nil)) pe_int)) (pw_or1 (pt_cmpR op_in_seq (pv 0) (pe_cal0 c_law_kept (hr.mono (by decide))) (by rfl))))))
 (pss_one (ps_ret pe_bl))
 pss_nil)
 (pss_one (ps_ret (pe_callB (cr_all rfl) (by rfl) T.all boot_all (pa_cons (pe_lc (own := [("sign", 1)]) rfl sc_law_is_word.nd (pi_str (pv 0)) (blkOk_by (N := ["thing", "sign"]) (sc := defScope s_law_is_word) (by decide +kernel)) (fun _ _ _ _ _ => (pg_name (i := 1) sc_law_is_word.nd rfl (Or.inl rfl))) (fun _ _ _ _ _ => pts_nil) (fun _ _ _ _ _ => (pe_cmpR (show OpR _ (compareOp .In) (rIn K false) from op_in_seq) (pv 1) (pe_callTy (call_list_str rfl) (by rfl) T.list boot_list (pa_cons pe_str pa_nil)) (by rfl)))) pa_nil))))), ?_⟩)
  · obtain ⟨v, t, rfl, _⟩ := h
    rfl
  · obtain ⟨v, t, rfl, ht, hz, k⟩ := h
    refine ⟨_, rfl, _, _, _, _, _, rfl, .ty _, kd_ok ht, kit_str t, _, rfl, ?_⟩
    by_cases e : t = .str
    · subst e
      obtain ⟨z, rfl⟩ := kd_str ht
      have hlen := hz z rfl
      have k0 : ∀ H', Same H H' → Q (V.bl (wordB z)) H' := k
      have no : ∀ H', Same H H' → wordB z = false → Q (.bl false) H' := fun H' s h => by
        have q := k0 H' s
        rw [h] at q
        exact q
      refine iteNS rfl ?_
      refine ⟨_, rfl, z, rfl, Nat.le_of_lt (small1000 hlen), _, _, rfl, rfl, _, rfl, ?_⟩
      refine ite2 (fun h1 => ?_) (fun h1 => ?_)
      rotate_left
      · rw [Bool.not_eq_true] at h1
        refine ⟨_, rfl, iteT ?_⟩
        exact no H (Same.refl H) (by unfold wordB; rw [h1, Bool.false_and, Bool.false_and, Bool.and_false])
      refine ⟨_, _, rfl, rfl, _, rfl, ?_⟩
      refine ite2 (fun h2 => ?_) (fun h2 => ?_)
      · rw [Bool.not_eq_true'] at h2
        exact no H (Same.refl H) (by unfold wordB; rw [h2, Bool.and_false, Bool.false_and, Bool.and_false])
      have h2 : decide (((z.length : Nat) : Int) ≤ 8) = true := by
        cases q : decide (((z.length : Nat) : Int) ≤ 8) with
        | true => rfl
        | false => exact absurd (by rw [q]; rfl) h2
      refine ⟨_, rfl, rfl, fun l H1 S1 nl hl => ?_⟩
      refine ⟨l, _, rfl, .inl (SqL.of hl), rfl, flat_strs _, _, rfl, ?_⟩
      refine ite2 (fun h3 => ?_) (fun h3 => ?_)
      · have h3 : inV (.str z) (kpL.map V.str) = true := h3
        rw [in_kp] at h3
        exact no H1 S1 (by unfold wordB; rw [h3]; rfl)
      have h4 : inV (.str z) (keptL.map V.str) = false := by
        rw [← in_kp, ← Bool.not_eq_true]
        exact h3
      refine ⟨_, rfl, z, rfl, fun D nD => ?_⟩
      refine lc_it walk_str (fun i H' => Same H1 H' ∧ H' D = some (.lst (((z.cps.toList.take i).map lowB).map V.bl))) ⟨same_newH nD, upd_same⟩ (fun i H' _ e => True.intro) (fun i x H' H2 hi e y => ?_) (fun H' e => ?_)
      · obtain ⟨SD, hD⟩ := e
        obtain ⟨rfl, c, hc, rfl⟩ := y
        have hc2 : z.cps.toList[i]? = some c := by
          rw [Array.getElem?_toList]
          exact hc
        refine ⟨rfl, _, rfl, _, rfl, (by decide), fun l2 nl2 => ?_⟩
        rw [abc_signs]
        have hD2 := (same_newH (o := .lst (abcL.map V.str)) nl2) _ _ hD
        refine ⟨l2, _, rfl, .inl (SqL.of upd_same), rfl, flat_strs _, _, hD2, small1000 ?_, put_same (SD.trans (same_newH nl2)) nD, ?_⟩
        · simp
          have : z.cps.size = z.length := rfl
          omega
        · rw [if_neg (by decide), in_abc, upd_same, map_take_snoc lowB hc2, List.map_append] <;> rfl
      · obtain ⟨SD, hD⟩ := e
        refine ⟨D, z.cps.toList.map lowB, rfl, SqL.of (by rw [hD, List.take_of_length_le (by simp)]), ?_⟩
        rw [all_id_map]
        have q := k0 H' (S1.trans SD)
        unfold wordB at q
        rw [h1, h2, h4] at q
        exact q
    · rw [decide_eq_false e]
      refine iteT ?_
      have q := k H (Same.refl H)
      rw [wordV_not ht e] at q
      exact q
theorem sc_law_due : FnScope ["entries", "at"] ["entries"] (defScope s_law_due) := ⟨rfl, rfl, rfl, by decide +kernel, rfl, by decide +kernel, by decide +kernel⟩
theorem ok_due {fw : Addr} {fdw : FuncData} (F : FnP K "_law_due" s_law_due f fd) (T : Free mg) (c_law_is_word : Cal P w K mg base CX0 2 "_law_is_word" fw fdw ["thing"] spIsWord) : FnOk P w K mg base CX0 3 f fd ["entries"] (spDue K) := by
  refine F.ok sc_law_due (fun vs H Q E h => ?_) (fun cdv A outer s H vs Q E hr h => ⟨_, PSs.nox (pss_cons (ps_if (pt_not (pt_chain op_le op_le pe_int (pe_callB call_len_seq (by rfl) T.len boot_len (pa_cons (pv 0) pa_nil)) pe_int))
 (pss_one (ps_ret (pe_un un_neg pe_int)))
 pss_nil)
 (pss_cons (ps_for PassesOwn.never rfl (pi_range1 (by rfl) T.range (pa_cons (pe_callB call_len_seq (by rfl) T.len boot_len (pa_cons (pv 0) pa_nil)) pa_nil)) (pg_name (i := 1) sc_law_due.nd rfl (Or.inl rfl))
 (pss_one (ps_if (PW.pt (pw_or (pt_not (pt_val (pe_cal c_law_is_word (hr.mono (by decide)) (pa_cons (pe_ix ix_list (pv 0) (pv 1) (fun _ _ => rfl)) pa_nil)))) (pw_or1 (pt_cmpR op_in_seq (pe_ix ix_list (pv 0) (pv 1) (fun _ _ => rfl)) (pe_slice sl_list (pv 0) po_none (po_some (pv 1))) (by rfl)))))
 (pss_one (ps_ret (pv 1)))
 pss_nil)))
 (pss_one (ps_ret pe_non)))), ?_⟩)
  · obtain ⟨a, xs, rfl, _⟩ := h
    rfl
  · obtain ⟨a, xs, rfl, ha, hlen, hx, k⟩ := h
    have bad : (decide ((1 : Int) ≤ (xs.length : Nat)) && decide (((xs.length : Nat) : Int) ≤ 3)) = false → Q (.int (-1)) H := by
      intro e
      have q := k H (Same.refl H)
      unfold dueV at q
      rw [e] at q
      exact q
    refine ⟨_, rfl, a, xs, rfl, .inl ha, _, _, rfl, rfl, _, rfl, ?_⟩
    refine ite2 (fun h1 => ?_) (fun h1 => ?_)
    rotate_left
    · rw [Bool.not_eq_true] at h1
      refine ⟨_, rfl, iteT ?_⟩
      exact ⟨_, rfl, bad (by rw [h1]; rfl)⟩
    refine ⟨_, _, rfl, rfl, _, rfl, ?_⟩
    refine ite2 (fun h2 => ?_) (fun h2 => ?_)
    · rw [Bool.not_eq_true'] at h2
      exact ⟨_, rfl, bad (by rw [h1, h2]; rfl)⟩
    have h2 : decide (((xs.length : Nat) : Int) ≤ 3) = true := by
      cases q : decide (((xs.length : Nat) : Int) ≤ 3) with
      | true => rfl
      | false => exact absurd (by rw [q]; rfl) h2
    have good : ∀ H', Same H H' → Q (match badFrom [] xs with
        | some i => .int (i : Nat)
        | none => .non) H' := by
      intro H' e
      have q := k H' e
      unfold dueV at q
      rw [h1, h2] at q
      exact q
    refine ⟨_, rfl, a, xs, rfl, .inl ha, _, rfl, by omega, by omega, ?_⟩
    refine for_range (fun i σ H' => ∃ (av : Option V), σ = [some (.ref a), av] ∧ Same H H' ∧ badFrom [] xs = badFrom (xs.take i) (xs.drop i) ∧ ∀ x ∈ xs.take i, wordV x = true)
      ⟨none, rfl, Same.refl _, by rw [List.take_zero, List.drop_zero], by simp⟩ ?_ ?_
    · rintro i σ H1 hi ⟨av, rfl, R, hb, hw⟩
      have hlt : i < xs.length := by omega
      obtain ⟨x1, hx1⟩ : ∃ x1, xs[i]? = some x1 := ⟨_, List.getElem?_eq_getElem hlt⟩
      obtain ⟨t1, ht1, hz1⟩ := (hx x1 (List.mem_of_getElem? hx1)).same R
      have hat : atI xs (0 + (i : Int)) = some x1 := by
        rw [Int.zero_add]
        exact atI_nat hx1
      have cut0 : cutV xs none (some (0 + (i : Int))) = xs.take i := by
        rw [Int.zero_add]
        exact cut_take xs i
      have hd : xs.drop i = x1 :: xs.drop (i + 1) := by
        obtain ⟨hlt, e⟩ := List.getElem?_eq_some_iff.mp hx1
        rw [← e]
        exact List.drop_eq_getElem_cons hlt
      have htl : (xs.take i).length = i := by
        rw [List.length_take]
        omega
      have hit : (!(wordV x1) || inV x1 (xs.take i)) = true → badFrom [] xs = some i := by
        intro e
        rw [hb, hd]
        show (if (!(wordV x1) || inV x1 (xs.take i)) = true then some (xs.take i).length else _) = some i
        rw [if_pos e, htl]
      have mis : (!(wordV x1) || inV x1 (xs.take i)) = false → badFrom [] xs = badFrom (xs.take (i + 1)) (xs.drop (i + 1)) := by
        intro e
        rw [hb, hd]
        show (if (!(wordV x1) || inV x1 (xs.take i)) = true then some (xs.take i).length else _) = _
        rw [if_neg (by rw [e]; decide), ← take_snoc hx1]
      have told : ∀ H', Same H H' → (!(wordV x1) || inV x1 (xs.take i)) = true → Q (.int (0 + (i : Int))) H' := fun H' s e => by
        have q := good H' s
        rw [hit e] at q
        rw [Int.zero_add]
        exact q
      refine ⟨_, rfl, _, rfl, a, xs, _, x1, rfl, rfl, R.seq ha, hat, x1, t1, rfl, ht1, hz1, fun H3 R3 => ?_⟩
      have RH := R.trans R3
      refine ⟨_, rfl, ite2 (fun h3 => ?_) (fun h3 => ?_)⟩
      · exact iteT ⟨_, rfl, told H3 RH (by rw [h3]; rfl)⟩
      · have hw1 : wordV x1 = true := by
          cases q : wordV x1 with
          | true => rfl
          | false => exact absurd (by rw [q]; rfl) h3
        refine ⟨_, rfl, _, rfl, a, xs, _, x1, rfl, rfl, RH.seq ha, hat, _, rfl, _, rfl, _, rfl, a, xs, rfl, RH.seq ha, fun p np => ?_⟩
        have S4 := same_newH (o := .lst (cutV xs none (some (0 + (i : Int))))) np
        refine ⟨p, _, rfl, .inl (SqL.of upd_same), word_flat hw1, ?_, _, rfl, ?_⟩
        · rw [cut0]
          exact List.all_eq_true.mpr fun y hy => word_flat (hw y hy)
        · rw [cut0] at S4 ⊢
          refine ite2 (fun h4 => ?_) (fun h4 => ?_)
          · exact ⟨_, rfl, told _ (RH.trans S4) (by rw [show inV x1 (xs.take i) = true from h4, Bool.or_true])⟩
          · have h5 : inV x1 (xs.take i) = false := by
              rw [← Bool.not_eq_true]
              exact h4
            refine ⟨_, rfl, RH.trans S4, mis (by rw [hw1, h5]; rfl), fun y hy => ?_⟩
            rw [take_snoc hx1] at hy
            rcases List.mem_append.mp hy with hy | hy
            · exact hw y hy
            · rw [List.mem_singleton.mp hy]
              exact hw1
    · rintro σ H' ⟨av, rfl, R, hb, hw⟩
      have q := good H' R
      rw [hb, List.drop_of_length_le (by omega)] at q
      exact q
end
end K02

namespace Own
open PySem PySem.Spec PyProof.Rows L2
/-- all but these stays -/
def Buts (bs : List Addr) (H H' : Hp) : Prop := ∀ a o, a ∉ bs → H a = some o → H' a = some o
theorem Buts.of_same {bs : List Addr} {H H' : Hp} (s : Same H H') : Buts bs H H' := fun a o _ h => s a o h
theorem Buts.of_but {bs : List Addr} {b : Addr} {H H' : Hp} (s : But b H H') (hb : b ∈ bs) : Buts bs H H' := fun a o n h => s a o (fun e => n (e ▸ hb)) h
theorem Buts.put {bs : List Addr} {l : Addr} {H : Hp} {o : HO} (hl : l ∈ bs) : Buts bs H (upd H l o) := fun a u n h => by
  rw [upd_ne (fun e : a = l => n (by rw [e]; exact hl))]
  exact h
mutual
/-- v stands for the data, on objects that are none of bs -/
def Dq (H : Hp) (bs : List Addr) : PyData → V → Prop
  | .none, v => v = .non
  | .bool x, v => v = .bl x
  | .int i, v => v = .int i
  | .str z, v => v = .str z ∧ z.length ≤ 100
  | .list ds, v => ∃ a xs, v = .ref a ∧ a ∉ bs ∧ H a = some (.lst xs) ∧ DqA H bs ds xs
  | .tuple ds, v => ∃ a xs, v = .ref a ∧ a ∉ bs ∧ H a = some (.tup xs) ∧ DqA H bs ds xs
  | .dict _, _ => False
def DqA (H : Hp) (bs : List Addr) : List PyData → List V → Prop
  | [], xs => xs = []
  | d :: ds, xs => ∃ y ys, xs = y :: ys ∧ Dq H bs d y ∧ DqA H bs ds ys
end
mutual
theorem Dq.dp {K : PySem.W.Frag} {H : Hp} {bs : List Addr} : ∀ (d : PyData) (v : V), Dq H bs d v → Dp K H v d
  | .none, v, h => by
    obtain rfl : v = .non := by simpa only [Dq] using h
    exact .non
  | .bool x, v, h => by
    obtain rfl : v = .bl x := by simpa only [Dq] using h
    exact .bl x
  | .int i, v, h => by
    obtain rfl : v = .int i := by simpa only [Dq] using h
    exact .int i
  | .str z, v, h => by
    obtain ⟨rfl, _⟩ : v = .str z ∧ z.length ≤ 100 := by simpa only [Dq] using h
    exact .str z
  | .list ds, v, h => by
    obtain ⟨a, xs, rfl, _, ha, hx⟩ : ∃ a xs, v = .ref a ∧ a ∉ bs ∧ H a = some (.lst xs) ∧ DqA H bs ds xs := by simpa only [Dq] using h
    exact .lst (SqL.of ha) (DqA.dp ds xs hx)
  | .tuple ds, v, h => by
    obtain ⟨a, xs, rfl, _, ha, hx⟩ : ∃ a xs, v = .ref a ∧ a ∉ bs ∧ H a = some (.tup xs) ∧ DqA H bs ds xs := by simpa only [Dq] using h
    exact .tup (SqT.of ha) (DqA.dp ds xs hx)
  | .dict _, v, h => by
    have h : False := by simpa only [Dq] using h
    exact h.elim
theorem DqA.dp {K : PySem.W.Frag} {H : Hp} {bs : List Addr} : ∀ (ds : List PyData) (xs : List V), DqA H bs ds xs → DpAll K H xs ds
  | [], xs, h => by
    obtain rfl : xs = [] := by simpa only [DqA] using h
    exact .nil
  | d :: ds, xs, h => by
    obtain ⟨y, ys, rfl, h1, h2⟩ : ∃ y ys, xs = y :: ys ∧ Dq H bs d y ∧ DqA H bs ds ys := by simpa only [DqA] using h
    exact .cons (Dq.dp d y h1) (DqA.dp ds ys h2)
end
mutual
theorem Dq.buts {H H' : Hp} {bs : List Addr} (B : Buts bs H H') : ∀ (d : PyData) (v : V), Dq H bs d v → Dq H' bs d v
  | .none, v, h => by simpa only [Dq] using h
  | .bool x, v, h => by simpa only [Dq] using h
  | .int i, v, h => by simpa only [Dq] using h
  | .str z, v, h => by simpa only [Dq] using h
  | .list ds, v, h => by
    obtain ⟨a, xs, rfl, n, ha, hx⟩ : ∃ a xs, v = .ref a ∧ a ∉ bs ∧ H a = some (.lst xs) ∧ DqA H bs ds xs := by simpa only [Dq] using h
    simp only [Dq]
    exact ⟨a, xs, rfl, n, B _ _ n ha, DqA.buts B ds xs hx⟩
  | .tuple ds, v, h => by
    obtain ⟨a, xs, rfl, n, ha, hx⟩ : ∃ a xs, v = .ref a ∧ a ∉ bs ∧ H a = some (.tup xs) ∧ DqA H bs ds xs := by simpa only [Dq] using h
    simp only [Dq]
    exact ⟨a, xs, rfl, n, B _ _ n ha, DqA.buts B ds xs hx⟩
  | .dict _, v, h => by
    have h : False := by simpa only [Dq] using h
    exact h.elim
theorem DqA.buts {H H' : Hp} {bs : List Addr} (B : Buts bs H H') : ∀ (ds : List PyData) (xs : List V), DqA H bs ds xs → DqA H' bs ds xs
  | [], xs, h => by simpa only [DqA] using h
  | d :: ds, xs, h => by
    obtain ⟨y, ys, rfl, h1, h2⟩ : ∃ y ys, xs = y :: ys ∧ Dq H bs d y ∧ DqA H bs ds ys := by simpa only [DqA] using h
    simp only [DqA]
    exact ⟨y, ys, rfl, Dq.buts B d y h1, DqA.buts B ds ys h2⟩
end
theorem Dq.ent {H : Hp} {bs : List Addr} : ∀ {d : PyData} {v : V}, Dq H bs d v → Ent H v
  | .none, v, h => by
    obtain rfl : v = .non := by simpa only [Dq] using h
    exact ⟨_, rfl, nofun⟩
  | .bool x, v, h => by
    obtain rfl : v = .bl x := by simpa only [Dq] using h
    exact ⟨_, rfl, nofun⟩
  | .int i, v, h => by
    obtain rfl : v = .int i := by simpa only [Dq] using h
    exact ⟨_, rfl, nofun⟩
  | .str z, v, h => by
    obtain ⟨rfl, q⟩ : v = .str z ∧ z.length ≤ 100 := by simpa only [Dq] using h
    exact ⟨_, rfl, fun y e => by cases e; omega⟩
  | .list ds, v, h => by
    obtain ⟨a, xs, rfl, n, ha, hx⟩ : ∃ a xs, v = .ref a ∧ a ∉ bs ∧ H a = some (.lst xs) ∧ DqA H bs ds xs := by simpa only [Dq] using h
    exact ⟨_, kd_lst ha, nofun⟩
  | .tuple ds, v, h => by
    obtain ⟨a, xs, rfl, n, ha, hx⟩ : ∃ a xs, v = .ref a ∧ a ∉ bs ∧ H a = some (.tup xs) ∧ DqA H bs ds xs := by simpa only [Dq] using h
    exact ⟨_, kd_tup ha, nofun⟩
  | .dict _, v, h => by
    have h : False := by simpa only [Dq] using h
    exact h.elim
/-! ### small data -/
structure Nice (d : PyData) : Prop where
  lay : d.canLay0 = true
  dep : d.depth ≤ 3
  sh : d.showable = true
  nd : d.hasDict = false
  sz : d.shown.length ≤ 200
theorem nice_word {z : Str} (h : wordB z = true) : Nice (.str z) := by
  obtain ⟨h1, h2, h3⟩ := low_of h
  refine ⟨strOk_low h3, by simp only [PyData.depth]; omega, by simp only [PyData.showable], by simp only [PyData.hasDict], ?_⟩
  have q := StrLaws.reprText_len z fun c hc => by
    have q := h3 c hc
    unfold lowB at q
    simp only [Bool.and_eq_true, decide_eq_true_eq] at q
    omega
  simp only [PyData.shown]
  omega
theorem nice_all : ∀ {ds : List PyData}, (∀ d ∈ ds, Nice d) → PyData.canLayAll0 ds = true ∧ PyData.depthAll ds ≤ 3 ∧ PyData.showableAll ds = true ∧ PyData.hasDictAll ds = false ∧ ((PyData.shownAll ds).map (·.length)).sum ≤ 200 * ds.length ∧ (PyData.shownAll ds).length = ds.length
  | [], _ => ⟨by simp only [PyData.canLayAll0], by simp only [PyData.depthAll]; omega, by simp only [PyData.showableAll], by simp only [PyData.hasDictAll], by simp [PyData.shownAll], by simp [PyData.shownAll]⟩
  | d :: r, h => by
    obtain ⟨h1, h2, h3, h4, h5⟩ := h d (List.mem_cons_self ..)
    obtain ⟨g1, g2, g3, g4, g5, g6⟩ := nice_all (ds := r) fun x hx => h x (List.mem_cons_of_mem _ hx)
    refine ⟨by simp only [PyData.canLayAll0, h1, g1, Bool.and_self], ?_, by simp only [PyData.showableAll, h3, g3, Bool.and_self], by simp only [PyData.hasDictAll, h4, g4, Bool.or_self], ?_, ?_⟩
    · simp only [PyData.depthAll]
      omega
    · simp only [PyData.shownAll, List.map_cons, List.sum_cons, List.length_cons]
      omega
    · simp only [PyData.shownAll, List.length_cons, g6]
theorem nice_list {ds : List PyData} (h : ∀ d ∈ ds, Nice d) (hl : ds.length ≤ 100) : SeqAt.shaped (.list ds) = true ∧ (PyData.list ds).showable = true ∧ (PyData.list ds).hasDict = false ∧ (PyData.list ds).depth ≤ 60 ∧ (PyData.list ds).shown.length ≤ sizeLine := by
  obtain ⟨g1, g2, g3, g4, g5, g6⟩ := nice_all h
  refine ⟨?_, by simp only [PyData.showable, g3], by simp only [PyData.hasDict, g4], by simp only [PyData.depth]; omega, ?_⟩
  · unfold SeqAt.shaped
    simp only [PyData.canLay0, PyData.depth, g1, Bool.true_and]
    exact decide_eq_true (by omega)
  · simp only [PyData.shown]
    have q := listText_len_le (PyData.shownAll ds)
    refine Nat.le_trans q ?_
    rw [sizeLine_eq, g6]
    omega
theorem dqA_len : ∀ {H : Hp} {bs : List Addr} {ds : List PyData} {xs : List V}, DqA H bs ds xs → ds.length = xs.length
  | H, bs, [], xs, h => by
    obtain rfl : xs = [] := by simpa only [DqA] using h
    rfl
  | H, bs, d :: ds, xs, h => by
    obtain ⟨y, ys, rfl, _, h2⟩ : ∃ y ys, xs = y :: ys ∧ Dq H bs d y ∧ DqA H bs ds ys := by simpa only [DqA] using h
    rw [List.length_cons, List.length_cons, dqA_len h2]
end Own
namespace Own
open PySem PySem.Spec PyProof.Rows L2
def fdV : V → PyData
  | .bl b => .bool b
  | .int i => .int i
  | .str z => .str z
  | _ => .none
def niceB (d : PyData) : Bool := d.canLay0 && decide (d.depth ≤ 3) && d.showable && !d.hasDict && decide (d.shown.length ≤ 200)
theorem niceB_ok {d : PyData} (h : niceB d = true) : Nice d := by
  unfold niceB at h
  simp only [Bool.and_eq_true, decide_eq_true_eq, Bool.not_eq_true'] at h
  obtain ⟨⟨⟨⟨h1, h2⟩, h3⟩, h4⟩, h5⟩ := h
  exact ⟨h1, h2, h3, h4, h5⟩
def okV (v : V) : Bool := flatV v && (match v with
  | .str z => decide (z.length ≤ 100)
  | _ => true) && niceB (fdV v)
theorem okV_nice {v : V} (h : okV v = true) : Nice (fdV v) := niceB_ok (Bool.and_eq_true_iff.mp h).2
theorem okV_dq {v : V} {H : Hp} {bs : List Addr} (h : okV v = true) : Dq H bs (fdV v) v := by
  obtain ⟨h1, _⟩ := Bool.and_eq_true_iff.mp h
  obtain ⟨h1, h2⟩ := Bool.and_eq_true_iff.mp h1
  cases v with
  | non => simp only [fdV, Dq]
  | bl b => simp only [fdV, Dq]
  | int b => simp only [fdV, Dq]
  | str z =>
    simp only [fdV, Dq]
    exact ⟨trivial, of_decide_eq_true h2⟩
  | _ => cases h1
example : okV (.int (10 ^ 30)) = true := by decide +kernel
example : okV (.str "a\n") = true := by decide +kernel
example : niceB (.tuple [.tuple [.str "a"], .int 1]) = true := by decide +kernel
end Own

namespace K02
open PySem PySem.Spec PyProof.Rows L2 Own
def odd17 : List V := [V.non, V.bl true, V.bl false, V.int 0, V.int 1, V.int (-1), V.int (10 ^ (30 : Int).toNat), V.str "", V.str "A", V.str "a b", V.str " a", V.str "a ", V.str "abcdefghi", V.str "a1", V.str "a_b", V.str "a-b", V.str "aB"]
theorem odd17_ok : ∀ v ∈ odd17, okV v = true := by decide +kernel
def spOdd : Sp := fun vs H Q _ => ∃ b, vs = [.ref b] ∧ Bag H b ∧ ∀ (v : V) (d : PyData) (H' : Hp), Nice d → (∀ bs : List Addr, (∀ x ∈ bs, H x ≠ none) → Dq H' bs d v) → But b H H' → Bag H' b → Q v H'
theorem kp_ok : ∀ z ∈ kpL, okV (.str z) = true := by decide +kernel
section
variable {P : Program} {w : World} {K : PySem.W.Frag} {mg : Str → Option Value} {base : Heap} {f C : Addr} {fd : FuncData}
theorem sc_law_odd : FnScope ["bag", "some"] ["bag"] (defScope s_law_odd) := ⟨rfl, rfl, rfl, by decide +kernel, rfl, by decide +kernel, by decide +kernel⟩
theorem ok_odd {fk fo : Addr} {fdk fdo : FuncData} (F : FnP K "_law_odd" s_law_odd f fd) (T : Free mg) (c_law_kept : Cal P w K mg base CX0 1 "_law_kept" fk fdk [] spKept)
    (c_law_of : Cal P w K mg base CX0 2 "_law_of" fo fdo ["bag", "some"] (spOf K)) : FnOk P w K mg base CX0 3 f fd ["bag"] spOdd := by
  refine F.ok sc_law_odd (fun vs H Q E h => ?_) (fun cdv A outer s H vs Q E hr h => ⟨_, PSs.nox (pss_cons (ps_set (i := 1) sc_law_odd.nd rfl (Or.inl rfl) (pe_lst (pa_cons pe_non (pa_cons pe_bl (pa_cons pe_bl (pa_cons pe_int (pa_cons pe_int (pa_cons (pe_un un_neg pe_int) (pa_cons (pe_op op_pow pe_int pe_int) (pa_cons pe_str (pa_cons pe_str (pa_cons pe_str (pa_cons pe_str (pa_cons pe_str (pa_cons pe_str (pa_cons pe_str (pa_cons pe_str (pa_cons pe_str (pa_cons pe_str pa_nil)))))))))))))))))))
 (pss_cons (ps_set (i := 1) sc_law_odd.nd rfl (Or.inl rfl) (pe_op op_cat (pv 1) (pe_lst (pa_cons (pe_tup pa_nil) (pa_cons (pe_tup (pa_cons pe_str pa_nil)) (pa_cons (pe_lst pa_nil) (pa_cons (pe_lst (pa_cons pe_str pa_nil)) (pa_cons pe_str (pa_cons pe_str (pa_cons pe_str (pa_cons (pe_tup (pa_cons (pe_tup (pa_cons pe_str pa_nil)) (pa_cons pe_int pa_nil))) (pa_cons (pe_lst (pa_cons pe_non pa_nil)) pa_nil))))))))))))
 (pss_one (ps_ret (pe_cal c_law_of (hr.mono (by decide)) (pa_cons (pv 0) (pa_cons (pe_op op_cat (pv 1) (pe_cal0 c_law_kept (hr.mono (by decide)))) pa_nil))))))), ?_⟩)
  · obtain ⟨b, rfl, _⟩ := h
    rfl
  · obtain ⟨b, rfl, hb, k⟩ := h
    refine ⟨_, rfl, _, _, rfl, rfl, ⟨by decide, by decide, by decide⟩, (by show 17 ≤ sizeLine; decide), fun p1 m1 => ?_⟩
    have S1 := same_newH (o := .lst odd17) m1
    refine ⟨_, rfl, (by show 0 ≤ sizeLine; decide), fun t1 m2 => ?_⟩
    refine ⟨(by show 1 ≤ sizeLine; decide), fun t2 m3 => ?_⟩
    refine ⟨(by show 0 ≤ sizeLine; decide), fun l1 m4 => ?_⟩
    refine ⟨(by show 1 ≤ sizeLine; decide), fun l2 m5 => ?_⟩
    refine ⟨(by show 1 ≤ sizeLine; decide), fun t3 m6 => ?_⟩
    refine ⟨(by show 2 ≤ sizeLine; decide), fun t4 m7 => ?_⟩
    refine ⟨(by show 1 ≤ sizeLine; decide), fun l3 m8 => ?_⟩
    refine ⟨(by show 9 ≤ sizeLine; decide), fun p2 m9 => ?_⟩
    have S2 := same_newH (o := .tup []) m2
    have S3 := same_newH (o := .tup [V.str "a"]) m3
    have S4 := same_newH (o := .lst []) m4
    have S5 := same_newH (o := .lst [V.str "a"]) m5
    have S6 := same_newH (o := .tup [V.str "a"]) m6
    have S7 := same_newH (o := .tup [V.ref t3, V.int 1]) m7
    have S8 := same_newH (o := .lst [V.non]) m8
    have S9 := same_newH (o := .lst [V.ref t1, V.ref t2, V.ref l1, V.ref l2, V.str "a\n", V.str "~", V.str "a,b", V.ref t4, V.ref l3]) m9
    refine ⟨p1, p2, _, _, rfl, rfl, (S2.trans (S3.trans (S4.trans (S5.trans (S6.trans (S7.trans (S8.trans S9))))))) _ _ upd_same, upd_same, (by show 17 + 9 ≤ sizeLine; decide), fun p3 m10 => ?_⟩
    have F2 := S1.free m2
    have F3 := (S1.trans S2).free m3
    have F4 := (S1.trans (S2.trans S3)).free m4
    have F5 := (S1.trans (S2.trans (S3.trans S4))).free m5
    have F6 := (S1.trans (S2.trans (S3.trans (S4.trans S5)))).free m6
    have F7 := (S1.trans (S2.trans (S3.trans (S4.trans (S5.trans S6))))).free m7
    have F8 := (S1.trans (S2.trans (S3.trans (S4.trans (S5.trans (S6.trans S7)))))).free m8
    have SA := S1.trans (S2.trans (S3.trans (S4.trans (S5.trans (S6.trans (S7.trans (S8.trans S9)))))))
    have h1 := (S3.trans (S4.trans (S5.trans (S6.trans (S7.trans (S8.trans S9)))))) _ _ (upd_same (H := upd H p1 _) (a := t1) (o := .tup []))
    have h2 := (S4.trans (S5.trans (S6.trans (S7.trans (S8.trans S9))))) _ _ upd_same
    have h3 := (S5.trans (S6.trans (S7.trans (S8.trans S9)))) _ _ upd_same
    have h4 := (S6.trans (S7.trans (S8.trans S9))) _ _ upd_same
    have h5 := (S7.trans (S8.trans S9)) _ _ upd_same
    have h6 := (S8.trans S9) _ _ upd_same
    have h7 := S9 _ _ upd_same
    have S10 := same_newH (o := .lst (odd17 ++ [V.ref t1, V.ref t2, V.ref l1, V.ref l2, V.str "a\n", V.str "~", V.str "a,b", V.ref t4, V.ref l3])) m10
    have hbZ := ((hb.same SA).new (o := .lst (odd17 ++ [V.ref t1, V.ref t2, V.ref l1, V.ref l2, V.str "a\n", V.str "~", V.str "a,b", V.ref t4, V.ref l3])) m10)
    have SB := SA.trans S10
    have h1 := S10 _ _ h1
    have h2 := S10 _ _ h2
    have h3 := S10 _ _ h3
    have h4 := S10 _ _ h4
    have h5 := S10 _ _ h5
    have h6 := S10 _ _ h6
    have h7 := S10 _ _ h7
    refine ⟨_, rfl, _, rfl, rfl, fun lk HK SK nk hk => ?_⟩
    refine ⟨p3, lk, _, _, rfl, rfl, SK _ _ upd_same, hk, (by show 26 + 23 ≤ sizeLine; decide), fun p4 m11 => ?_⟩
    have S12 := same_newH (o := .lst ((odd17 ++ [V.ref t1, V.ref t2, V.ref l1, V.ref l2, V.str "a\n", V.str "~", V.str "a,b", V.ref t4, V.ref l3]) ++ kpL.map V.str)) m11
    have np4 : p4 ≠ b := ((hbZ.same SK).ne m11).symm
    refine ⟨b, p4, _, rfl, (hbZ.same SK).new m11, np4, SqL.of upd_same, (fun e => nomatch e), (by show 49 < 1000000; decide), fun v H' hv B hb' => ?_⟩
    have hbY := (hbZ.same SK).new (o := .lst ((odd17 ++ [V.ref t1, V.ref t2, V.ref l1, V.ref l2, V.str "a\n", V.str "~", V.str "a,b", V.ref t4, V.ref l3]) ++ kpL.map V.str)) m11
    have SC := SK.trans S12
    have h1 := B.at hbY (SC _ _ h1) (fun _ _ => nofun)
    have h2 := B.at hbY (SC _ _ h2) (fun _ _ => nofun)
    have h3 := B.at hbY (SC _ _ h3) (fun _ _ => nofun)
    have h4 := B.at hbY (SC _ _ h4) (fun _ _ => nofun)
    have h5 := B.at hbY (SC _ _ h5) (fun _ _ => nofun)
    have h6 := B.at hbY (SC _ _ h6) (fun _ _ => nofun)
    have h7 := B.at hbY (SC _ _ h7) (fun _ _ => nofun)
    have BA : But b H H' := (But.same (SB.trans SC)).trans B
    have k2 : ∀ d, Nice d → (∀ bs : List Addr, (∀ x ∈ bs, H x ≠ none) → Dq H' bs d v) → Q v H' := fun d n q => k v d H' n q BA hb'
    have flat : okV v = true → Q v H' := fun e => k2 _ (okV_nice e) fun bs _ => okV_dq e
    have no : ∀ {x : Addr} {bs : List Addr}, H x = none → (∀ x ∈ bs, H x ≠ none) → x ∉ bs := fun hx hb hm => hb _ hm hx
    clear k
    rcases List.mem_append.mp hv with hv | hv
    · rcases List.mem_append.mp hv with hv | hv
      · exact flat (odd17_ok v hv)
      · simp only [List.mem_cons, List.not_mem_nil, or_false] at hv
        rcases hv with rfl | rfl | rfl | rfl | rfl | rfl | rfl | rfl | rfl
        · exact k2 (.tuple []) (niceB_ok (by decide +kernel)) fun bs hbs => by simp only [Dq]; exact ⟨_, _, rfl, no F2 hbs, h1, by simp only [DqA]⟩
        · exact k2 (.tuple [.str "a"]) (niceB_ok (by decide +kernel)) fun bs hbs => by simp only [Dq]; exact ⟨_, _, rfl, no F3 hbs, h2, by simp only [DqA]; exact ⟨_, _, rfl, okV_dq (v := .str "a") (by decide +kernel), rfl⟩⟩
        · exact k2 (.list []) (niceB_ok (by decide +kernel)) fun bs hbs => by simp only [Dq]; exact ⟨_, _, rfl, no F4 hbs, h3, by simp only [DqA]⟩
        · exact k2 (.list [.str "a"]) (niceB_ok (by decide +kernel)) fun bs hbs => by simp only [Dq]; exact ⟨_, _, rfl, no F5 hbs, h4, by simp only [DqA]; exact ⟨_, _, rfl, okV_dq (v := .str "a") (by decide +kernel), rfl⟩⟩
        · exact flat (by decide +kernel)
        · exact flat (by decide +kernel)
        · exact flat (by decide +kernel)
        · refine k2 (.tuple [.tuple [.str "a"], .int 1]) (niceB_ok (by decide +kernel)) fun bs hbs => ?_
          have q5 : Dq H' bs (.tuple [.str "a"]) (.ref t3) := by simp only [Dq]; exact ⟨_, _, rfl, no F6 hbs, h5, by simp only [DqA]; exact ⟨_, _, rfl, okV_dq (v := .str "a") (by decide +kernel), rfl⟩⟩
          unfold Dq
          refine ⟨_, _, rfl, no F7 hbs, h6, ?_⟩
          unfold DqA
          refine ⟨_, _, rfl, q5, ?_⟩
          unfold DqA
          refine ⟨_, _, rfl, okV_dq (v := .int 1) (by decide +kernel), ?_⟩
          unfold DqA
          rfl
        · exact k2 (.list [.none]) (niceB_ok (by decide +kernel)) fun bs hbs => by simp only [Dq]; exact ⟨_, _, rfl, no F8 hbs, h7, by simp only [DqA]; exact ⟨_, _, rfl, okV_dq (v := .non) (by decide +kernel), rfl⟩⟩
    · obtain ⟨z, hz, rfl⟩ := List.mem_map.mp hv
      exact flat (kp_ok z hz)
end
end K02

namespace Own
open PySem PySem.Spec PyProof.Rows L2
theorem nice_low {z : Str} (h : lowS z) : Nice (.str z) := by
  obtain ⟨h1, h2, h3⟩ := h
  refine ⟨strOk_low h3, by simp only [PyData.depth]; omega, by simp only [PyData.showable], by simp only [PyData.hasDict], ?_⟩
  have q := StrLaws.reprText_len z fun c hc => by
    have q := h3 c hc
    unfold lowB at q
    simp only [Bool.and_eq_true, decide_eq_true_eq] at q
    omega
  simp only [PyData.shown]
  omega
theorem dqA_low {H : Hp} {bs : List Addr} : ∀ {ws : List Str}, (∀ z ∈ ws, lowS z) → DqA H bs (ws.map PyData.str) (ws.map V.str)
  | [], _ => by simp only [List.map_nil, DqA]
  | z :: r, h => by
    have ih := dqA_low (H := H) (bs := bs) (ws := r) fun y hy => h y (List.mem_cons_of_mem _ hy)
    have hz := (h z (List.mem_cons_self ..)).2.1
    rw [List.map_cons, List.map_cons]
    unfold DqA
    refine ⟨_, _, rfl, ?_, ih⟩
    unfold Dq
    exact ⟨rfl, by omega⟩
theorem dqA_mem {H : Hp} {bs : List Addr} {v : V} : ∀ {ds : List PyData} {xs : List V}, DqA H bs ds xs → v ∈ xs → ∃ d ∈ ds, Dq H bs d v
  | [], xs, h, hm => by
    obtain rfl : xs = [] := by simpa only [DqA] using h
    cases hm
  | d :: ds, xs, h, hm => by
    obtain ⟨y, ys, rfl, h1, h2⟩ : ∃ y ys, xs = y :: ys ∧ Dq H bs d y ∧ DqA H bs ds ys := by simpa only [DqA] using h
    rcases List.mem_cons.mp hm with rfl | hm
    · exact ⟨d, List.mem_cons_self .., h1⟩
    · obtain ⟨e, he, q⟩ := dqA_mem h2 hm
      exact ⟨e, List.mem_cons_of_mem _ he, q⟩
theorem dqA_set {H : Hp} {bs : List Addr} {v : V} {d : PyData} (hv : Dq H bs d v) : ∀ {ds : List PyData} {xs : List V} (j : Nat), DqA H bs ds xs → DqA H bs (ds.set j d) (xs.set j v)
  | [], xs, j, h => by
    obtain rfl : xs = [] := by simpa only [DqA] using h
    simp only [List.set_nil, DqA]
  | e :: ds, xs, 0, h => by
    obtain ⟨y, ys, rfl, h1, h2⟩ : ∃ y ys, xs = y :: ys ∧ Dq H bs e y ∧ DqA H bs ds ys := by simpa only [DqA] using h
    simp only [List.set_cons_zero, DqA]
    exact ⟨_, _, rfl, hv, h2⟩
  | e :: ds, xs, j + 1, h => by
    obtain ⟨y, ys, rfl, h1, h2⟩ : ∃ y ys, xs = y :: ys ∧ Dq H bs e y ∧ DqA H bs ds ys := by simpa only [DqA] using h
    have ih := dqA_set hv j h2
    simp only [List.set_cons_succ, DqA]
    exact ⟨_, _, rfl, h1, ih⟩
theorem dqA_ent {H : Hp} {bs : List Addr} {ds : List PyData} {xs : List V} (h : DqA H bs ds xs) : ∀ x ∈ xs, Ent H x := fun x hx => let ⟨_, _, q⟩ := dqA_mem h hx; Dq.ent q
theorem pickIH {P : Int → Hp → Prop} (R : Int → Hp → Prop) {G : Prop} (main : (∀ o H, R o H → P o H) → G) (rest : ∀ o H, R o H → P o H) : G := main rest
theorem pickVH {P : V → Hp → Prop} (R : V → Hp → Prop) {G : Prop} (main : (∀ o H, R o H → P o H) → G) (rest : ∀ o H, R o H → P o H) : G := main rest
def spEntries : Sp := fun vs H Q _ => ∃ b, vs = [.ref b] ∧ Bag H b ∧ ∀ (l : Addr) (xs : List V) (ds : List PyData) (H' : Hp), H l = none → l ≠ b → H' l = some (.lst xs) → DqA H' [b, l] ds xs → (∀ d ∈ ds, Nice d) → xs.length ≤ 6 → But b H H' → Bag H' b → Q (.ref l) H'
end Own

namespace K02
open PySem PySem.Spec PyProof.Rows L2 Own
section
variable {P : Program} {w : World} {K : PySem.W.Frag} {mg : Str → Option Value} {base : Heap} {f C : Addr} {fd : FuncData}
theorem sc_law_entries : FnScope ["bag", "entries", "turn", "word", "place", "at"] ["bag"] (defScope s_law_entries) := ⟨rfl, rfl, rfl, by decide +kernel, rfl, by decide +kernel, by decide +kernel⟩
theorem ok_entries {ft fo fp : Addr} {fdt fdo fdp : FuncData} (F : FnP K "_law_entries" s_law_entries f fd) (T : Free mg) (c_law_take : Cal P w K mg base CX0 1 "_law_take" ft fdt ["bag", "many"] spTake)
    (c_law_of : Cal P w K mg base CX0 2 "_law_of" fo fdo ["bag", "some"] (spOf K)) (c_law_odd : Cal P w K mg base CX0 3 "_law_odd" fp fdp ["bag"] spOdd) : FnOk P w K mg base CX0 4 f fd ["bag"] spEntries := by
  refine F.ok sc_law_entries (fun vs H Q E h => ?_) (fun cdv A outer s H vs Q E hr h => ⟨_, PSs.nox (pss_cons (ps_set (i := 1) sc_law_entries.nd rfl (Or.inl rfl) (pe_lst pa_nil))
 (pss_cons (ps_for PassesOwn.never rfl (pi_range1 (by rfl) T.range (pa_cons (pe_cal c_law_of (hr.mono (by decide)) (pa_cons (pv 0) (pa_cons (pe_lst (pa_cons pe_int (pa_cons pe_int (pa_cons pe_int (pa_cons pe_int (pa_cons pe_int (pa_cons pe_int (pa_cons pe_int (pa_cons pe_int (pa_cons pe_int (pa_cons pe_int (pa_cons pe_int (pa_cons pe_int (pa_cons pe_int pa_nil)))))))))))))) pa_nil))) pa_nil)) (pg_name (i := 2) sc_law_entries.nd rfl (Or.inl rfl))
 (pss_cons (ps_set (i := 3) sc_law_entries.nd rfl (Or.inl rfl) pe_str)
 (pss_cons (ps_for PassesOwn.never rfl (pi_range1 (by rfl) T.range (pa_cons (pe_op op_add pe_int (pe_cal c_law_take (hr.mono (by decide)) (pa_cons (pv 0) (pa_cons pe_int pa_nil)))) pa_nil)) (pg_name (i := 4) sc_law_entries.nd rfl (Or.inl rfl))
 (pss_one (ps_set (i := 3) sc_law_entries.nd rfl (Or.inl rfl) (pe_op op_add_str (pv 3) (pe_cal c_law_of (hr.mono (by decide)) (pa_cons (pv 0) (pa_cons (pe_callTy (call_list_str rfl) (by rfl) T.list boot_list (pa_cons pe_str pa_nil)) pa_nil)))))))
 (pss_one (ps_expr (pe_bm PySem.F.plainAttrs_list PySem.F.slot_list_append PySem.F.type_list_append mt_append (pv 1) (pa_cons (pv 3) pa_nil)))))))
 (pss_cons (ps_for PassesOwn.never rfl (pi_range1 (by rfl) T.range (pa_cons (pe_ifExp (pt_cmpR (op_neD (hu_of' hr)) (pv 1) (pe_lst pa_nil) (nomark _)) (pe_cal c_law_take (hr.mono (by decide)) (pa_cons (pv 0) (pa_cons pe_int pa_nil))) pe_int) pa_nil)) (pg_name (i := 2) sc_law_entries.nd rfl (Or.inl rfl))
 (pss_cons (ps_set (i := 5) sc_law_entries.nd rfl (Or.inl rfl) (pe_cal c_law_take (hr.mono (by decide)) (pa_cons (pv 0) (pa_cons (pe_callB call_len_seq (by rfl) T.len boot_len (pa_cons (pv 1) pa_nil)) pa_nil))))
 (pss_one (ps_asg (pe_ifExp (pt_cmpR op_eq (pe_cal c_law_take (hr.mono (by decide)) (pa_cons (pv 0) (pa_cons pe_int pa_nil))) pe_int (nomark _)) (pe_cal c_law_of (hr.mono (by decide)) (pa_cons (pv 0) (pa_cons (pv 1) pa_nil))) (pe_cal c_law_odd (hr.mono (by decide)) (pa_cons (pv 0) pa_nil))) (pg_sub (pv 1) (pv 5) set_list)))))
 (pss_one (ps_ret (pv 1)))))), ?_⟩)
  · obtain ⟨b, rfl, _⟩ := h
    rfl
  · obtain ⟨b, rfl, hb, k⟩ := h
    refine ⟨Nat.zero_le _, fun l nl => ?_⟩
    have nlb : l ≠ b := (hb.ne nl).symm
    have hb0 := hb.new (o := .lst []) nl
    have S0 := same_newH (o := .lst []) nl
    refine ⟨_, rfl, (by show 13 ≤ sizeLine; decide), fun p np => ?_⟩
    have hb1 := hb0.new (o := .lst [V.int 0, V.int 1, V.int 1, V.int 2, V.int 2, V.int 2, V.int 3, V.int 3, V.int 3, V.int 3, V.int 4, V.int 5, V.int 6]) np
    have S1 := same_newH (o := .lst [V.int 0, V.int 1, V.int 1, V.int 2, V.int 2, V.int 2, V.int 3, V.int 3, V.int 3, V.int 3, V.int 4, V.int 5, V.int 6]) np
    refine ⟨b, p, _, rfl, hb1, (hb0.ne np).symm, SqL.of upd_same, (fun e => nomatch e), (by show 13 < 1000000; decide), fun v H1 hv B1 hb2 => ?_⟩
    have hl1 := B1 _ _ nlb (S1 _ _ upd_same)
    have BH : But b H H1 := (But.same (S0.trans S1)).trans B1
    obtain ⟨m, rfl, m0, m6⟩ : ∃ m : Int, v = .int m ∧ 0 ≤ m ∧ m ≤ 6 := by
      simp only [List.mem_cons, List.not_mem_nil, or_false] at hv
      rcases hv with rfl | rfl | rfl | rfl | rfl | rfl | rfl | rfl | rfl | rfl | rfl | rfl | rfl <;> exact ⟨_, rfl, by decide, by decide⟩
    refine ⟨_, rfl, by omega, by omega, ?_⟩
    refine for_range (fun i σ H' => ∃ (ws : List Str) (tv wv pv av : Option V), σ = [some (.ref b), some (.ref l), tv, wv, pv, none] ∧ But b H H' ∧ Bag H' b ∧ H' l = some (.lst (ws.map V.str)) ∧ (∀ z ∈ ws, lowS z) ∧ ws.length = i)
      ⟨[], none, none, none, none, rfl, BH, hb2, hl1, (fun _ h => by cases h), rfl⟩ ?_ ?_
    · rintro i σ H2 hi ⟨ws, tv, wv, pv, av, rfl, B2, hb2, hl2, hw, hn⟩
      refine ⟨_, rfl, b, 8, rfl, hb2, by decide, by decide, fun d H3 d0 d1 B3 hb3 => ?_⟩
      refine ⟨_, _, rfl, rfl, _, rfl, by omega, by omega, ?_⟩
      refine for_range (fun j σ H' => ∃ (z : Str) (pv : Option V), σ = [some (.ref b), some (.ref l), some (.int (0 + (i : Int))), some (.str z), pv, none] ∧ But b H H' ∧ Bag H' b ∧ H' l = some (.lst (ws.map V.str)) ∧ z.length = j ∧ ∀ c ∈ z.cps.toList, lowB c = true)
        ⟨"", pv, rfl, B2.trans B3, hb3, B3 _ _ nlb hl2, rfl, by decide⟩ ?_ ?_
      · rintro j σ H4 hj ⟨z, pv, rfl, B4, hb4, hl4, hz, hlow⟩
        refine ⟨_, rfl, _, rfl, _, rfl, (by decide), fun q nq => ?_⟩
        rw [abc_signs]
        have S5 := same_newH (o := .lst (abcL.map V.str)) nq
        refine ⟨b, q, _, rfl, hb4.new nq, (hb4.ne nq).symm, SqL.of upd_same, (by decide), (by show 26 < 1000000; decide), fun v H6 hv B6 hb6 => ?_⟩
        obtain ⟨x, hx, rfl⟩ := List.mem_map.mp hv
        obtain ⟨x1, x2⟩ := abc_low x hx
        refine ⟨_, _, rfl, rfl, Nat.le_of_lt (small1000 (by omega)), ?_⟩
        exact ⟨_, _, rfl, (B4.new nq).trans B6, hb6, B6 _ _ nlb (S5 _ _ hl4), by rw [Str.length_append, hz, x1], low_app hlow x2⟩
      · rintro σ H4 ⟨z, pv, rfl, B4, hb4, hl4, hz, hlow⟩
        refine ⟨_, rfl, .inl ⟨rfl, _, SqL.of hl4⟩, _, rfl, l, _, _, rfl, rfl, hl4, small1000 (by rw [List.length_map]; omega), ?_⟩
        refine ⟨ws ++ [z], _, _, _, none, rfl, B4.putb nl, hb4.put nlb.symm, by rw [upd_same, List.map_append]; rfl, fun y hy => ?_, by rw [List.length_append, hn]; rfl⟩
        rcases List.mem_append.mp hy with hy | hy
        · exact hw y hy
        · rw [List.mem_singleton.mp hy]
          exact ⟨by omega, by omega, hlow⟩
    · rintro σ H2 ⟨ws, tv, wv, pv, av, rfl, B2, hb2, hl2, hw, hn⟩
      refine ⟨_, rfl, Nat.zero_le _, fun e ne => ?_⟩
      have Se := same_newH (o := .lst []) ne
      have hl3 := Se _ _ hl2
      have B3 := B2.new (o := .lst []) ne
      have hb3 : Bag (upd H2 e (.lst [])) b := hb2.new ne
      have nw : ∀ d ∈ ws.map PyData.str, Nice d := fun d hd => by
        obtain ⟨z, hz, rfl⟩ := List.mem_map.mp hd
        exact nice_low (hw z hz)
      have hsh := (nice_list nw (by rw [List.length_map]; omega)).1
      refine ⟨.list (ws.map PyData.str), .list [], .lst (SqL.of hl3) (dp_strs ws), .lst (SqL.of upd_same) .nil, hsh, shaped_nil, _, rfl, ?_⟩
      rw [show PyData.eqv (.list (ws.map PyData.str)) (.list []) = decide (ws = []) from eqv_lsts ws []]
      refine' pickIH (fun m H' => 0 ≤ m ∧ m ≤ 3 ∧ (0 < m → ws ≠ []) ∧ But b H H' ∧ Bag H' b ∧ H' l = some (.lst (ws.map V.str))) ?main ?rest
      case main =>
        intro go
        refine ite2 (fun hne => ?_) (fun _ => ?_)
        · have hne2 : ws ≠ [] := by
            intro q
            rw [decide_eq_true q] at hne
            cases hne
          refine ⟨_, rfl, b, 4, rfl, hb3, by decide, by decide, fun d H4 d0 d1 B4 hb4 => ?_⟩
          exact go d H4 ⟨d0, by omega, fun _ => hne2, B3.trans B4, hb4, B4 _ _ nlb hl3⟩
        · exact go 0 _ ⟨by decide, by decide, fun q => absurd q (by decide), B3, hb3, hl3⟩
      case rest =>
        intro m2 H4 hR
        obtain ⟨q0, q3, qne, B4, hb4, hl4⟩ := hR
        refine ⟨_, rfl, by omega, by omega, ?_⟩
        refine for_range (fun j σ H' => ∃ (xs : List V) (ds : List PyData) (t2 t3 t4 t5 : Option V), σ = [some (.ref b), some (.ref l), t2, t3, t4, t5] ∧ But b H H' ∧ Bag H' b ∧ H' l = some (.lst xs) ∧ DqA H' [b, l] ds xs ∧ (∀ d ∈ ds, Nice d) ∧ xs.length = ws.length)
          ⟨ws.map V.str, ws.map PyData.str, tv, wv, pv, none, rfl, B4, hb4, hl4, dqA_low hw, nw, by rw [List.length_map]⟩ ?_ ?_
        · rintro j σ H5 hj ⟨xs, ds, t2, t3, t4, t5, rfl, B5, hb5, hl5, hd5, hn5, hlen5⟩
          have hpos : 0 < ws.length := List.length_pos_iff.mpr (qne (by omega))
          refine ⟨_, rfl, _, rfl, l, _, rfl, .inl (SqL.of hl5), b, _, rfl, hb5, by omega, by omega, fun d H6 d0 d1 B6 hb6 => ?_⟩
          have hl6 := B6 _ _ nlb hl5
          have hd6 := DqA.buts (Buts.of_but B6 (List.mem_cons_self (l := [l]))) _ _ hd5
          refine ⟨_, rfl, b, 2, rfl, hb6, by decide, by decide, fun d2 H7 _ _ B7 hb7 => ?_⟩
          have hl7 := B7 _ _ nlb hl6
          have hd7 := DqA.buts (Buts.of_but B7 (List.mem_cons_self (l := [l]))) _ _ hd6
          have hxs : xs ≠ [] := fun e => by
            rw [e] at hlen5
            rw [← hlen5] at hpos
            exact absurd hpos (Nat.lt_irrefl 0)
          have hxl : xs.length < 1000000 := by omega
          have occ : ∀ x ∈ [b, l], H7 x ≠ none := fun x hx => by
            simp only [List.mem_cons, List.not_mem_nil, or_false] at hx
            rcases hx with rfl | rfl
            · obtain ⟨_, _, q, _⟩ := hb7
              rw [q]
              exact nofun
            · rw [hl7]
              exact nofun
          refine ⟨rfl, _, rfl, ?_⟩
          refine' pickVH (fun (v : V) (H' : Hp) => (∃ d : PyData, Dq H' [b, l] d v ∧ Nice d) ∧ But b H7 H' ∧ Bag H' b) ?main2 ?rest2
          case main2 =>
            intro go
            refine ite2 (fun _ => ?_) (fun _ => ?_)
            · refine ⟨_, rfl, _, rfl, b, l, xs, rfl, hb7, nlb, SqL.of hl7, hxs, hxl, fun v H8 hv B8 hb8 => ?_⟩
              obtain ⟨dd, hdd, q⟩ := dqA_mem hd7 hv
              exact go v H8 ⟨⟨dd, Dq.buts (Buts.of_but B8 (List.mem_cons_self (l := [l]))) _ _ q, hn5 dd hdd⟩, B8, hb8⟩
            · exact ⟨_, rfl, b, rfl, hb7, fun v dd H8 n q B8 hb8 => go v H8 ⟨⟨dd, q [b, l] occ, n⟩, B8, hb8⟩⟩
          case rest2 =>
            intro v H8 hR2
            obtain ⟨⟨dd, hv, n⟩, B8, hb8⟩ := hR2
            have hl8 := B8 _ _ nlb hl7
            have hd8 := DqA.buts (Buts.of_but B8 (List.mem_cons_self (l := [l]))) _ _ hd7
            refine ⟨_, rfl, _, rfl, l, xs, d, d.toNat, rfl, rfl, hl8, ixN_of d0 (by omega), ?_⟩
            refine ⟨xs.set d.toNat v, ds.set d.toNat dd, _, _, _, _, rfl, (((B5.trans B6).trans B7).trans B8).putb nl, hb8.put nlb.symm, upd_same, DqA.buts (Buts.put (List.mem_cons_of_mem _ (List.mem_cons_self ..))) _ _ (dqA_set hv _ hd8), fun e he => ?_, by rw [List.length_set]; exact hlen5⟩
            rcases List.mem_or_eq_of_mem_set he with he | rfl
            · exact hn5 e he
            · exact n
        · rintro σ H5 ⟨xs, ds, t2, t3, t4, t5, rfl, B5, hb5, hl5, hd5, hn5, hlen5⟩
          exact ⟨_, rfl, k l xs ds H5 nl nlb hl5 hd5 hn5 (by omega) B5 hb5⟩
end
end K02

namespace K02
open PySem PySem.Spec PyProof.Rows L2 Own
def spLaw (K : PySem.W.Frag) : Sp := fun vs H Q _ => ∃ (a : Addr) (ns : List Int), vs = [.ref a] ∧ SqL K H a (ns.map V.int) ∧ ns.length ≤ 63 ∧ ∀ H', Q (.bl true) H'
theorem bad_words : ∀ (xs pre : List V), badFrom pre xs = none → ∃ ws : List Str, xs = ws.map V.str ∧ Words ws
  | [], _, _ => ⟨[], rfl, fun _ h => by cases h⟩
  | x :: r, pre, h => by
    unfold badFrom at h
    split at h
    · cases h
    · rename_i q
      obtain ⟨ws, rfl, hw⟩ := bad_words r _ h
      have hx : wordV x = true := by
        cases e : wordV x with
        | true => rfl
        | false => exact absurd (by rw [e]; rfl) q
      obtain ⟨z, rfl, hz⟩ := word_str hx
      refine ⟨z :: ws, rfl, fun y hy => ?_⟩
      rcases List.mem_cons.mp hy with rfl | hy
      · exact hz
      · exact hw y hy
theorem due_words {xs : List V} (h : dueV xs = .non) : ∃ ws : List Str, xs = ws.map V.str ∧ Words ws := by
  unfold dueV at h
  split at h
  · cases e : badFrom [] xs with
    | none => exact bad_words xs [] e
    | some i => rw [e] at h; cases h
  · cases h
theorem due_lt {xs : List V} {i : Int} (h : dueV xs = .int i) (i0 : 0 ≤ i) : i < (xs.length : Nat) := by
  unfold dueV at h
  split at h
  · cases e : badFrom [] xs with
    | none => rw [e] at h; cases h
    | some j =>
      rw [e] at h
      have q := badFrom_le xs [] j e
      rw [List.length_nil] at q
      cases h
      omega
  · cases h
    exact absurd i0 (by decide)
theorem kd_relist {H : Hp} {g : Addr} {ys zs : List V} (h : H g = some (.lst ys)) (v : V) : kd (upd H g (.lst zs)) v = kd H v := by
  cases v with
  | ref a =>
    show kdO (upd H g (.lst zs) a) = kdO (H a)
    by_cases e : a = g
    · subst e
      rw [upd_same, h] <;> rfl
    · rw [upd_ne e]
  | _ => rfl
theorem due_scal (xs : List V) : scal (dueV xs) (dueV xs) = true := by
  rcases due_cases xs with h | ⟨i, h, _⟩ <;> rw [h] <;> rfl
section
variable {P : Program} {w : World} {K : PySem.W.Frag} {mg : Str → Option Value} {base : Heap} {f C : Addr} {fd : FuncData}
theorem ok_Tableinit {aK fb : Addr} {fdb : FuncData} (F : FnM K "__init__" "Table.__init__" s_Tableinit f fd) (T : Txt K mg aK) (TC : TxC K C) (c_first_bad : Cal P w K mg base CX0 2 "first_bad" fb fdb ["names"] (spFirstBadA K)) : FnOk P w K mg base CX0 3 f fd ["self", "columns"] (spTableA K C) := by
  refine F.ok sc_Tableinit (fun vs H Q E h => ?_) (fun cdv A outer s H vs Q E hr h => ⟨_, PSs.nox (pss_cons (ps_set (i := 2) sc_Tableinit.nd rfl (Or.inl rfl) (pe_cal c_first_bad (hr.mono (by decide)) (pa_cons (pv 1) pa_nil)))
 (pss_cons (ps_if (pt_cmpR op_notN (pv 2) pe_non (nomark _))
 (pss_one ps_never)
 pss_nil)
 (pss_one (ps_fld (pv 0) (pe_callTy call_tuple_of (by rfl) T.tuple boot_tuple (pa_cons (pv 1) pa_nil)) rfl)))), ?_⟩)
  · obtain ⟨p, a, dx, xs, rfl, _⟩ := h
    rfl
  · obtain ⟨p, a, dx, xs, rfl, hp, ha, hlen, hx, hd, k⟩ := h
    refine ⟨_, rfl, a, xs, rfl, ha, hlen, hx, fun H1 R1 => ?_⟩
    rw [hd]
    refine ⟨_, rfl, rfl, _, rfl, iteNS rfl ?_⟩
    have hp1 := R1 _ _ hp
    rcases ha with ha | ha
    · refine ⟨_, rfl, a, xs, rfl, .inl ⟨R1.seq ha, fun t nt => ?_⟩⟩
      have npt := ne_of_none hp1 nt
      refine ⟨_, rfl, p, C, dx, [], rfl, (by rw [upd_ne npt]; exact hp1), TC.cl, TC.nC, (by show 0 < 1000; decide), ?_⟩
      refine k _ (fun q o n e => ?_) ⟨dx, t, upd_same, by rw [upd_ne npt.symm, upd_same]⟩
      rw [upd_ne n, upd_ne (ne_of_none (R1 _ _ e) nt)]
      exact R1 _ _ e
    · have ha1 := R1 _ _ ha
      refine ⟨_, rfl, a, xs, rfl, .inr ⟨SqT.of ha1, ?_⟩⟩
      refine ⟨_, rfl, p, C, dx, [], rfl, hp1, TC.cl, TC.nC, (by show 0 < 1000; decide), ?_⟩
      refine k _ (fun q o n e => ?_) ⟨dx, a, upd_same, by rw [upd_ne (ne_of ha1 hp1 nofun)]; exact ha1⟩
      rw [upd_ne n]
      exact R1 _ _ e
theorem sc_law : FnScope ["script", "at", "bag", "turn", "entries", "given", "shown", "due", "told"] ["script"] (defScope s_law) := ⟨rfl, rfl, rfl, by decide +kernel, rfl, by decide +kernel, by decide +kernel⟩
theorem ok_law {fb fo fe fi fu ft : Addr} {fdb fdo fde fdi fdu fdt : FuncData} (F : FnP K "law" s_law f fd) (T : Free mg) (TC : TxC K C) (c_law_bag : Cal P w K mg base CX0 1 "_law_bag" fb fdb ["script", "at"] (spBag K))
    (c_law_of : Cal P w K mg base CX0 2 "_law_of" fo fdo ["bag", "some"] (spOf K)) (c_law_entries : Cal P w K mg base CX0 4 "_law_entries" fe fde ["bag"] spEntries) (c_Table : CalI P w K mg base CX0 3 "Table" C fi fdi ["self", "columns"] (spTableA K C))
    (c_law_due : Cal P w K mg base CX0 3 "_law_due" fu fdu ["entries"] (spDue K)) (c_law_told : Cal P w K mg base CX0 6 "_law_told" ft fdt ["entries"] (spTold K)) : Asked P w K mg base f fd ["script"] (spLaw K) := by
  refine asked_of (k := 6) F sc_law ⟨rfl, by decide, by decide⟩ (fun vs H Q E h => ?_) (fun cdv s H vs Q hr hg h => ⟨_, PSs.nox (pss_cons (ps_for PassesOwn.never rfl (pi_range1 (by rfl) T.range (pa_cons (pe_callB (call_max2 rfl) (by rfl) T.max boot_max (pa_cons pe_int (pa_cons (pe_callB (call_min2 rfl) (by rfl) T.min boot_min (pa_cons pe_int (pa_cons (pe_callB call_len_seq (by rfl) T.len boot_len (pa_cons (pv 0) pa_nil)) pa_nil))) pa_nil))) pa_nil)) (pg_name (i := 1) sc_law.nd rfl (Or.inl rfl))
 (pss_cons (ps_set (i := 2) sc_law.nd rfl (Or.inl rfl) (pe_cal c_law_bag (hr.mono (by decide)) (pa_cons (pv 0) (pa_cons (pv 1) pa_nil))))
 (pss_one (ps_for PassesOwn.never rfl (pi_range1 (by rfl) T.range (pa_cons pe_int pa_nil)) (pg_name (i := 3) sc_law.nd rfl (Or.inl rfl))
 (pss_cons (ps_set (i := 4) sc_law.nd rfl (Or.inl rfl) (pe_cal c_law_entries (hr.mono (by decide)) (pa_cons (pv 2) pa_nil)))
 (pss_cons (ps_par (i := 5) (j := 6) rfl sc_law.nd rfl rfl (by decide) rfl rfl (pa_cons (pe_callTy call_list_of (by rfl) T.list boot_list (pa_cons (pv 4) pa_nil)) (pa_cons (pe_callB (call_repr_data (hu_of' hr) hg) (by rfl) T.repr boot_repr (pa_cons (pv 4) pa_nil)) pa_nil)) (by rfl))
 (pss_cons (ps_par (i := 7) (j := 8) rfl sc_law.nd rfl rfl (by decide) rfl rfl (pa_cons (pe_cal c_law_due (hr.mono (by decide)) (pa_cons (pv 4) pa_nil)) (pa_cons (pe_cal c_law_told (hr.mono (by decide)) (pa_cons (pv 5) pa_nil)) pa_nil)) (by rfl))
 (pss_cons (ps_if (PW.pt (pw_or (pt_cmpR op_ne (pv 8) (pv 7) (nomark _)) (pw_or (pt_val (pe_callB call_isi (by rfl) T.isinstance boot_isinstance (pa_cons (pv 8) (pa_cons (pe_bltn (v := .ty "bool") (by rfl) T.bool boot_bool rfl) pa_nil)))) (pw_or1 (pt_cmpR op_ne (pe_callB (call_repr_data (hu_of' hr) hg) (by rfl) T.repr boot_repr (pa_cons (pv 5) pa_nil)) (pv 6) (nomark _))))))
 (pss_one (ps_ret pe_bl))
 pss_nil)
 (pss_cons (ps_if (PW.pt (pw_and (pt_cmpR op_isN (pv 7) pe_non (nomark _)) (pw_and1 (pt_cmpR (op_neD (hu_of' hr)) (pe_fld (pe_mkr c_Table (hr.mono (by decide)) (pa_cons (pv 5) pa_nil)) rfl) (pe_callTy call_tuple_of (by rfl) T.tuple boot_tuple (pa_cons (pv 4) pa_nil)) (nomark _)))))
 (pss_one (ps_ret pe_bl))
 pss_nil)
 (pss_one (ps_if (PW.pt (pw_and (pt_cmpR op_notN (pv 7) pe_non (nomark _)) (pw_and1 (pt_cmpR op_ge (pv 7) pe_int (nomark _)))))
 (pss_cons (ps_asg (pe_cal c_law_of (hr.mono (by decide)) (pa_cons (pv 2) (pa_cons (pe_lst (pa_cons pe_str (pa_cons pe_str (pa_cons pe_str pa_nil)))) pa_nil))) (pg_sub (pv 5) (pv 7) set_list))
 (pss_one (ps_if (pt_cmpR op_ne (pe_cal c_law_told (hr.mono (by decide)) (pa_cons (pv 5) pa_nil)) (pe_cal c_law_due (hr.mono (by decide)) (pa_cons (pv 5) pa_nil)) (nomark _))
 (pss_one (ps_ret pe_bl))
 pss_nil)))
 pss_nil)))))))))))
 (pss_one (ps_ret pe_bl))), ?_⟩)
  · obtain ⟨a, ns, rfl, _⟩ := h
    rfl
  · obtain ⟨a, ns, rfl, hS, hlen, k⟩ := h
    have hj : ∀ j : Int, j = (if (if ((ns.map V.int).length : Int) < 8 then ((ns.map V.int).length : Int) else 8) > 1 then (if ((ns.map V.int).length : Int) < 8 then ((ns.map V.int).length : Int) else 8) else 1) → 0 ≤ j ∧ j ≤ 8 := by
      intro j e
      subst e
      split <;> split <;> omega
    have hj := hj _ rfl
    refine ⟨_, rfl, a, _, rfl, .inl hS, _, _, rfl, _, _, rfl, _, rfl, by omega, by omega, ?_⟩
    refine for_range (fun i σ H' => ∃ t1 t2 t3 t4 t5 t6 t7 t8, σ = [some (.ref a), t1, t2, t3, t4, t5, t6, t7, t8] ∧ Same H H') ⟨none, none, none, none, none, none, none, none, rfl, Same.refl _⟩ ?_ ?_
    · rintro i σ H1 hi ⟨t1, t2, t3, t4, t5, t6, t7, t8, rfl, S1⟩
      refine ⟨_, rfl, _, rfl, a, ns, i, (by rw [Int.zero_add]; rfl), S1.seq hS, hlen, by omega, fun b H2 S2 nb1 hb2 => ?_⟩
      have nb : H b = none := S1.free nb1
      refine ⟨_, rfl, by decide, by decide, ?_⟩
      refine for_range (fun j σ H' => ∃ t1 t3 t4 t5 t6 t7 t8, σ = [some (.ref a), t1, some (.ref b), t3, t4, t5, t6, t7, t8] ∧ Same H H' ∧ Bag H' b) ⟨_, t3, t4, t5, t6, t7, t8, rfl, S1.trans S2, hb2⟩ ?_ ?_
      · rintro j σ H3 hj3 ⟨t1, t3, t4, t5, t6, t7, t8, rfl, S3, hb3⟩
        refine ⟨_, rfl, b, rfl, hb3, fun l xs ds H4 nl3 nlb hl4 hd4 hn hl6 B4 hb4 => ?_⟩
        have S4 : Same H H4 := B4.to_same S3 nb
        refine ⟨_, rfl, l, _, rfl, .inl (SqL.of hl4), fun g ng4 => ?_⟩
        have ng : H g = none := S4.free ng4
        have ngb : g ≠ b := (hb4.ne ng4).symm
        have S45 := same_newH (o := .lst xs) ng4
        have hl5 := S45 _ _ hl4
        have hd5 := DqA.buts (Buts.of_same S45) _ _ hd4
        have hb5 := hb4.same S45
        have hg5 : upd H4 g (.lst xs) g = some (.lst xs) := upd_same
        generalize upd H4 g (.lst xs) = H5 at *
        have hdl := dqA_len hd5
        obtain ⟨n1, n2, n3, n4, n5⟩ := nice_list hn (by omega)
        refine ⟨_, rfl, l, .list ds, rfl, .lst (SqL.of hl5) (DqA.dp _ _ hd5), n2, n3, n4, n5, _, _, rfl, ?_⟩
        refine ⟨_, rfl, l, xs, rfl, SqL.of hl5, by omega, dqA_ent hd5, fun H6 S56 => ?_⟩
        refine ⟨_, rfl, g, xs, rfl, .inl (SqL.of (S56 _ _ hg5)), by omega, fun x hx => (dqA_ent hd5 x hx).same S56, fun H7 S67 => ⟨_, _, rfl, ?_⟩⟩
        have S57 := S56.trans S67
        have S7 := (S4.trans S45).trans S57
        have hd7 := DqA.buts (Buts.of_same S57) _ _ hd5
        have hg7 := S57 _ _ hg5
        have hl7 := S57 _ _ hl5
        have hb7 := hb5.same S57
        have n1' : SeqAt.shaped (.list ds) = true := n1
        refine ⟨_, rfl, _, rfl, due_scal xs, _, rfl, ?_⟩
        rw [decide_eq_true rfl]
        refine iteF ?_
        obtain ⟨kt, hkt, hkb⟩ : ∃ kt, kd H7 (dueV xs) = some kt ∧ kt ≠ .bl := by
          rcases due_cases xs with h | ⟨i, h, _⟩ <;> rw [h]
          · exact ⟨.non, rfl, nofun⟩
          · exact ⟨.int, rfl, nofun⟩
        refine ⟨_, rfl, _, _, _, _, _, rfl, .ty _, kd_ok hkt, kit_bool kt, _, rfl, ?_⟩
        rw [decide_eq_false hkb]
        refine iteF ?_
        refine ⟨_, rfl, g, .list ds, rfl, .lst (SqL.of hg7) (DqA.dp _ _ hd7), n2, n3, n4, n5, _, rfl, rfl, _, rfl, ?_⟩
        rw [decide_eq_true rfl]
        refine iteF ?_
        rcases due_cases xs with hd | ⟨i, hd, i0, i2⟩
        · rw [hd]
          refine ⟨_, rfl, rfl, _, rfl, ?_⟩
          rw [decide_eq_true rfl]
          refine iteT ?_
          obtain ⟨ws, rfl, hw⟩ := due_words hd
          refine ⟨_, rfl, fun x dx nx ndx nxd => ?_⟩
          have SM : Same H7 (upd (upd H7 dx (.own x)) x (.ins C dx [])) := fun q o e => by
            rw [upd_ne (ne_of_none e nx), upd_ne (ne_of_none e ndx)]
            exact e
          refine ⟨x, g, dx, _, rfl, upd_same, .inl (SqL.of (SM _ _ hg7)), by omega, fun y hy => (dqA_ent hd7 y hy).same SM, hd, fun H8 B8 hT => ⟨rfl, ?_⟩⟩
          have S78 := made_same nx ndx B8
          obtain ⟨dy, u, hq, hu⟩ := hT
          refine ⟨x, C, dy, _, _, rfl, hq, TC.cl, TC.nC, rfl, _, rfl, l, _, rfl, .inl ⟨SqL.of (S78 _ _ hl7), fun t2 m2 => ?_⟩⟩
          have S8 := same_newH (o := .tup (ws.map V.str)) m2
          refine ⟨_, _, .tup (SqT.of (S8 _ _ hu)) (dp_strs ws), .tup (SqT.of upd_same) (dp_strs ws), shaped_tupW hw, shaped_tupW hw, _, rfl, ?_⟩
          rw [eqv_tups, decide_eq_true rfl]
          refine iteF ?_
          refine ⟨_, rfl, rfl, _, rfl, ?_⟩
          rw [decide_eq_true rfl]
          refine iteF ?_
          exact ⟨_, _, _, _, _, _, _, rfl, S7.trans (S78.trans S8), hb7.same (S78.trans S8)⟩
        · rw [hd]
          refine ⟨_, rfl, rfl, _, rfl, ?_⟩
          rw [decide_eq_false (show ¬ (V.int i = V.non) from nofun)]
          refine iteF ?_
          refine ⟨_, rfl, rfl, _, rfl, ?_⟩
          rw [decide_eq_false (show ¬ (V.int i = V.non) from nofun)]
          refine iteT ?_
          refine ⟨_, rfl, _, _, rfl, rfl, _, rfl, ite2 (fun hge => ?_) (fun _ => ?_)⟩
          rotate_left
          · exact ⟨_, _, _, _, _, _, _, rfl, S7, hb7⟩
          have hi0 : 0 ≤ i := of_decide_eq_true hge
          have hilt := due_lt hd hi0
          refine ⟨_, rfl, (by show 3 ≤ sizeLine; decide), fun p np => ?_⟩
          have S8 := same_newH (o := .lst [V.str "mended", V.str "zzzzzzzz", V.str "q"]) np
          refine ⟨b, p, _, rfl, hb7.new np, (hb7.ne np).symm, SqL.of upd_same, (fun e => nomatch e), (by show 3 < 1000000; decide), fun v H9 hv B9 hb9 => ?_⟩
          have hg9 := B9 _ _ ngb (S8 _ _ hg7)
          have hd9 := DqA.buts (Buts.of_but B9 (List.mem_cons_self (l := [l]))) _ _ (DqA.buts (Buts.of_same S8) _ _ hd7)
          have S9 : Same H H9 := B9.to_same (S7.trans S8) nb
          refine ⟨_, rfl, _, rfl, g, xs, i, i.toNat, rfl, rfl, hg9, ixN_of hi0 hilt, ?_⟩
          have hlen10 : (xs.set i.toNat v).length ≤ 1000 := by rw [List.length_set]; omega
          have ent : ∀ y ∈ xs.set i.toNat v, Ent (upd H9 g (.lst (xs.set i.toNat v))) y := fun y hy => by
            rcases List.mem_or_eq_of_mem_set hy with hy | rfl
            · obtain ⟨t, h1, h2⟩ := dqA_ent hd9 y hy
              exact ⟨t, by rw [kd_relist hg9]; exact h1, h2⟩
            · simp only [List.mem_cons, List.not_mem_nil, or_false] at hv
              rcases hv with rfl | rfl | rfl <;> exact ⟨.str, rfl, fun z e => by cases e; decide⟩
          generalize xs.set i.toNat v = ys at *
          refine ⟨_, rfl, g, ys, rfl, .inl (SqL.of upd_same), hlen10, ent, fun H11 S11 => ?_⟩
          refine ⟨_, rfl, g, ys, rfl, SqL.of (S11 _ _ upd_same), hlen10, fun y hy => (ent y hy).same S11, fun H12 S12 => ?_⟩
          refine ⟨due_scal ys, _, rfl, ?_⟩
          rw [decide_eq_true rfl]
          refine iteF ?_
          exact ⟨_, _, _, _, _, _, _, rfl, (put_same S9 ng).trans (S11.trans S12), (hb9.put ngb.symm).same (S11.trans S12)⟩
      · rintro σ H3 ⟨t1, t3, t4, t5, t6, t7, t8, rfl, S3, hb3⟩
        exact ⟨_, _, _, _, _, _, _, _, rfl, S3⟩
    · rintro σ H1 ⟨t1, t2, t3, t4, t5, t6, t7, t8, rfl, S1⟩
      exact k _
end
end K02

namespace Own
open PySem PySem.Spec PyProof.Rows L2
/-! ### facts of error classes, as tests -/
def oexO (C : Addr) : Option Obj → Bool
  | some ⟨.type "type", _, .cls cd, sl⟩ => (match cd.mro, sl.toList with
    | .ref D :: bm, [_, _, _, _, some (.builtin n), _] => decide (D = C) && (decide (n = "ValueError.__new__") && (!cd.hasDel && (cd.hasDict && PySem.HandSPX.refsVE bm)))
    | _, _ => false)
  | _ => false
theorem oexO_ok {K : PySem.W.Frag} {C : Addr} (q : oexO C (K.lookup C) = true) :
    ∃ nm q N bs bm sn sub ab col dd k0 k1 k2 k3 k5, K.lookup C = some (excClassObj nm q C N bs bm true sn sub ab col dd k0 k1 k2 k3 k5 "ValueError.__new__") ∧ PySem.HandSPX.refsVE bm = true := by
  unfold oexO at q
  split at q
  · rename_i dd cd sl ho
    split at q
    · rename_i D bm k0 k1 k2 k3 n k5 hm hs
      simp only [Bool.and_eq_true, Bool.not_eq_true', decide_eq_true_eq] at q
      obtain ⟨rfl, rfl, hdel, hdict, hbm⟩ := q
      obtain ⟨nm, bs, mro, ns, qn, hd, sn, sub, ab, col, del⟩ := cd
      dsimp only at hm hdel hdict
      subst hm hdel hdict
      obtain ⟨sl⟩ := sl
      dsimp only at hs
      subst hs
      exact ⟨nm, qn, ns, bs, bm, sn, sub, ab, col, dd, k0, k1, k2, k3, k5, ho, hbm⟩
    · cases q
  · cases q
def oexB (K : PySem.W.Frag) (C : Addr) : Bool := oexO C (K.lookup C) && (He.eqO (PySem.W.findIn K (.ref C) "__setattr__") (some (some (.builtin "object.__setattr__"))) && (decide (PySem.W.subIn K (.ref C) (.type "BaseException") = some true) && (decide (PySem.W.typeIn K (.ref C) = some (.type "type")) && PySem.W.keepIn K (.ref C))))
theorem oexB_ok {K : PySem.W.Frag} {C : Addr} (h : oexB K C = true) : OexC K C := by
  obtain ⟨h1, h⟩ := Bool.and_eq_true_iff.mp h
  obtain ⟨h2, h⟩ := Bool.and_eq_true_iff.mp h
  obtain ⟨h3, h⟩ := Bool.and_eq_true_iff.mp h
  obtain ⟨h4, h5⟩ := Bool.and_eq_true_iff.mp h
  exact ⟨oexO_ok h1, He.eqO_ok h2, of_decide_eq_true h3, of_decide_eq_true h4, h5⟩
def baseB (K : PySem.W.Frag) (B : Addr) : Bool := PySem.W.readsIn K B (.type "type") && (He.eqO (PySem.W.specialIn K (.ref B) "__getattribute__") (some (some (.builtin "type.__getattribute__"))) && (match PySem.W.findCls K (.ref B) (.type "type") "__init__" with
  | some (.val (.builtin n)) => decide (n = "ValueError.__init__")
  | _ => false))
theorem baseB_ok {K : PySem.W.Frag} {B : Addr} (h : baseB K B = true) : BaseI K B := by
  obtain ⟨h1, h⟩ := Bool.and_eq_true_iff.mp h
  obtain ⟨h2, h3⟩ := Bool.and_eq_true_iff.mp h
  refine ⟨⟨h1, He.eqO_ok h2⟩, ?_⟩
  clear h h1 h2
  split at h3
  · rename_i n e
    rw [e, of_decide_eq_true h3]
  · cases h3
def excCB (K : PySem.W.Frag) (D : Addr) : Bool := xfB K D && (He.eqO (PySem.W.findIn K (.ref D) "__class__") (some (some (.builtin "object.__class__"))) && (He.eqO (PySem.W.specialIn K (.builtin "object.__class__") "__get__") (some (some (.builtin "getset_descriptor.__get__"))) &&
  (decide (PySem.W.takesIn K (.builtin "object.__class__") = some true) && decide (PySem.W.mroIn K D (.type "object") = some true))))
theorem excCB_ok {K : PySem.W.Frag} {D : Addr} (h : excCB K D = true) : XfC K D ∧ ExcC K D := by
  obtain ⟨h1, h⟩ := Bool.and_eq_true_iff.mp h
  obtain ⟨h2, h⟩ := Bool.and_eq_true_iff.mp h
  obtain ⟨h3, h⟩ := Bool.and_eq_true_iff.mp h
  obtain ⟨h4, h5⟩ := Bool.and_eq_true_iff.mp h
  have x := xfB_ok h1
  exact ⟨x, ⟨x.ga, x.gg, x.exC, x.hdC, He.eqO_ok h2, He.eqO_ok h3, of_decide_eq_true h4, of_decide_eq_true h5⟩⟩
end Own

namespace K02
open PySem PySem.Spec PyProof.Rows L2 Own
def d_is_word : He.DefD := ⟨("is_word", none), "is_word", "is_word", defArgs s_is_word, defBody s_is_word, defScope s_is_word, [], []⟩
def d_copied : He.DefD := ⟨("copied", none), "copied", "copied", defArgs s_copied, defBody s_copied, defScope s_copied, [], []⟩
def d_BadTableinit : He.DefD := ⟨("BadTable", some "__init__"), "__init__", "BadTable.__init__", defArgs s_BadTableinit, defBody s_BadTableinit, defScope s_BadTableinit, [], []⟩
def d_first_bad : He.DefD := ⟨("first_bad", none), "first_bad", "first_bad", defArgs s_first_bad, defBody s_first_bad, defScope s_first_bad, [], []⟩
def d_Tableinit : He.DefD := ⟨("Table", some "__init__"), "__init__", "Table.__init__", defArgs s_Tableinit, defBody s_Tableinit, defScope s_Tableinit, [], []⟩
def d_law_bag : He.DefD := ⟨("_law_bag", none), "_law_bag", "_law_bag", defArgs s_law_bag, defBody s_law_bag, defScope s_law_bag, [], []⟩
def d_law_take : He.DefD := ⟨("_law_take", none), "_law_take", "_law_take", defArgs s_law_take, defBody s_law_take, defScope s_law_take, [], []⟩
def d_law_of : He.DefD := ⟨("_law_of", none), "_law_of", "_law_of", defArgs s_law_of, defBody s_law_of, defScope s_law_of, [], []⟩
def d_law_kept : He.DefD := ⟨("_law_kept", none), "_law_kept", "_law_kept", defArgs s_law_kept, defBody s_law_kept, defScope s_law_kept, [], []⟩
def d_law_is_word : He.DefD := ⟨("_law_is_word", none), "_law_is_word", "_law_is_word", defArgs s_law_is_word, defBody s_law_is_word, defScope s_law_is_word, [], []⟩
def d_law_odd : He.DefD := ⟨("_law_odd", none), "_law_odd", "_law_odd", defArgs s_law_odd, defBody s_law_odd, defScope s_law_odd, [], []⟩
def d_law_entries : He.DefD := ⟨("_law_entries", none), "_law_entries", "_law_entries", defArgs s_law_entries, defBody s_law_entries, defScope s_law_entries, [], []⟩
def d_law_due : He.DefD := ⟨("_law_due", none), "_law_due", "_law_due", defArgs s_law_due, defBody s_law_due, defScope s_law_due, [], []⟩
def d_law_told : He.DefD := ⟨("_law_told", none), "_law_told", "_law_told", defArgs s_law_told, defBody s_law_told, defScope s_law_told, [], []⟩
def d_law : He.DefD := ⟨("law", none), "law", "law", defArgs s_law, defBody s_law, defScope s_law, [], []⟩
def fn : List He.DefD := [d_is_word, d_copied, d_BadTableinit, d_first_bad, d_Tableinit, d_law_bag, d_law_take, d_law_of, d_law_kept, d_law_is_word, d_law_odd, d_law_entries, d_law_due, d_law_told, d_law]
def fa : List He.Fa := [.glo "is_word", .glo "copied", .glo "first_bad", .glo "_law_bag", .glo "_law_take", .glo "_law_of", .glo "_law_kept", .glo "_law_is_word", .glo "_law_odd", .glo "_law_entries", .glo "_law_due", .glo "_law_told", .glo "law", .free "len", .free "range", .free "enumerate", .free "int", .free "abs", .free "list", .free "tuple", .free "all", .free "isinstance", .free "max", .free "min", .free "str", .free "bool", .free "repr", .free "sorted", .free "set", .free "sum", .free "any", .free "dict", .cls "Table", .noat "Table" "columns", .mkr "Table", .int "WORD_LETTERS" 8, .int "MOST_COLUMNS" 3, .glo "KEPT", .glo "Table", .glo "EmptyfiltersError", .glo "BadTable", .glo "BadCondition", .glo "BadForm", .glo "BadRows", .meth "BadTable" "__init__", .noat "BadTable" "at", .exm "BadTable" "BadTable" true]
section
variable {K : PySem.W.Frag} {h : Heap} {mg : Str → Option Value}
theorem F_is_word (c : He.SaysD fa fn K) : ∃ fd, FunD K "is_word" "is_word" (defArgs s_is_word) (defBody s_is_word) (defScope s_is_word) [] [] (He.fAd K ("is_word", none)) fd := c.def_ 0 (d := d_is_word) rfl
theorem b_is_word {f : Addr} {fd : FuncData} (F : FunD K "is_word" "is_word" (defArgs s_is_word) (defBody s_is_word) (defScope s_is_word) [] [] f fd) : Binds K fd ["thing"] [] := F.bindsN fun _ _ _ _ _ _ us hl => match us, hl with | [_], _ => rfl
theorem F_copied (c : He.SaysD fa fn K) : ∃ fd, FunD K "copied" "copied" (defArgs s_copied) (defBody s_copied) (defScope s_copied) [] [] (He.fAd K ("copied", none)) fd := c.def_ 1 (d := d_copied) rfl
theorem b_copied {f : Addr} {fd : FuncData} (F : FunD K "copied" "copied" (defArgs s_copied) (defBody s_copied) (defScope s_copied) [] [] f fd) : Binds K fd ["thing"] [] := F.bindsN fun _ _ _ _ _ _ us hl => match us, hl with | [_], _ => rfl
theorem F_BadTableinit (c : He.SaysD fa fn K) : ∃ fd, FunD K "__init__" "BadTable.__init__" (defArgs s_BadTableinit) (defBody s_BadTableinit) (defScope s_BadTableinit) [] [] (He.fAd K ("BadTable", some "__init__")) fd := c.def_ 2 (d := d_BadTableinit) rfl
theorem b_BadTableinit {f : Addr} {fd : FuncData} (F : FunD K "__init__" "BadTable.__init__" (defArgs s_BadTableinit) (defBody s_BadTableinit) (defScope s_BadTableinit) [] [] f fd) : Binds K fd ["self", "at"] [] := F.bindsN fun _ _ _ _ _ _ us hl => match us, hl with | [_, _], _ => rfl
theorem F_first_bad (c : He.SaysD fa fn K) : ∃ fd, FunD K "first_bad" "first_bad" (defArgs s_first_bad) (defBody s_first_bad) (defScope s_first_bad) [] [] (He.fAd K ("first_bad", none)) fd := c.def_ 3 (d := d_first_bad) rfl
theorem b_first_bad {f : Addr} {fd : FuncData} (F : FunD K "first_bad" "first_bad" (defArgs s_first_bad) (defBody s_first_bad) (defScope s_first_bad) [] [] f fd) : Binds K fd ["names"] [] := F.bindsN fun _ _ _ _ _ _ us hl => match us, hl with | [_], _ => rfl
theorem F_Tableinit (c : He.SaysD fa fn K) : ∃ fd, FunD K "__init__" "Table.__init__" (defArgs s_Tableinit) (defBody s_Tableinit) (defScope s_Tableinit) [] [] (He.fAd K ("Table", some "__init__")) fd := c.def_ 4 (d := d_Tableinit) rfl
theorem b_Tableinit {f : Addr} {fd : FuncData} (F : FunD K "__init__" "Table.__init__" (defArgs s_Tableinit) (defBody s_Tableinit) (defScope s_Tableinit) [] [] f fd) : Binds K fd ["self", "columns"] [] := F.bindsN fun _ _ _ _ _ _ us hl => match us, hl with | [_, _], _ => rfl
theorem F_law_bag (c : He.SaysD fa fn K) : ∃ fd, FunD K "_law_bag" "_law_bag" (defArgs s_law_bag) (defBody s_law_bag) (defScope s_law_bag) [] [] (He.fAd K ("_law_bag", none)) fd := c.def_ 5 (d := d_law_bag) rfl
theorem b_law_bag {f : Addr} {fd : FuncData} (F : FunD K "_law_bag" "_law_bag" (defArgs s_law_bag) (defBody s_law_bag) (defScope s_law_bag) [] [] f fd) : Binds K fd ["script", "at"] [] := F.bindsN fun _ _ _ _ _ _ us hl => match us, hl with | [_, _], _ => rfl
theorem F_law_take (c : He.SaysD fa fn K) : ∃ fd, FunD K "_law_take" "_law_take" (defArgs s_law_take) (defBody s_law_take) (defScope s_law_take) [] [] (He.fAd K ("_law_take", none)) fd := c.def_ 6 (d := d_law_take) rfl
theorem b_law_take {f : Addr} {fd : FuncData} (F : FunD K "_law_take" "_law_take" (defArgs s_law_take) (defBody s_law_take) (defScope s_law_take) [] [] f fd) : Binds K fd ["bag", "many"] [] := F.bindsN fun _ _ _ _ _ _ us hl => match us, hl with | [_, _], _ => rfl
theorem F_law_of (c : He.SaysD fa fn K) : ∃ fd, FunD K "_law_of" "_law_of" (defArgs s_law_of) (defBody s_law_of) (defScope s_law_of) [] [] (He.fAd K ("_law_of", none)) fd := c.def_ 7 (d := d_law_of) rfl
theorem b_law_of {f : Addr} {fd : FuncData} (F : FunD K "_law_of" "_law_of" (defArgs s_law_of) (defBody s_law_of) (defScope s_law_of) [] [] f fd) : Binds K fd ["bag", "some"] [] := F.bindsN fun _ _ _ _ _ _ us hl => match us, hl with | [_, _], _ => rfl
theorem F_law_kept (c : He.SaysD fa fn K) : ∃ fd, FunD K "_law_kept" "_law_kept" (defArgs s_law_kept) (defBody s_law_kept) (defScope s_law_kept) [] [] (He.fAd K ("_law_kept", none)) fd := c.def_ 8 (d := d_law_kept) rfl
theorem b_law_kept {f : Addr} {fd : FuncData} (F : FunD K "_law_kept" "_law_kept" (defArgs s_law_kept) (defBody s_law_kept) (defScope s_law_kept) [] [] f fd) : Binds K fd [] [] := F.bindsN fun _ _ _ _ _ _ us hl => match us, hl with | [], _ => rfl
theorem F_law_is_word (c : He.SaysD fa fn K) : ∃ fd, FunD K "_law_is_word" "_law_is_word" (defArgs s_law_is_word) (defBody s_law_is_word) (defScope s_law_is_word) [] [] (He.fAd K ("_law_is_word", none)) fd := c.def_ 9 (d := d_law_is_word) rfl
theorem b_law_is_word {f : Addr} {fd : FuncData} (F : FunD K "_law_is_word" "_law_is_word" (defArgs s_law_is_word) (defBody s_law_is_word) (defScope s_law_is_word) [] [] f fd) : Binds K fd ["thing"] [] := F.bindsN fun _ _ _ _ _ _ us hl => match us, hl with | [_], _ => rfl
theorem F_law_odd (c : He.SaysD fa fn K) : ∃ fd, FunD K "_law_odd" "_law_odd" (defArgs s_law_odd) (defBody s_law_odd) (defScope s_law_odd) [] [] (He.fAd K ("_law_odd", none)) fd := c.def_ 10 (d := d_law_odd) rfl
theorem b_law_odd {f : Addr} {fd : FuncData} (F : FunD K "_law_odd" "_law_odd" (defArgs s_law_odd) (defBody s_law_odd) (defScope s_law_odd) [] [] f fd) : Binds K fd ["bag"] [] := F.bindsN fun _ _ _ _ _ _ us hl => match us, hl with | [_], _ => rfl
theorem F_law_entries (c : He.SaysD fa fn K) : ∃ fd, FunD K "_law_entries" "_law_entries" (defArgs s_law_entries) (defBody s_law_entries) (defScope s_law_entries) [] [] (He.fAd K ("_law_entries", none)) fd := c.def_ 11 (d := d_law_entries) rfl
theorem b_law_entries {f : Addr} {fd : FuncData} (F : FunD K "_law_entries" "_law_entries" (defArgs s_law_entries) (defBody s_law_entries) (defScope s_law_entries) [] [] f fd) : Binds K fd ["bag"] [] := F.bindsN fun _ _ _ _ _ _ us hl => match us, hl with | [_], _ => rfl
theorem F_law_due (c : He.SaysD fa fn K) : ∃ fd, FunD K "_law_due" "_law_due" (defArgs s_law_due) (defBody s_law_due) (defScope s_law_due) [] [] (He.fAd K ("_law_due", none)) fd := c.def_ 12 (d := d_law_due) rfl
theorem b_law_due {f : Addr} {fd : FuncData} (F : FunD K "_law_due" "_law_due" (defArgs s_law_due) (defBody s_law_due) (defScope s_law_due) [] [] f fd) : Binds K fd ["entries"] [] := F.bindsN fun _ _ _ _ _ _ us hl => match us, hl with | [_], _ => rfl
theorem F_law_told (c : He.SaysD fa fn K) : ∃ fd, FunD K "_law_told" "_law_told" (defArgs s_law_told) (defBody s_law_told) (defScope s_law_told) [] [] (He.fAd K ("_law_told", none)) fd := c.def_ 13 (d := d_law_told) rfl
theorem b_law_told {f : Addr} {fd : FuncData} (F : FunD K "_law_told" "_law_told" (defArgs s_law_told) (defBody s_law_told) (defScope s_law_told) [] [] f fd) : Binds K fd ["entries"] [] := F.bindsN fun _ _ _ _ _ _ us hl => match us, hl with | [_], _ => rfl
theorem F_law (c : He.SaysD fa fn K) : ∃ fd, FunD K "law" "law" (defArgs s_law) (defBody s_law) (defScope s_law) [] [] (He.fAd K ("law", none)) fd := c.def_ 14 (d := d_law) rfl
theorem b_law {f : Addr} {fd : FuncData} (F : FunD K "law" "law" (defArgs s_law) (defBody s_law) (defScope s_law) [] [] f fd) : Binds K fd ["script"] [] := F.bindsN fun _ _ _ _ _ _ us hl => match us, hl with | [_], _ => rfl
theorem g_is_word (X : K.In h) (G : h.Ns mainGlobals mg) (c : He.SaysD fa fn K) : mg "is_word" = some (.ref (He.fAd K ("is_word", none))) := He.glo_ok X G (c.fact 0 (f := .glo "is_word") rfl)
theorem g_copied (X : K.In h) (G : h.Ns mainGlobals mg) (c : He.SaysD fa fn K) : mg "copied" = some (.ref (He.fAd K ("copied", none))) := He.glo_ok X G (c.fact 1 (f := .glo "copied") rfl)
theorem g_first_bad (X : K.In h) (G : h.Ns mainGlobals mg) (c : He.SaysD fa fn K) : mg "first_bad" = some (.ref (He.fAd K ("first_bad", none))) := He.glo_ok X G (c.fact 2 (f := .glo "first_bad") rfl)
theorem g_law_bag (X : K.In h) (G : h.Ns mainGlobals mg) (c : He.SaysD fa fn K) : mg "_law_bag" = some (.ref (He.fAd K ("_law_bag", none))) := He.glo_ok X G (c.fact 3 (f := .glo "_law_bag") rfl)
theorem g_law_take (X : K.In h) (G : h.Ns mainGlobals mg) (c : He.SaysD fa fn K) : mg "_law_take" = some (.ref (He.fAd K ("_law_take", none))) := He.glo_ok X G (c.fact 4 (f := .glo "_law_take") rfl)
theorem g_law_of (X : K.In h) (G : h.Ns mainGlobals mg) (c : He.SaysD fa fn K) : mg "_law_of" = some (.ref (He.fAd K ("_law_of", none))) := He.glo_ok X G (c.fact 5 (f := .glo "_law_of") rfl)
theorem g_law_kept (X : K.In h) (G : h.Ns mainGlobals mg) (c : He.SaysD fa fn K) : mg "_law_kept" = some (.ref (He.fAd K ("_law_kept", none))) := He.glo_ok X G (c.fact 6 (f := .glo "_law_kept") rfl)
theorem g_law_is_word (X : K.In h) (G : h.Ns mainGlobals mg) (c : He.SaysD fa fn K) : mg "_law_is_word" = some (.ref (He.fAd K ("_law_is_word", none))) := He.glo_ok X G (c.fact 7 (f := .glo "_law_is_word") rfl)
theorem g_law_odd (X : K.In h) (G : h.Ns mainGlobals mg) (c : He.SaysD fa fn K) : mg "_law_odd" = some (.ref (He.fAd K ("_law_odd", none))) := He.glo_ok X G (c.fact 8 (f := .glo "_law_odd") rfl)
theorem g_law_entries (X : K.In h) (G : h.Ns mainGlobals mg) (c : He.SaysD fa fn K) : mg "_law_entries" = some (.ref (He.fAd K ("_law_entries", none))) := He.glo_ok X G (c.fact 9 (f := .glo "_law_entries") rfl)
theorem g_law_due (X : K.In h) (G : h.Ns mainGlobals mg) (c : He.SaysD fa fn K) : mg "_law_due" = some (.ref (He.fAd K ("_law_due", none))) := He.glo_ok X G (c.fact 10 (f := .glo "_law_due") rfl)
theorem g_law_told (X : K.In h) (G : h.Ns mainGlobals mg) (c : He.SaysD fa fn K) : mg "_law_told" = some (.ref (He.fAd K ("_law_told", none))) := He.glo_ok X G (c.fact 11 (f := .glo "_law_told") rfl)
theorem g_law (X : K.In h) (G : h.Ns mainGlobals mg) (c : He.SaysD fa fn K) : mg "law" = some (.ref (He.fAd K ("law", none))) := He.glo_ok X G (c.fact 12 (f := .glo "law") rfl)
theorem free_all (X : K.In h) (G : h.Ns mainGlobals mg) (c : He.SaysD fa fn K) : Free mg := ⟨He.free_ok X G (c.fact 13 (f := .free "len") rfl), He.free_ok X G (c.fact 14 (f := .free "range") rfl), He.free_ok X G (c.fact 15 (f := .free "enumerate") rfl), He.free_ok X G (c.fact 16 (f := .free "int") rfl), He.free_ok X G (c.fact 17 (f := .free "abs") rfl), He.free_ok X G (c.fact 18 (f := .free "list") rfl), He.free_ok X G (c.fact 19 (f := .free "tuple") rfl), He.free_ok X G (c.fact 20 (f := .free "all") rfl), He.free_ok X G (c.fact 21 (f := .free "isinstance") rfl), He.free_ok X G (c.fact 22 (f := .free "max") rfl), He.free_ok X G (c.fact 23 (f := .free "min") rfl), He.free_ok X G (c.fact 24 (f := .free "str") rfl), He.free_ok X G (c.fact 25 (f := .free "bool") rfl), He.free_ok X G (c.fact 26 (f := .free "repr") rfl), He.free_ok X G (c.fact 27 (f := .free "sorted") rfl), He.free_ok X G (c.fact 28 (f := .free "set") rfl), He.free_ok X G (c.fact 29 (f := .free "sum") rfl), He.free_ok X G (c.fact 30 (f := .free "any") rfl), He.free_ok X G (c.fact 31 (f := .free "dict") rfl)⟩
theorem x_0 (c : He.SaysD fa fn K) : (He.Fa.cls "Table").ok K = true := c.fact 32 (f := .cls "Table") rfl
theorem x_1 (c : He.SaysD fa fn K) : (He.Fa.noat "Table" "columns").ok K = true := c.fact 33 (f := .noat "Table" "columns") rfl
theorem x_2 (c : He.SaysD fa fn K) : (He.Fa.mkr "Table").ok K = true := c.fact 34 (f := .mkr "Table") rfl
theorem x_3 (c : He.SaysD fa fn K) : (He.Fa.int "WORD_LETTERS" 8).ok K = true := c.fact 35 (f := .int "WORD_LETTERS" 8) rfl
theorem x_4 (c : He.SaysD fa fn K) : (He.Fa.int "MOST_COLUMNS" 3).ok K = true := c.fact 36 (f := .int "MOST_COLUMNS" 3) rfl
theorem x_5 (c : He.SaysD fa fn K) : (He.Fa.glo "KEPT").ok K = true := c.fact 37 (f := .glo "KEPT") rfl
theorem x_6 (c : He.SaysD fa fn K) : (He.Fa.glo "Table").ok K = true := c.fact 38 (f := .glo "Table") rfl
theorem x_7 (c : He.SaysD fa fn K) : (He.Fa.glo "EmptyfiltersError").ok K = true := c.fact 39 (f := .glo "EmptyfiltersError") rfl
theorem x_8 (c : He.SaysD fa fn K) : (He.Fa.glo "BadTable").ok K = true := c.fact 40 (f := .glo "BadTable") rfl
theorem x_9 (c : He.SaysD fa fn K) : (He.Fa.glo "BadCondition").ok K = true := c.fact 41 (f := .glo "BadCondition") rfl
theorem x_10 (c : He.SaysD fa fn K) : (He.Fa.glo "BadForm").ok K = true := c.fact 42 (f := .glo "BadForm") rfl
theorem x_11 (c : He.SaysD fa fn K) : (He.Fa.glo "BadRows").ok K = true := c.fact 43 (f := .glo "BadRows") rfl
theorem x_12 (c : He.SaysD fa fn K) : (He.Fa.meth "BadTable" "__init__").ok K = true := c.fact 44 (f := .meth "BadTable" "__init__") rfl
theorem x_13 (c : He.SaysD fa fn K) : (He.Fa.noat "BadTable" "at").ok K = true := c.fact 45 (f := .noat "BadTable" "at") rfl
theorem x_14 (c : He.SaysD fa fn K) : (He.Fa.exm "BadTable" "BadTable" true).ok K = true := c.fact 46 (f := .exm "BadTable" "BadTable" true) rfl
end
/-! ### the hook: the facts, and some more -/
def exB (K : PySem.W.Frag) : Bool := He.tupB K "KEPT" (keptL.map He.Dv.str) && (baseB K (He.ga K "EmptyfiltersError") && (oexB K (He.ga K "BadTable") && (excCB K (He.ga K "BadTable") &&
  (decide (PySem.W.kitOne K (.ref (He.ga K "BadTable")) (.ref (He.ga K "EmptyfiltersError")) = some true) && decide (PySem.W.kitAny K (.ref (He.ga K "BadTable")) [.ref (He.ga K "BadCondition"), .ref (He.ga K "BadForm"), .ref (He.ga K "BadRows")] = some false)))))
abbrev AlM : Type := He.AlD × Bool
def asM (g : Addr → Option Obj) : List Addr := cStatics :: He.asD g 5
def obsMG (g : Addr → Option Obj) : AlM := (He.obsD fa fn (He.frG g (asM g)), exB (He.frG g (asM g)))
def valM : AlM := (He.valD fn, true)
def SaysM (K : PySem.W.Frag) : Prop := He.SaysD fa fn K ∧ exB K = true
def hkM : PySem.W.Hook where
  α := AlM
  obs := fun s => obsMG s.heap.get?
  val := fun _ => valM
  says := fun _ h => ∃ K : PySem.W.Frag, K.In h ∧ SaysM K
  of := fun _ _ e => ⟨_, He.frG_in, congrArg (fun z : AlM => z.1) e, congrArg (fun z : AlM => z.2) e⟩
  keeps := fun _ _ _ ⟨K, hK, c⟩ k => ⟨K, PySem.W.Frag.In.keeps hK k, c⟩
abbrev R : PySem.W.OpenRow := PySem.W.OpenLaw.row PySem.Challenge.rw_emptyfilters_k02_tables_refused
def ob (s : PySem.W.SharedT) : AlM := obsMG (HandSHeadRun.getT s)
theorem ob_eq (s : PySem.W.SharedT) : ob s = hkM.obs s.abs := by
  have e : HandSHeadRun.getT s = s.abs.heap.get? := funext (HandSHeadRun.getT_eq s)
  unfold ob
  rw [e] <;> rfl
theorem run (w : World) : HandSHeadRun.RunEq R (PySem.W.view R.prog [26]) hkM ob 4000 ["__name__", "KEPT", "WORD_LETTERS", "is_integer", "is_word", "copied", "EmptyfiltersError", "BadTable", "BadCondition", "BadRows", "BadForm", "MOST_COLUMNS", "first_bad", "Table", "_law_bag", "_law_take", "_law_of", "_law_kept", "_law_is_word", "_law_odd", "_law_entries", "_law_due", "_law_told"] w := by
  intro os
  kernel_rfl
end K02

namespace K02
open PySem PySem.Spec PyProof.Rows L2 Own
theorem strs_dv {K : PySem.W.Frag} (l : List Str) : (l.map He.Dv.str).map (He.Dv.v K) = l.map V.str := by
  rw [List.map_map]
  rfl
theorem facts {P : Program} {w : World} {K : PySem.W.Frag} {h : Heap} {mg : Str → Option Value} {f : Addr} (X : K.In h) (G : h.Ns mainGlobals mg) (hfa : mg ("law" : Str) = some (.ref f)) (s : SaysM K) :
    ∃ fd : FuncData, (∀ (s : Shared) (v : Value), BindsTo s fd ⟨[v], []⟩ [("script", v)]) ∧ ∀ base : Heap, K.In base → base.Ns mainGlobals mg → Asked P w K mg base f fd ["script"] (spLaw K) := by
  obtain ⟨c, hex⟩ := s
  obtain ⟨hex, ex2⟩ := Bool.and_eq_true_iff.mp hex
  obtain ⟨exBase, ex3⟩ := Bool.and_eq_true_iff.mp ex2
  obtain ⟨exOex, ex4⟩ := Bool.and_eq_true_iff.mp ex3
  obtain ⟨exExc, ex5⟩ := Bool.and_eq_true_iff.mp ex4
  obtain ⟨exIn, exNot⟩ := Bool.and_eq_true_iff.mp ex5
  have BI := baseB_ok exBase
  have OX := oexB_ok exOex
  obtain ⟨XF, XC⟩ := excCB_ok exExc
  obtain ⟨fd1, F1⟩ := F_copied c
  obtain ⟨fd2, F2⟩ := F_is_word c
  obtain ⟨fd3, F3⟩ := F_first_bad c
  obtain ⟨fd4, F4⟩ := F_Tableinit c
  obtain ⟨fd5, F5⟩ := F_BadTableinit c
  obtain ⟨fd6, F6⟩ := F_law_bag c
  obtain ⟨fd7, F7⟩ := F_law_take c
  obtain ⟨fd8, F8⟩ := F_law_of c
  obtain ⟨fd9, F9⟩ := F_law_kept c
  obtain ⟨fd10, F10⟩ := F_law_is_word c
  obtain ⟨fd11, F11⟩ := F_law_odd c
  obtain ⟨fd12, F12⟩ := F_law_entries c
  obtain ⟨fd13, F13⟩ := F_law_due c
  obtain ⟨fd14, F14⟩ := F_law_told c
  obtain ⟨fd, F⟩ := F_law c
  have e := hfa.symm.trans (g_law X G c)
  cases e
  have b := FunD.bindsA (ps := ["script"]) F fun _ _ _ _ _ _ us hl => match us, hl with | [_], _ => rfl
  have T0 := free_all X G c
  have T : Txt K mg (He.ga K "KEPT") := { T0 with
    g_KEPT := He.glo_ok X G (x_5 c)
    s_KEPT := fun H => by
      have q := He.tupB_ok hex H
      rw [strs_dv] at q
      exact q
    g_WORD_LETTERS := He.int_ok X G (x_3 c)
    g_MOST_COLUMNS := He.int_ok X G (x_4 c) }
  have TC : TxC K (He.ga K "Table") := ⟨He.cls_ok (x_0 c), He.noat_ok (x_1 c)⟩
  have TE : TxE K mg (He.ga K "EmptyfiltersError") (He.ga K "BadTable") (He.ga K "BadCondition") (He.ga K "BadForm") (He.ga K "BadRows") := { T0 with
    g_EmptyfiltersError := He.glo_ok X G (x_7 c)
    g_BadTable := He.glo_ok X G (x_8 c)
    g_BadCondition := He.glo_ok X G (x_9 c)
    g_BadForm := He.glo_ok X G (x_10 c)
    g_BadRows := He.glo_ok X G (x_11 c)
    own := He.exm_ok (x_14 c)
    inB := of_decide_eq_true exIn
    notC := of_decide_eq_true exNot
    exc := XC }
  have M := He.meth_ok (x_12 c)
  refine ⟨fd, fun s v => b s [v] rfl, fun base _ _ => ?_⟩
  have c1 : Cal P w K mg base CX0 1 "copied" _ fd1 ["thing"] spCopied := ⟨ok_copied F1 T0, g_copied X G c, F1.kp, b_copied F1⟩
  have c2 : Cal P w K mg base CX0 1 "is_word" _ fd2 ["thing"] spIsWord := ⟨ok_is_word F2 T, g_is_word X G c, F2.kp, b_is_word F2⟩
  have c3 : Cal P w K mg base CX0 2 "first_bad" _ fd3 ["names"] (spFirstBadA K) := ⟨ok_first_bad F3 T c2, g_first_bad X G c, F3.kp, b_first_bad F3⟩
  have c5 : CalE P w K mg base CX0 2 "BadTable" (He.ga K "BadTable") _ fd5 ["self", "at"] (spErrAt (He.ga K "BadTable")) :=
    ⟨ok_BadTableinit F5 T0 BI (He.glo_ok X G (x_7 c)) OX (He.noat_ok (x_13 c)) c1, OX, M.at_, beq_iff_eq.mp M.fn, He.glo_ok X G (x_8 c), b_BadTableinit F5⟩
  have c4 : CalI P w K mg base CX0 3 "Table" (He.ga K "Table") _ fd4 ["self", "columns"] (spTableA K (He.ga K "Table")) := ⟨ok_Tableinit F4 T TC c3, He.mkr_ok (x_2 c), He.glo_ok X G (x_6 c), b_Tableinit F4⟩
  have c4x : CalI P w K mg base (L2.CX P w) 4 "Table" (He.ga K "Table") _ fd4 ["self", "columns"] (spTableX K (He.ga K "Table") (He.ga K "BadTable")) := ⟨ok_TableinitX F4 T TC c3 c5, He.mkr_ok (x_2 c), He.glo_ok X G (x_6 c), b_Tableinit F4⟩
  have c6 : Cal P w K mg base CX0 1 "_law_bag" _ fd6 ["script", "at"] (spBag K) := ⟨ok_bag F6 T0, g_law_bag X G c, F6.kp, b_law_bag F6⟩
  have c7 : Cal P w K mg base CX0 1 "_law_take" _ fd7 ["bag", "many"] spTake := ⟨ok_take F7 T0, g_law_take X G c, F7.kp, b_law_take F7⟩
  have c8 : Cal P w K mg base CX0 2 "_law_of" _ fd8 ["bag", "some"] (spOf K) := ⟨ok_of F8 T0 c7, g_law_of X G c, F8.kp, b_law_of F8⟩
  have c9 : Cal P w K mg base CX0 1 "_law_kept" _ fd9 [] spKept := ⟨ok_kept F9 T0, g_law_kept X G c, F9.kp, b_law_kept F9⟩
  have c10 : Cal P w K mg base CX0 2 "_law_is_word" _ fd10 ["thing"] spIsWord := ⟨ok_lword F10 T0 c9, g_law_is_word X G c, F10.kp, b_law_is_word F10⟩
  have c11 : Cal P w K mg base CX0 3 "_law_odd" _ fd11 ["bag"] spOdd := ⟨ok_odd F11 T0 c9 c8, g_law_odd X G c, F11.kp, b_law_odd F11⟩
  have c12 : Cal P w K mg base CX0 4 "_law_entries" _ fd12 ["bag"] spEntries := ⟨ok_entries F12 T0 c7 c8 c11, g_law_entries X G c, F12.kp, b_law_entries F12⟩
  have c13 : Cal P w K mg base CX0 3 "_law_due" _ fd13 ["entries"] (spDue K) := ⟨ok_due F13 T0 c10, g_law_due X G c, F13.kp, b_law_due F13⟩
  have c14 : Cal P w K mg base CX0 6 "_law_told" _ fd14 ["entries"] (spTold K) := ⟨ok_told F14 TE XF (He.noat_ok (x_13 c)) c4x, g_law_told X G c, F14.kp, b_law_told F14⟩
  exact ok_law F T0 TC c6 c8 c12 c4 c13 c14
end K02
open PySem PySem.W PySem.Calls PyProof.Rows
set_option maxHeartbeats 0 in
theorem PySem.Challenge.cw_emptyfilters_k02_tables_refused_holds : PySem.Challenge.rw_emptyfilters_k02_tables_refused.Holds := by
  w_on; o_law
  refine HandSHeadRun.head_any (r := OpenLaw.row PySem.Challenge.rw_emptyfilters_k02_tables_refused) (q := view (OpenLaw.row PySem.Challenge.rw_emptyfilters_k02_tables_refused).prog [26]) (H := K02.hkM) (ob := K02.ob) (M := 4000) (loose := ["__name__", "KEPT", "WORD_LETTERS", "is_integer", "is_word", "copied", "EmptyfiltersError", "BadTable", "BadCondition", "BadRows", "BadForm", "MOST_COLUMNS", "first_bad", "Table", "_law_bag", "_law_take", "_law_of", "_law_kept", "_law_is_word", "_law_odd", "_law_entries", "_law_due", "_law_told"]) (d := HandSHeadRun.topDef (OpenLaw.row PySem.Challenge.rw_emptyfilters_k02_tables_refused).prog 26) (kwd := []) K02.ob_eq
    (by kernel_rfl) (fun s => by kernel_rfl) K02.run (by kernel_rfl) (by kernel_rfl) (by kernel_rfl) (by rfl) (by first | assumption | decide +kernel) (by decide +kernel) ⟨rfl, rfl, rfl, rfl, rfl, by decide +kernel⟩ ?hw ?hc
  case hw => w_witness2
  case hc =>
    refine Own.asked_walk (l := PySem.Challenge.rw_emptyfilters_k02_tables_refused) (n := 63) (x := "script") rfl (by decide) (by kernel_rfl) ?F
    intro w mg fa h Y G hmg0
    obtain ⟨K, KX, c⟩ := Y
    have hmg : mg ("law" : PySem.Str) = some (.ref fa) := by
      have e : (HandSHeadRun.topDef (OpenLaw.row PySem.Challenge.rw_emptyfilters_k02_tables_refused).prog 26).name = ("law" : PySem.Str) := by kernel_rfl
      rw [← e]
      exact hmg0
    obtain ⟨fd, hb, hF⟩ := K02.facts (P := (PySem.Challenge.rw_emptyfilters_k02_tables_refused).prog) (w := w) KX G hmg c
    exact ⟨K, fd, K02.spLaw K, KX, hb, fun H a ns hl hS => ⟨a, ns, rfl, hS, hl, fun _ => rfl⟩, hF⟩

