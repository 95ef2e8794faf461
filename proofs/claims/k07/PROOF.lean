import PyProof.Rows.All
import Wide.All
import OpenK.AllK
import Wide.FinOn
import HandS.ForMost
import HandS.IsInst
import HandS.TupAny
import HandS.TupMul
import HandS.Wide
import HandS.OwnEq
import HandS.Walk
import HandS.Defaults
import PyProof.InstNe
import KE.KFmtOwn
import HandS.Style
import HandS.FStr
import HandS.Small
import KE.GoesEnum
import PyProof.CollectStr
import PyProof.ListNew
import PyProof.ListRange
import HandS.ForExc
import HandS.ExcInit
import HandS.ExcField
import HandS.ExcIs
import HandS.ClsMeth
import KE.KExcIs
import HandS.Ends
import HandS.HeadEnd
import PyProof.ReprRoads
import PyProof.ReprLen
import PyProof.StrLawsRepr
import HandS.Deep
import PyProof.P3In
import HandS.StrMore
import PyProof.LongRange
import HandS.SetFor
import HandS.Strs
import HandS.Star
import KE.IntTextLaws
import PyProof.StrLaws
import HandS.TryOnly
import HandS.DictComp
import KE.KDictCopyH
import HandS.Flt
import HandS.BoundList
import KE.KIntText
import HandS.Head0
import HandS.Head1
import HandS.Head2
import HandS.HeadHook1
import HandS.HeadHook2
import HandS.HeadHook3
import HandS.Property
import PyProof.StrOps2
import PyProof.CallFns
import PySem.Challenge.RW_emptyfilters_k07_whole_conditions_by_row
set_option Elab.async false
set_option linter.all false
set_option maxRecDepth 100000
set_option maxHeartbeats 4000000
namespace Own
open PySem PySem.Spec PyProof.Rows L2
section
variable {X : Cx} {n : Nat}
theorem run_own {CX : CXT} {f : Addr} {fd : FuncData} {ps : List Str} {sp : Sp} {E : XK} (F : FnOk X.prog X.w X.K X.mg X.base CX n f fd ps sp)
    (hb : Binds X.K fd ps []) (hx : Passes CX X E) (hr : Room n X.A) {pins : List (Addr × Obj)} {s : Shared} {σ : L2.St} {H : Hp} {vs : List V} {us : List Value} {Q : V → Hp → Prop} (I : Inv X pins σ H s) (r : Vals vs us)
    (hsp : sp vs H Q E) : wpAny (model X.prog X.w) X.A (call (.ref f) us) (EP X pins σ Q) X.xe s :=
  run_fn (ds := []) (dvs := []) F hr hb .nil hx I r (by rw [List.append_nil]; exact hsp)
/-- x in o, by an own __contains__ at f -/
def rInOwn (C : Addr) (neg : Bool) (sp : Sp) (E : XK) : R2 := fun x y H Q => ∃ a dx fs, y = .ref a ∧ H a = some (.ins C dx fs) ∧ sp [.ref a, x] H (fun v H' => ∃ b, v = .bl b ∧ Q (.bl (if neg then !b else b)) H') E
theorem contains_own {CX : CXT} {C f : Addr} {fd : FuncData} {ps : List Str} {sp : Sp} {E : XK} (F : FnOk X.prog X.w X.K X.mg X.base CX n f fd ps sp)
    (hm : Meth X.K C "__contains__" f) (hb : Binds X.K fd ps []) (hx : Passes CX X E) (hr : Room n X.A) {pins : List (Addr × Obj)} {s : Shared} {σ : L2.St} {H : Hp} {x : V} {v : Value} {a dx : Addr} {fs : List (Str × V)} {Q : Bool → Hp → Prop} (I : Inv X pins σ H s) (rx : RelV x v)
    (ha : H a = some (.ins C dx fs)) (hsp : sp [.ref a, x] H (fun v H' => ∃ b, v = .bl b ∧ Q b H') E) :
    wpAny (model X.prog X.w) X.A (contains (.ref a) v) (fun b s' => ∃ H', Inv X pins σ H' s' ∧ Q b H') X.xe s := by
  obtain ⟨mA, J, _⟩ := ins_get I.hok ha
  obtain ⟨od, J, _⟩ := J.look
  have hK := I.kIn
  have hf := PySem.W.looks_findIn (M := model X.prog X.w) hK hm.at_
  unfold contains
  refine wpAny_holding ?_
  have hs0 : stdlibNamesSay? (.ref a) v = none := by rfl
  rw [hs0]
  show wpAny (model X.prog X.w) X.A (specialOf (.ref a) "__contains__" >>= _) _ _ _
  unfold specialOf
  refine wpAny_bind (wpAny_bind (J.type.here (hf.here ?_)))
  have e1 : ((some (Value.ref f)) == some Value.none) = false := by rfl
  dsimp only
  rw [e1]
  simp only [Bool.false_eq_true, if_false]
  unfold callSpecialUnlessNone? specialOf
  refine wpAny_bind (wpAny_bind (wpAny_bind (J.type.here (hf.here ?_))))
  refine wpAny_holding (wpAny_bind ((PySem.W.bind_fn hK _ (beq_iff_eq.mp hm.fn)).here ?_))
  dsimp only
  have e2 : (Value.ref f == Value.none) = false := by rfl
  rw [e2]
  simp only [Bool.false_eq_true, if_false]
  show wpAny (model X.prog X.w) X.A (call (.ref f) [.ref a, v] >>= _) _ _ _
  have r2 : Vals [V.ref a, x] [Value.ref a, v] := .cons rfl (.cons rx .nil)
  refine wpAny_bind (thn (run_own (n := n) F hb hx hr I r2 hsp) fun u s1 ⟨z, H1, I1, rz, b, ez, q⟩ => ?_)
  subst ez
  cases rz
  refine wpAny_pure ?_
  show wpAny (model X.prog X.w) X.A (truthy (.bool b)) _ _ _
  exact wpAny_pure ⟨H1, I1, q⟩
theorem op_in_own {CX : CXT} {C f : Addr} {fd : FuncData} {ps : List Str} {sp : Sp} {E : XK} (F : FnOk X.prog X.w X.K X.mg X.base CX n f fd ps sp)
    (hm : Meth X.K C "__contains__" f) (hb : Binds X.K fd ps []) (hx : Passes CX X E) (hr : Room n X.A) : OpR X (compareOp .In) (rInOwn C false sp E) := by
  intro pins s σ H x y v u Q I rx ry hq
  obtain ⟨a, dx, fs, rfl, ha, h⟩ := hq
  cases ry
  refine wpAny_bind (thn (contains_own F hm hb hx hr I rx ha (Q := fun b H' => Q (.bl b) H') h) fun b s1 ⟨H1, I1, q⟩ => ?_)
  exact wpAny_pure ⟨.bl b, H1, I1, rfl, q⟩
theorem op_notIn_own {CX : CXT} {C f : Addr} {fd : FuncData} {ps : List Str} {sp : Sp} {E : XK} (F : FnOk X.prog X.w X.K X.mg X.base CX n f fd ps sp)
    (hm : Meth X.K C "__contains__" f) (hb : Binds X.K fd ps []) (hx : Passes CX X E) (hr : Room n X.A) : OpR X (compareOp .NotIn) (rInOwn C true sp E) := by
  intro pins s σ H x y v u Q I rx ry hq
  obtain ⟨a, dx, fs, rfl, ha, h⟩ := hq
  cases ry
  refine wpAny_bind (thn (contains_own F hm hb hx hr I rx ha (Q := fun b H' => Q (.bl (!b)) H') h) fun b s1 ⟨H1, I1, q⟩ => ?_)
  exact wpAny_pure ⟨.bl (!b), H1, I1, rfl, q⟩
end
/-! ### callees by name -/
structure Cal (P : Program) (w : World) (K : PySem.W.Frag) (mg : Str → Option Value) (base : Heap) (CX : CXT) (k : Nat) (x : Str) (f : Addr) (fd : FuncData) (ps : List Str) (sp : Sp) : Prop where
  ok : FnOk P w K mg base CX k f fd ps sp
  at_ : mg x = some (.ref f)
  kp : PySem.W.keepIn K (.ref f) = true
  b : Binds K fd ps []
theorem pe_cal {X : Cx} {k : Nat} {x : Str} {f : Addr} {fd : FuncData} {ps : List Str} {sp : Sp} {e : Expr} {es : List Expr} {t : TA} {p pos : Pos} (c : Cal X.prog X.w X.K X.mg X.base CX0 k x f fd ps sp) (hr : Room k X.A) (ha : PA X (e :: es) t)
    (hg : Gl X x := by rfl) (hdb : (x == ("__debug__" : Str)) = false := by decide) (he : starEach (e :: es) X.env = (false, eval e X.env) :: starEach es X.env := by rfl) (hpl : (backTo pos (starEach es X.env)).any (·.1) = false := by rfl) :
    PE X (.Call (.Name x p) (e :: es) [] pos) (tCall sp [] E0 t) := pe_call c.ok hr hg c.at_ c.kp c.b .nil pass0 ha hdb he hpl
theorem pe_gint {X : Cx} {x : Str} {i : Int} {pos : Pos} (hg : Gl X x) (hm : ∃ t, X.mg x = some (.int i t)) (hd : (x == ("__debug__" : Str)) = false := by decide) : PE X (.Name x pos) (tC (.int i)) := by
  obtain ⟨t, h⟩ := hm
  exact pe_glob hg h ⟨t, rfl⟩ hd
theorem hu_of' {k : Nat} {A : Around} (hr : Room k A) : A.units + 64 < cLine := hr.units
/-! ### builtins that the top leaves -/
structure Free (mg : Str → Option Value) : Prop where
  len : mg "len" = none
  range : mg "range" = none
  enumerate : mg "enumerate" = none
  int : mg "int" = none
  abs : mg "abs" = none
  list : mg "list" = none
  tuple : mg "tuple" = none
  all : mg "all" = none
  isinstance : mg "isinstance" = none
  max : mg "max" = none
  min : mg "min" = none
  str : mg "str" = none
  bool : mg "bool" = none
  repr : mg "repr" = none
  sorted : mg "sorted" = none
  set : mg "set" = none
  sum : mg "sum" = none
  any : mg "any" = none
  dict : mg "dict" = none
/-! ### the bag: a list of two ints, and what a draw from it leaves -/
def Bag (H : Hp) (b : Addr) : Prop := ∃ x y : Int, H b = some (.lst [.int x, .int y]) ∧ 0 ≤ x ∧ 0 ≤ y
def But (b : Addr) (H H' : Hp) : Prop := ∀ a o, a ≠ b → H a = some o → H' a = some o
theorem But.refl {b : Addr} {H : Hp} : But b H H := fun _ _ _ h => h
theorem But.trans {b : Addr} {H H1 H2 : Hp} (x : But b H H1) (y : But b H1 H2) : But b H H2 := fun a o n h => y a o n (x a o n h)
theorem But.same {b : Addr} {H H1 : Hp} (x : Same H H1) : But b H H1 := fun a o _ h => x a o h
theorem But.new {b p : Addr} {H H1 : Hp} {o : HO} (x : But b H H1) (hp : H1 p = none) : But b H (upd H1 p o) := fun a u n h => by
  have q := x a u n h
  rw [upd_ne (ne_of_none q hp)]
  exact q
theorem But.put {b : Addr} {H H1 : Hp} {o : HO} (x : But b H H1) : But b H (upd H1 b o) := fun a u n h => by
  rw [upd_ne n]
  exact x a u n h
theorem But.putb {b p : Addr} {H H1 : Hp} {o : HO} (x : But b H H1) (hp : H p = none) : But b H (upd H1 p o) := fun a u n h => by
  rw [upd_ne (ne_of_none h hp)]
  exact x a u n h
theorem But.list {K : PySem.W.Frag} {b a : Addr} {H H1 : Hp} {xs : List V} (x : But b H H1) (n : a ≠ b) (h : SqL K H a xs) : SqL K H1 a xs := by
  rcases h with (h | ⟨o, h⟩) | h
  · exact .inl (.inl (x _ _ n h))
  · exact .inl (.inr ⟨o, x _ _ n h⟩)
  · exact .inr h
theorem But.tup {K : PySem.W.Frag} {b a : Addr} {H H1 : Hp} {xs : List V} (x : But b H H1) (n : a ≠ b) (h : SqT K H a xs) : SqT K H1 a xs := by
  rcases h with (h | ⟨o, h⟩) | h
  · exact .inl (.inl (x _ _ n h))
  · exact .inl (.inr ⟨o, x _ _ n h⟩)
  · exact .inr h
theorem Bag.new {b p : Addr} {H : Hp} {o : HO} (x : Bag H b) (hp : H p = none) : Bag (upd H p o) b := by
  obtain ⟨x, y, h, h0, h1⟩ := x
  exact ⟨x, y, by rw [upd_ne (ne_of_none h hp)]; exact h, h0, h1⟩
theorem Bag.ne {b p : Addr} {H : Hp} (x : Bag H b) (hp : H p = none) : b ≠ p := by
  obtain ⟨x, y, h, _, _⟩ := x
  exact ne_of_none h hp
def spTake : Sp := fun vs H Q _ => ∃ (b : Addr) (m : Int), vs = [.ref b, .int m] ∧ Bag H b ∧ 0 < m ∧ m < 1073741824 ∧ ∀ (d : Int) (H' : Hp), 0 ≤ d → d < m → But b H H' → Bag H' b → Q (.int d) H'
/-- some[draw]: one of the items of a list -/
def spOf (K : PySem.W.Frag) : Sp := fun vs H Q _ => ∃ (b l : Addr) (xs : List V), vs = [.ref b, .ref l] ∧ Bag H b ∧ l ≠ b ∧ SqL K H l xs ∧ xs ≠ [] ∧ xs.length < 1000000 ∧ ∀ (v : V) (H' : Hp), v ∈ xs → But b H H' → Bag H' b → Q v H'
def spBag (K : PySem.W.Frag) : Sp := fun vs H Q _ => ∃ (a : Addr) (ns : List Int) (n : Nat), vs = [.ref a, .int n] ∧ SqL K H a (ns.map V.int) ∧ ns.length ≤ 63 ∧ n ≤ 63 ∧ ∀ (b : Addr) (H' : Hp), Same H H' → H b = none → Bag H' b → Q (.ref b) H'
theorem mem_cut {xs : List V} {lo hi : Option Int} {x : V} (h : x ∈ cutV xs lo hi) : x ∈ xs := by
  unfold cutV at h
  exact List.mem_of_mem_drop (List.mem_of_mem_take h)
theorem int_of_mem {ns : List Int} {x : V} (h : x ∈ ns.map V.int) : ∃ u, x = V.int u := by
  obtain ⟨u, _, e⟩ := List.mem_map.mp h
  exact ⟨u, e.symm⟩
theorem same_new {p : Addr} {H H1 : Hp} {o : HO} (x : Same H H1) (hp : H1 p = none) : Same H (upd H1 p o) := fun a u h => by
  have q := x a u h
  rw [upd_ne (ne_of_none q hp)]
  exact q
theorem same_newH {p : Addr} {H : Hp} {o : HO} (hp : H p = none) : Same H (upd H p o) := same_new (Same.refl H) hp
theorem len_ints {ns : List Int} : (ns.map V.int).length = ns.length := List.length_map ..
/-- two ways to one value: what is to be shown behind is shown once -/
theorem pick {α : Type} {P : α → Prop} {G : Prop} (main : (∀ c, P c) → G) (rest : ∀ c, P c) : G := main rest
theorem pickP {α : Type} (R : α → Prop) {P : α → Prop} {G : Prop} (main : (∀ c, R c → P c) → G) (rest : ∀ c, R c → P c) : G := main rest
theorem abs_nn (i : Int) : 0 ≤ (if i < 0 then -i else i) := by
  split <;> omega
/-! ### kinds of values -/
inductive Kd where
  | non | bl | int | str | lst | tup
  deriving DecidableEq
def Kd.nm : Kd → String
  | .non => "NoneType"
  | .bl => "bool"
  | .int => "int"
  | .str => "str"
  | .lst => "list"
  | .tup => "tuple"
def kdO : Option HO → Option Kd
  | some (.lst _) => some .lst
  | some (.tup _) => some .tup
  | _ => none
def kd (H : Hp) : V → Option Kd
  | .non => some .non
  | .bl _ => some .bl
  | .int _ => some .int
  | .str _ => some .str
  | .ref a => kdO (H a)
  | _ => none
theorem kdO_lst {o : Option HO} (h : kdO o = some .lst) : ∃ xs, o = some (.lst xs) := by
  unfold kdO at h
  split at h
  · exact ⟨_, rfl⟩
  · cases h
  · cases h
theorem kdO_tup {o : Option HO} (h : kdO o = some .tup) : ∃ xs, o = some (.tup xs) := by
  unfold kdO at h
  split at h
  · cases h
  · exact ⟨_, rfl⟩
  · cases h
theorem kdO_or {o : Option HO} {t : Kd} (h : kdO o = some t) : t = .lst ∨ t = .tup := by
  unfold kdO at h
  split at h
  · cases h; exact .inl rfl
  · cases h; exact .inr rfl
  · cases h
theorem kd_ok {K : PySem.W.Frag} {H : Hp} {v : V} {t : Kd} (h : kd H v = some t) : TyX K H v (.type t.nm) := by
  cases v with
  | non => cases h; exact .base .non
  | bl b => cases h; exact .base (.bl b)
  | int i => cases h; exact .base (.int i)
  | str z => cases h; exact .base (.str z)
  | ref a =>
    have h1 : kdO (H a) = some t := h
    rcases kdO_or h1 with e | e <;> subst e
    · obtain ⟨xs, e⟩ := kdO_lst h1
      exact .base (.lst e)
    · obtain ⟨xs, e⟩ := kdO_tup h1
      exact .base (.tup e)
  | _ => cases h
theorem kd_lst {H : Hp} {a : Addr} {xs : List V} (h : H a = some (.lst xs)) : kd H (.ref a) = some .lst := by
  show kdO (H a) = _
  rw [h] <;> rfl
theorem kd_tup {H : Hp} {a : Addr} {xs : List V} (h : H a = some (.tup xs)) : kd H (.ref a) = some .tup := by
  show kdO (H a) = _
  rw [h] <;> rfl
theorem kd_but {H H' : Hp} {b : Addr} {v : V} {t : Kd} (h : kd H v = some t) (x : But b H H') (n : v ≠ .ref b) : kd H' v = some t := by
  cases v with
  | ref a =>
    have na : a ≠ b := fun e => n (by rw [e])
    have h1 : kdO (H a) = some t := h
    rcases kdO_or h1 with e | e <;> subst e
    · obtain ⟨xs, e⟩ := kdO_lst h1
      exact kd_lst (x _ _ na e)
    · obtain ⟨xs, e⟩ := kdO_tup h1
      exact kd_tup (x _ _ na e)
  | _ => exact h
theorem kd_same {H H' : Hp} {v : V} {t : Kd} (h : kd H v = some t) (x : Same H H') : kd H' v = some t := by
  cases v with
  | ref a =>
    have h1 : kdO (H a) = some t := h
    rcases kdO_or h1 with e | e <;> subst e
    · obtain ⟨xs, e⟩ := kdO_lst h1
      exact kd_lst (x _ _ e)
    · obtain ⟨xs, e⟩ := kdO_tup h1
      exact kd_tup (x _ _ e)
  | _ => exact h
def isIntV : V → Bool
  | .int _ => true
  | _ => false
theorem kit_int {K : PySem.W.Frag} (t : Kd) : PySem.W.kitOne K (.type t.nm) (.type "int") = some (decide (t = .int) || decide (t = .bl)) := by
  cases t <;> exact kit_ty (by decide +kernel)
theorem kit_bool {K : PySem.W.Frag} (t : Kd) : PySem.W.kitOne K (.type t.nm) (.type "bool") = some (decide (t = .bl)) := by
  cases t <;> exact kit_ty (by decide +kernel)
theorem kit_str {K : PySem.W.Frag} (t : Kd) : PySem.W.kitOne K (.type t.nm) (.type "str") = some (decide (t = .str)) := by
  cases t <;> exact kit_ty (by decide +kernel)
theorem kit_tuple {K : PySem.W.Frag} (t : Kd) : PySem.W.kitOne K (.type t.nm) (.type "tuple") = some (decide (t = .tup)) := by
  cases t <;> exact kit_ty (by decide +kernel)
theorem kit_list {K : PySem.W.Frag} (t : Kd) : PySem.W.kitOne K (.type t.nm) (.type "list") = some (decide (t = .lst)) := by
  cases t <;> exact kit_ty (by decide +kernel)
theorem kit_dict {K : PySem.W.Frag} (t : Kd) : PySem.W.kitOne K (.type t.nm) (.type "dict") = some false := by
  cases t <;> exact kit_ty (by decide +kernel)
theorem kd_isInt {H : Hp} {v : V} {t : Kd} (h : kd H v = some t) : isIntV v = decide (t = .int) := by
  cases v with
  | ref a => rcases kdO_or (show kdO (H a) = some t from h) with e | e <;> subst e <;> rfl
  | _ => cases h <;> rfl
theorem kd_str {H : Hp} {v : V} (h : kd H v = some .str) : ∃ z, v = .str z := by
  cases v with
  | str z => exact ⟨z, rfl⟩
  | ref a => rcases kdO_or (show kdO (H a) = some .str from h) with e | e <;> cases e
  | _ => cases h
theorem kd_tuple {H : Hp} {v : V} (h : kd H v = some .tup) : ∃ a xs, v = .ref a ∧ H a = some (.tup xs) := by
  cases v with
  | ref a =>
    obtain ⟨xs, e⟩ := kdO_tup (show kdO (H a) = some .tup from h)
    exact ⟨a, xs, rfl, e⟩
  | _ => cases h
theorem int_not_bool {H : Hp} {v : V} {t : Kd} (h : kd H v = some t) : ((decide (t = .int) || decide (t = .bl)) && !decide (t = .bl)) = isIntV v := by
  rw [kd_isInt h]
  cases t <;> rfl
/-- is_integer -/
def spIsInt : Sp := fun vs H Q _ => ∃ (v : V) (t : Kd), vs = [v] ∧ kd H v = some t ∧ Q (.bl (isIntV v)) H
theorem take_snoc {α : Type} {xs : List α} {i : Nat} {x : α} (h : xs[i]? = some x) : xs.take (i + 1) = xs.take i ++ [x] := by
  rw [List.take_succ, h] <;> rfl
theorem map_take_snoc {α β : Type} {xs : List α} {i : Nat} {x : α} (f : α → β) (h : xs[i]? = some x) : (xs.take (i + 1)).map f = (xs.take i).map f ++ [f x] := by
  rw [take_snoc h, List.map_append] <;> rfl
/-- a value whose kind is known, a tuple's items too -/
def Known (H : Hp) (v : V) : Prop := (∃ t, kd H v = some t) ∧ ∀ a xs, v = .ref a → H a = some (.tup xs) → xs.length ≤ 1000 ∧ ∀ x ∈ xs, ∃ t, kd H x = some t
def rowO : Option HO → Int → Bool
  | some (.tup xs), m => decide ((xs.length : Int) = m) && xs.all isIntV
  | _, _ => false
/-- a tuple of m integers -/
def rowB (H : Hp) (v : V) (m : Int) : Bool := match v with
  | .ref a => rowO (H a) m
  | _ => false
theorem rowB_tup {H : Hp} {a : Addr} {xs : List V} {m : Int} (h : H a = some (.tup xs)) : rowB H (.ref a) m = (decide ((xs.length : Int) = m) && xs.all isIntV) := by
  show rowO (H a) m = _
  rw [h] <;> rfl
theorem rowB_not {H : Hp} {v : V} {t : Kd} {m : Int} (h : kd H v = some t) (n : t ≠ .tup) : rowB H v m = false := by
  cases v with
  | ref a =>
    rcases kdO_or (show kdO (H a) = some t from h) with e | e <;> subst e
    · obtain ⟨xs, e⟩ := kdO_lst (show kdO (H a) = some .lst from h)
      show rowO (H a) m = false
      rw [e] <;> rfl
    · exact absurd rfl n
  | _ => rfl
def spIsRow : Sp := fun vs H Q _ => ∃ (v : V) (m : Int), vs = [v, .int m] ∧ Known H v ∧ ∀ H', Same H H' → Q (.bl (rowB H v m)) H'
theorem all_id_map {α : Type} (xs : List α) (f : α → Bool) : (xs.map f).all id = xs.all f := by
  rw [List.all_map] <;> rfl
def spNumber : Sp := fun vs H Q _ => ∃ (b : Addr), vs = [.ref b] ∧ Bag H b ∧ ∀ (n : Int) (H' : Hp), But b H H' → Bag H' b → Q (.int n) H'
/-! ### words -/
def keptL : List Str := ["def", "if", "else", "for", "in", "break", "skip", "refuse", "take", "guard", "blank", "every", "none", "any", "all", "pick", "given", "or", "and", "not", "true", "false", "self"]
def lowB (c : Nat) : Bool := decide (97 ≤ c) && decide (c ≤ 122)
def wordB (z : Str) : Bool := !(inV (.str z) (keptL.map V.str)) && ((decide ((1 : Int) ≤ (z.length : Nat)) && decide (((z.length : Nat) : Int) ≤ 8)) && z.cps.toList.all lowB)
def wordV : V → Bool
  | .str z => wordB z
  | _ => false
theorem wordV_not {H : Hp} {v : V} {t : Kd} (h : kd H v = some t) (n : t ≠ .str) : wordV v = false := by
  cases v with
  | str z => cases h; exact absurd rfl n
  | _ => rfl
theorem le_sign (c d : Nat) : (!decide (([c] : List Nat) < [d])) = decide (d ≤ c) := by
  have h : (([c] : List Nat) < [d]) ↔ c < d := by
    rw [List.cons_lt_cons_iff]
    constructor
    · rintro (h | ⟨_, h⟩)
      · exact h
      · exact absurd h (by decide)
    · exact fun h => .inl h
  by_cases q : d ≤ c
  · rw [decide_eq_true q, decide_eq_false (fun z => absurd (h.mp z) (by omega))] <;> rfl
  · rw [decide_eq_false q, decide_eq_true (h.mpr (by omega))] <;> rfl
theorem flat_strs (l : List Str) : (l.map V.str).all flatV = true := by
  rw [List.all_map]
  exact List.all_eq_true.mpr fun _ _ => rfl
/-- is_word -/
def spIsWord : Sp := fun vs H Q _ => ∃ (v : V) (t : Kd), vs = [v] ∧ kd H v = some t ∧ (∀ z, v = .str z → z.length ≤ 1000) ∧ ∀ H', Same H H' → Q (.bl (wordV v)) H'
/-! ### the first wrong entry -/
def badFrom (pre : List V) : List V → Option Nat
  | [] => none
  | x :: r => if (!(wordV x) || inV x pre) = true then some pre.length else badFrom (pre ++ [x]) r
def dueV (xs : List V) : V :=
  if (decide ((1 : Int) ≤ (xs.length : Nat)) && decide (((xs.length : Nat) : Int) ≤ 3)) = true then (match badFrom [] xs with
    | some i => .int (i : Nat)
    | none => .non)
  else .int (-1)
theorem cut_take (xs : List V) (i : Nat) : cutV xs none (some (i : Int)) = xs.take i := by
  unfold cutV
  rw [HT.sIx_none, HT.sIx_nat, List.drop_zero, Nat.sub_zero, ← List.take_eq_take_min] 
theorem word_str {x : V} (h : wordV x = true) : ∃ z, x = .str z ∧ wordB z = true := by
  cases x with
  | str z => exact ⟨z, rfl, h⟩
  | _ => cases h
theorem word_flat {x : V} (h : wordV x = true) : flatV x = true := by
  obtain ⟨z, rfl, _⟩ := word_str h
  rfl
/-- items that a word's test may meet -/
def Ent (H : Hp) (x : V) : Prop := ∃ t, kd H x = some t ∧ ∀ z, x = .str z → z.length ≤ 1000
theorem Ent.same {H H' : Hp} {x : V} (e : Ent H x) (s : Same H H') : Ent H' x := by
  obtain ⟨t, h, l⟩ := e
  exact ⟨t, kd_same h s, l⟩
def spFirstBad (K : PySem.W.Frag) : Sp := fun vs H Q _ => ∃ (a : Addr) (xs : List V), vs = [.ref a] ∧ SqL K H a xs ∧ xs.length ≤ 1000 ∧ (∀ x ∈ xs, Ent H x) ∧ ∀ H', Same H H' → Q (dueV xs) H'
/-! ### tables -/
/-- a table at p with the columns xs -/
def TabAt (H : Hp) (C p : Addr) (xs : List V) : Prop := ∃ dx t, H p = some (.ins C dx [("columns", .ref t)]) ∧ H t = some (.tup xs)
theorem TabAt.same {H H' : Hp} {C p : Addr} {xs : List V} (h : TabAt H C p xs) (e : Same H H') : TabAt H' C p xs := by
  obtain ⟨dx, t, h1, h2⟩ := h
  exact ⟨dx, t, e _ _ h1, e _ _ h2⟩
theorem TabAt.but {H H' : Hp} {C p b : Addr} {xs : List V} (h : TabAt H C p xs) (e : But b H H') (hb : Bag H b) : TabAt H' C p xs := by
  obtain ⟨dx, t, h1, h2⟩ := h
  obtain ⟨x, y, h3, _⟩ := hb
  exact ⟨dx, t, e _ _ (ne_of h1 h3 (by intro q; cases q)) h1, e _ _ (ne_of h2 h3 (by intro q; cases q)) h2⟩
/-- Table(list), a right one -/
def spTable (K : PySem.W.Frag) (C : Addr) : Sp := fun vs H Q _ => ∃ (p a dx : Addr) (xs : List V), vs = [.ref p, .ref a] ∧ H p = some (.ins C dx []) ∧ SqL K H a xs ∧ xs.length ≤ 1000 ∧ (∀ x ∈ xs, Ent H x) ∧ dueV xs = .non ∧
  ∀ H', But p H H' → TabAt H' C p xs → Q .non H'
/-- thing in table -/
def spContains (C : Addr) : Sp := fun vs H Q _ => ∃ (p : Addr) (v : V) (xs : List V), vs = [.ref p, v] ∧ TabAt H C p xs ∧ xs.length ≤ 1000 ∧ Known H v ∧ ∀ H', Same H H' → Q (.bl (rowB H v (xs.length : Nat))) H'
/-! ### data: flat lists -/
theorem canAll_of : ∀ {ds : List PyData}, (∀ d ∈ ds, d.canLay0 = true ∧ d.depth = 0) → PyData.canLayAll0 ds = true ∧ PyData.depthAll ds = 0
  | [], _ => ⟨by simp only [PyData.canLayAll0], by simp only [PyData.depthAll]⟩
  | d :: r, h => by
    obtain ⟨h1, h2⟩ := h d (List.mem_cons_self ..)
    obtain ⟨h3, h4⟩ := canAll_of (ds := r) fun x hx => h x (List.mem_cons_of_mem _ hx)
    exact ⟨by simp only [PyData.canLayAll0, h1, h3, Bool.and_self], by simp only [PyData.depthAll, h2, h4, Nat.max_self]⟩
theorem shaped_lst {ds : List PyData} (h : ∀ d ∈ ds, d.canLay0 = true ∧ d.depth = 0) : SeqAt.shaped (.list ds) = true := by
  obtain ⟨h1, h2⟩ := canAll_of h
  unfold SeqAt.shaped
  simp only [PyData.canLay0, PyData.depth, h1, h2, Bool.true_and]
  decide
theorem shaped_tup {ds : List PyData} (h : ∀ d ∈ ds, d.canLay0 = true ∧ d.depth = 0) : SeqAt.shaped (.tuple ds) = true := by
  obtain ⟨h1, h2⟩ := canAll_of h
  unfold SeqAt.shaped
  simp only [PyData.canLay0, PyData.depth, h1, h2, Bool.true_and]
  decide
theorem int_flatD (n : Int) : (PyData.int n).canLay0 = true ∧ (PyData.int n).depth = 0 := ⟨by simp only [PyData.canLay0], by simp only [PyData.depth]⟩
theorem shaped_ints (ns : List Int) : SeqAt.shaped (.list (ns.map PyData.int)) = true := shaped_lst fun d hd => by
  obtain ⟨n, _, rfl⟩ := List.mem_map.mp hd
  exact int_flatD n
theorem shaped_nil : SeqAt.shaped (.list []) = true := shaped_lst fun _ h => by cases h
theorem dp_ints {K : PySem.W.Frag} {H : Hp} : ∀ (ns : List Int), DpAll K H (ns.map V.int) (ns.map PyData.int)
  | [] => .nil
  | n :: r => .cons (.int n) (dp_ints r)
theorem eqv_ints_nil (ns : List Int) : PyData.eqv (.list (ns.map PyData.int)) (.list []) = decide (ns = []) := by
  cases ns with
  | nil => simp [PyData.eqv, PyData.eqvAll]
  | cons n r => simp [PyData.eqv, PyData.eqvAll]
theorem pick2 {P : Option V → Hp → Prop} (R : Option V → Hp → Prop) {G : Prop} (main : (∀ o H, R o H → P o H) → G) (rest : ∀ o H, R o H → P o H) : G := main rest
def spValue : Sp := fun vs H Q _ => ∃ (b : Addr) (m : Int), vs = [.ref b, .int m] ∧ Bag H b ∧ 0 ≤ m ∧ m ≤ 3 ∧ ∀ (v : V) (H' : Hp), Known H' v → But b H H' → Bag H' b → Q v H'
theorem known_flat {H : Hp} {v : V} (h : flatV v = true) : Known H v := by
  cases v with
  | non => exact ⟨⟨_, rfl⟩, fun a xs e => by cases e⟩
  | bl b => exact ⟨⟨_, rfl⟩, fun a xs e => by cases e⟩
  | int b => exact ⟨⟨_, rfl⟩, fun a xs e => by cases e⟩
  | str b => exact ⟨⟨_, rfl⟩, fun a xs e => by cases e⟩
  | _ => cases h
theorem known_lst {H : Hp} {a : Addr} {xs : List V} (h : H a = some (.lst xs)) : Known H (.ref a) :=
  ⟨⟨_, kd_lst h⟩, fun b ys e h2 => by
    cases e
    rw [h] at h2
    cases h2⟩
theorem known_tup {H : Hp} {a : Addr} {xs : List V} (h : H a = some (.tup xs)) (hl : xs.length ≤ 1000) (hx : ∀ x ∈ xs, ∃ t, kd H x = some t) : Known H (.ref a) :=
  ⟨⟨_, kd_tup h⟩, fun b ys e h2 => by
    cases e
    rw [h] at h2
    cases h2
    exact ⟨hl, hx⟩⟩
theorem pss_cut {X : Cx} {sts : List Stmt} {t t' : TS} (h : PSs X sts t) (w : ∀ D σ H, t' D σ H → t D σ H) : PSs X sts t' := ⟨fun pins s σ H D I q => h.run pins s σ H D I (w D σ H q)⟩
theorem But.at {b : Addr} {H H' : Hp} (x : But b H H') {a : Addr} {o : HO} (hb : Bag H b) (h : H a = some o) (n : ∀ x y, o ≠ .lst [.int x, .int y]) : H' a = some o := by
  obtain ⟨x1, y1, h3, _⟩ := hb
  exact x a o (ne_of h h3 (n x1 y1)) h
theorem But.free {b p : Addr} {H H1 : Hp} (x : But b H H1) (n : p ≠ b) (h : H1 p = none) : H p = none := by
  cases e : H p with
  | none => rfl
  | some o =>
    rw [x p o n e] at h
    cases h
theorem Bag.put {b p : Addr} {H : Hp} {o : HO} (x : Bag H b) (n : b ≠ p) : Bag (upd H p o) b := by
  obtain ⟨x1, y1, h, h0, h1⟩ := x
  exact ⟨x1, y1, by rw [upd_ne n]; exact h, h0, h1⟩
theorem kd_put {H : Hp} {v : V} {t : Kd} {p : Addr} {o : HO} (h : kd H v = some t) (n : v ≠ .ref p) : kd (upd H p o) v = some t :=
  kd_but (b := p) h (But.put But.refl) n
theorem kd_new {H : Hp} {v : V} {t : Kd} {p : Addr} {o : HO} (h : kd H v = some t) (hp : H p = none) : kd (upd H p o) v = some t := kd_same h (same_newH hp)
theorem kd_ne {H : Hp} {v : V} {t : Kd} {p : Addr} (h : kd H v = some t) (hp : H p = none) : v ≠ .ref p := by
  intro e
  subst e
  have h1 : kdO (H p) = some t := h
  rw [hp] at h1
  cases h1
theorem ixN_of {n : Nat} {d : Int} (h0 : 0 ≤ d) (h1 : d < (n : Int)) : ixN n d = some d.toNat := by
  unfold ixN
  rw [if_pos h0, if_pos h1]
/-! ### t * 1 is t itself -/
theorem tuple_mul1 (l : Addr) (items : Array Value) (n : Nat) (dd : Option Addr) (sl : Array (Option Value)) (u : Tok) :
    Meets (Builtin.«tuple.__mul__» ⟨[.ref l, .int 1 u], []⟩) (fun _ R s => s.heap.get? l = some { cls := .type "tuple", dict := dd, data := .seq items n, slots := sl } ∧
      R (.ok (.ret (Value.ref l))) s) :=
  .of_wp fun prog w A R s h => by
    obtain ⟨hp, g, d, tk, os⟩ := s
    obtain ⟨hl, h⟩ := h
    have f1 := AutoSeq1.idx_int
    wp_walk using wpAny_loadPart' hl
    exact ⟨_, rfl, h⟩
def rRep1 (K : PySem.W.Frag) : R2 := fun x y H Q => ∃ l xs, x = .ref l ∧ y = .int 1 ∧ SqT K H l xs ∧ Q (.ref l) H
theorem op_rep1 {X : Cx} : OpR X (binaryOp .Mult) (rRep1 X.K) := by
  intro pins s σ H x y v u Q I rx ry h
  obtain ⟨l, xs, rfl, rfl, hT, q⟩ := h
  cases rx
  obtain ⟨t, rfl⟩ := ry
  obtain ⟨its, r, ⟨⟨cls, dd, data, sl⟩, ho, hc, n, hd⟩, hs⟩ := I.tuple hT
  simp only at hc hd
  subst hc hd
  refine wpAny_binaryOp_repeat_ref (T := "tuple") (U := "int") (by decide) ⟨_, ho, rfl⟩ (fun s' => typeIs_int s' 1 t) noFill_tuple_mul F.fills_int_mul F.slot_int_rmul repeat_tuple F.slot_int_index.lookup
    (call_meets F.slot_int_rmul (typeIs_int s 1 t) F.entry_int_rmul (F.args_int_rmul_2 _ _) (int_rmul_tuple 1 t l its.toArray n dd sl)
      ⟨ho, rfl, ⟨_, ho, rfl⟩, call_meets F.slot_tuple_mul ⟨_, ho, rfl⟩ F.entry_tuple_mul (F.args_tuple_mul_2 _ _) (tuple_mul1 l its.toArray n dd sl t) ⟨ho, ?_⟩⟩)
  exact ⟨.ref l, H, I, rfl, q⟩
theorem op_rep {X : Cx} : OpR X (binaryOp .Mult) (fun x y H Q => rRepT X.K x y H Q ∨ rRep1 X.K x y H Q) := OpR.or op_repT op_rep1
/-! ### plainer readings -/
theorem opr_imp {X : Cx} {f : Value → Value → Sem Value} {r r' : R2} (h : OpR X f r) (w : ∀ x y H Q, r' x y H Q → r x y H Q) : OpR X f r' :=
  fun pins s σ H x y v u Q I rx ry q => h pins s σ H x y v u Q I rx ry (w x y H Q q)
/-- a tuple at r, all else as it was -/
def TupTo (H : Hp) (xs : List V) (Q : VK) : Prop := ∀ (r : Addr) (H' : Hp), Same H H' → H' r = some (.tup xs) → Q (.ref r) H'
theorem TupTo.new {H : Hp} {xs : List V} {Q : VK} (h : TupTo H xs Q) : ∀ p, H p = none → Q (.ref p) (upd H p (.tup xs)) := fun p hp => h p _ (same_newH hp) upd_same
def rCatS : R2 := fun x y H Q => ∃ a b xs ys, x = .ref a ∧ y = .ref b ∧ H a = some (.tup xs) ∧ H b = some (.tup ys) ∧ xs.length + ys.length ≤ 1000 ∧ TupTo H (xs ++ ys) Q
theorem op_catS {X : Cx} : OpR X (binaryOp .Add) rCatS := opr_imp op_catA fun x y H Q h => by
  obtain ⟨a, b, xs, ys, rfl, rfl, ha, hb, hl, q⟩ := h
  refine ⟨a, b, xs, ys, rfl, rfl, SqT.of ha, SqT.of hb, Nat.le_of_lt (small1000 hl), fun e => ?_, fun _ e => ?_, fun _ _ => q.new⟩
  · exact q b H (Same.refl H) (by rw [e, List.nil_append]; exact hb)
  · exact q a H (Same.refl H) (by rw [e, List.append_nil]; exact ha)
def rRepS : R2 := fun x y H Q => ∃ l k xs, x = .ref l ∧ y = .int k ∧ H l = some (.tup xs) ∧ xs ≠ [] ∧ 1 ≤ k ∧ k ≤ 1000 ∧ xs.length ≤ 1000 ∧ TupTo H (List.replicate k.toNat xs).flatten Q
theorem op_repS {X : Cx} : OpR X (binaryOp .Mult) rRepS := opr_imp op_rep fun x y H Q h => by
  obtain ⟨l, k, xs, rfl, rfl, hl, hx, h1, h2, h3, q⟩ := h
  by_cases e : k = 1
  · subst e
    exact .inr ⟨l, xs, rfl, rfl, SqT.of hl, q l H (Same.refl H) (by simpa using hl)⟩
  · exact .inl ⟨l, k, xs, rfl, rfl, SqT.of hl, hx, by omega, h2, h3, q.new⟩
def rSlS : V → Option Int → Option Int → Hp → VK → Prop := fun x lo hi H Q => ∃ a xs, x = .ref a ∧ H a = some (.tup xs) ∧ TupTo H (cutV xs lo hi) Q
theorem cut_whole {xs : List V} {lo hi : Option Int} (h : HT.sIx xs.length 0 lo = 0 ∧ HT.sIx xs.length xs.length hi = xs.length) : cutV xs lo hi = xs := by
  unfold cutV
  rw [h.1, h.2, List.drop_zero, Nat.sub_zero, List.take_length]
theorem sl_tupS {X : Cx} : SlR X rSlS := fun pins s σ H x v vl vu lo hi sl Q I rx e1 e2 e3 q => by
  obtain ⟨a, xs, rfl, ha, t⟩ := q
  exact sl_tupA pins s σ H (.ref a) v vl vu lo hi sl Q I rx e1 e2 e3 ⟨a, xs, rfl, SqT.of ha, fun e => t a H (Same.refl H) (by rw [cut_whole e]; exact ha), fun _ => t.new⟩
theorem cut_drop (xs : List V) (i : Nat) : cutV xs (some (i : Int)) none = xs.drop i := by
  unfold cutV
  rw [HT.sIx_none, HT.sIx_nat]
  rw [List.take_of_length_le (by rw [List.length_drop]; exact Nat.le_refl _)]
  rcases Nat.le_total i xs.length with h | h
  · rw [Nat.min_eq_left h]
  · rw [Nat.min_eq_right h, List.drop_length, List.drop_of_length_le h]
/-! ### methods and makers by name -/
structure CalM (P : Program) (w : World) (K : PySem.W.Frag) (mg : Str → Option Value) (base : Heap) (CX : CXT) (k : Nat) (C : Addr) (m : Str) (f : Addr) (fd : FuncData) (ps : List Str) (sp : Sp) : Prop where
  ok : FnOk P w K mg base CX k f fd ps sp
  mt : Meth K C m f
  b : Binds K fd ps []
structure CalI (P : Program) (w : World) (K : PySem.W.Frag) (mg : Str → Option Value) (base : Heap) (CX : CXT) (k : Nat) (x : Str) (C f : Addr) (fd : FuncData) (ps : List Str) (sp : Sp) : Prop where
  ok : FnOk P w K mg base CX k f fd ps sp
  mkr : Mk K C f
  at_ : mg x = some (.ref C)
  b : Binds K fd ps []
section
variable {X : Cx} {k : Nat} {x : Str} {C f : Addr} {fd : FuncData} {ps : List Str} {sp : Sp} {e : Expr} {es : List Expr} {t : TA} {p pos : Pos}
theorem pe_mkr (c : CalI X.prog X.w X.K X.mg X.base CX0 k x C f fd ps sp) (hr : Room (k + 1) X.A) (ha : PA X (e :: es) t)
    (hg : Gl X x := by rfl) (hdb : (x == ("__debug__" : Str)) = false := by decide) (he : starEach (e :: es) X.env = (false, eval e X.env) :: starEach es X.env := by rfl) (hpl : (backTo pos (starEach es X.env)).any (·.1) = false := by rfl) :
    PE X (.Call (.Name x p) (e :: es) [] pos) (tMake C sp [] E0 t) := pe_make c.mkr c.ok hr hg c.at_ c.b .nil pass0 ha hdb he hpl
theorem op_in_cal (c : CalM X.prog X.w X.K X.mg X.base CX0 k C "__contains__" f fd ps sp) (hr : Room k X.A) : OpR X (compareOp .In) (rInOwn C false sp E0) := op_in_own c.ok c.mt c.b pass0 hr
theorem op_notIn_cal (c : CalM X.prog X.w X.K X.mg X.base CX0 k C "__contains__" f fd ps sp) (hr : Room k X.A) : OpR X (compareOp .NotIn) (rInOwn C true sp E0) := op_notIn_own c.ok c.mt c.b pass0 hr
end
theorem Known.same {H H' : Hp} {v : V} (h : Known H v) (e : Same H H') : Known H' v := by
  obtain ⟨⟨t, ht⟩, hk⟩ := h
  refine ⟨⟨t, kd_same ht e⟩, fun a xs ev ha => ?_⟩
  subst ev
  rcases kdO_or (show kdO (H a) = some t from ht) with q | q <;> subst q
  · obtain ⟨ys, q⟩ := kdO_lst (show kdO (H a) = some .lst from ht)
    rw [e _ _ q] at ha
    cases ha
  · obtain ⟨ys, q⟩ := kdO_tup (show kdO (H a) = some .tup from ht)
    rw [e _ _ q] at ha
    cases ha
    obtain ⟨h1, h2⟩ := hk a _ rfl q
    exact ⟨h1, fun x hx => let ⟨t, ht⟩ := h2 x hx; ⟨t, kd_same ht e⟩⟩
theorem rowB_same {H H' : Hp} {v : V} {m : Int} (h : Known H v) (e : Same H H') : rowB H' v m = rowB H v m := by
  obtain ⟨⟨t, ht⟩, _⟩ := h
  by_cases q : t = .tup
  · subst q
    obtain ⟨a, xs, rfl, ha⟩ := kd_tuple ht
    rw [rowB_tup ha, rowB_tup (e _ _ ha)]
  · rw [rowB_not ht q, rowB_not (kd_same ht e) q]
theorem But.to_same {b : Addr} {H H1 H2 : Hp} (s : Same H H1) (x : But b H1 H2) (hb : H b = none) : Same H H2 := fun a o h => x a o (ne_of_none h hb) (s a o h)
theorem Bag.same {b : Addr} {H H' : Hp} (x : Bag H b) (e : Same H H') : Bag H' b := by
  obtain ⟨x, y, h, h0, h1⟩ := x
  exact ⟨x, y, e _ _ h, h0, h1⟩
theorem kd_flat {H : Hp} {v : V} (h : flatV v = true) : ∃ t, kd H v = some t := (known_flat h).1
theorem known_tupF {H : Hp} {a : Addr} {xs : List V} (h : H a = some (.tup xs)) (hl : xs.length ≤ 1000) (hx : ∀ x ∈ xs, flatV x = true) : Known H (.ref a) := known_tup h hl fun x q => kd_flat (hx x q)
theorem cut_len (xs : List V) (lo hi : Option Int) : (cutV xs lo hi).length ≤ xs.length := by
  unfold cutV
  rw [List.length_take, List.length_drop]
  omega
theorem rep_flat {x : V} (n : Nat) : (List.replicate n [x]).flatten = List.replicate n x := by
  induction n with
  | zero => rfl
  | succ n ih => rw [List.replicate_succ, List.flatten_cons, ih, List.replicate_succ] <;> rfl
theorem rowB_bad {H : Hp} {a : Addr} {xs : List V} {m : Int} (h : H a = some (.tup xs)) (hx : ∃ x ∈ xs, isIntV x = false) : rowB H (.ref a) m = false := by
  rw [rowB_tup h]
  obtain ⟨x, h1, h2⟩ := hx
  have e : xs.all isIntV = false := by
    rw [List.all_eq_false]
    exact ⟨x, h1, by rw [h2]; decide⟩
  rw [e, Bool.and_false]
theorem rowB_len {H : Hp} {a : Addr} {xs : List V} {m : Int} (h : H a = some (.tup xs)) (hx : (xs.length : Int) ≠ m) : rowB H (.ref a) m = false := by
  rw [rowB_tup h, decide_eq_false hx, Bool.false_and]
end Own

namespace Own
open PySem PySem.Spec PyProof.Rows L2
section
variable {X : Cx} {n : Nat} {CX : CXT} {C f : Addr} {fd : FuncData} {ps : List Str} {sp : Sp} {E : XK}
/-- the callee runs, some units deeper -/
theorem run_at {A : Around} (sb : Sub X n A) (F : FnOk X.prog X.w X.K X.mg X.base CX n f fd ps sp) (hb : Binds X.K fd ps []) (hx : Passes CX X E)
    {pins : List (Addr × Obj)} {s : Shared} {σ : L2.St} {H : Hp} {vs : List V} {us : List Value} {Q : V → Hp → Prop} (I : Inv X pins σ H s) (r : Vals vs us) (hsp : sp vs H Q E) :
    wpAny (model X.prog X.w) A (call (.ref f) us) (EP X pins σ Q) X.xe s := by
  have hl : (us ++ ([] : List Value)).length = ps.length := by
    rw [List.append_nil, ← r.length]
    exact F.len _ _ _ _ hsp
  have bt := hb s us I.kIn hl
  rw [List.append_nil] at bt
  obtain ⟨h0, h1, h2, h3, h4, h5, h6, h7⟩ := I.env0
  refine wpAny_call (codeAny_mono (F.run A X.stack s H ⟨us, []⟩ us vs Q E sb.room ⟨sb.fr.trans h0, h1, h2, h3, h4, h5, h6, h7⟩ bt r hsp) fun z s' hq => ?_)
  match z, hq with
  | .error e, hq => exact hx pins σ H s e s' I hq
  | .ok (.ret u), hq => exact I.after hq
theorem sub_of {A : Around} (hr : Room n X.A) : Sub X n X.A := ⟨hr, rfl⟩
/-- what stands at an instance -/
theorem inst_at {pins : List (Addr × Obj)} {s : Shared} {σ : L2.St} {H : Hp} {a dx : Addr} {fs : List (Str × V)} (I : Inv X pins σ H s) (ha : H a = some (.ins C dx fs)) : ∃ od, PySem.W.InstAt s.heap a (PySem.W.instObj C dx) C (some od) := by
  obtain ⟨mA, J, _⟩ := ins_get I.hok ha
  obtain ⟨od, J, _⟩ := J.look
  exact ⟨od, J⟩
def rLenOwn (C : Addr) (sp : Sp) (E : XK) : List V → Hp → VK → Prop := fun xs H Q => ∃ a dx fs, xs = [.ref a] ∧ H a = some (.ins C dx fs) ∧ sp [.ref a] H (fun v H' => ∃ k : Nat, v = .int k ∧ k < 1000000 ∧ Q (.int k) H') E
theorem call_len_own (Fn : FnOk X.prog X.w X.K X.mg X.base CX n f fd ps sp) (hm : Meth X.K C "__len__" f) (hb : Binds X.K fd ps []) (hx : Passes CX X E) (hr : Room (n + 1) X.A) : CallR X (.builtin "len") (rLenOwn C sp E) := by
  intro pins s σ H xs us Q I r h
  obtain ⟨a, dx, fs, rfl, ha, q⟩ := h
  obtain ⟨od, J⟩ := inst_at I ha
  obtain ⟨m, hF⟩ := I.fr
  match us, r with
  | [u], .cons ru .nil =>
    cases ru
    refine PySem.W.len_K hF I.ok.mod.kin J hm.at_ hm.fn ?_
    refine thn (run_at (A := X.A.in1) ⟨hr.in1, rfl⟩ Fn hb hx I (show Vals [V.ref a] [Value.ref a] from .cons rfl .nil) q) fun v s1 ⟨z, H1, I1, rz, k, ez, hk, q1⟩ => ?_
    subst ez
    obtain ⟨t, rfl⟩ := rz
    show (0 ≤ (k : Int) ∧ (k : Int) < 2 ^ 63) ∧ _
    exact ⟨⟨by omega, by omega⟩, .int k, H1, I1.tok _, ⟨_, rfl⟩, q1⟩
def rReprOwn (C : Addr) (sp : Sp) (E : XK) : List V → Hp → VK → Prop := fun xs H Q => ∃ a dx fs, xs = [.ref a] ∧ H a = some (.ins C dx fs) ∧ sp [.ref a] H (fun v H' => ∃ z : Str, v = .str z ∧ Q (.str z) H') E
theorem call_repr_own (Fn : FnOk X.prog X.w X.K X.mg X.base CX n f fd ps sp) (hm : Meth X.K C "__repr__" f) (hb : Binds X.K fd ps []) (hx : Passes CX X E) (hr : Room (n + 1) X.A) : CallR X (.builtin "repr") (rReprOwn C sp E) := by
  intro pins s σ H xs us Q I r h
  obtain ⟨a, dx, fs, rfl, ha, q⟩ := h
  obtain ⟨od, J⟩ := inst_at I ha
  obtain ⟨m, hF⟩ := I.fr
  match us, r with
  | [u], .cons ru .nil =>
    cases ru
    refine PySem.W.repr_K hr.in1.units0 hF I.ok.mod.kin J hm.at_ hm.fn ?_
    refine thn (run_at (A := X.A.in1) ⟨hr.in1, rfl⟩ Fn hb hx I (show Vals [V.ref a] [Value.ref a] from .cons rfl .nil) q) fun v s1 ⟨z, H1, I1, rz, k, ez, q1⟩ => ?_
    subst ez
    obtain ⟨t, rfl⟩ := rz
    exact ⟨.str k, H1, I1, ⟨_, rfl⟩, q1⟩
/-- x == y by x's own __eq__; y of a class that does not come first -/
def rEqOwn (K : PySem.W.Frag) (C : Addr) (neg : Bool) (sp : Sp) (E : XK) : R2 := fun x y H Q => ∃ a dx fs t, x = .ref a ∧ H a = some (.ins C dx fs) ∧ TyX K H y t ∧ PySem.W.notFirst K C t = true ∧
  sp [.ref a, y] H (fun v H' => ∃ b, v = .bl b ∧ Q (.bl (if neg then !b else b)) H') E
theorem op_eq_own (Fn : FnOk X.prog X.w X.K X.mg X.base CX n f fd ps sp) (hm : Meth X.K C "__eq__" f) (hb : Binds X.K fd ps []) (hx : Passes CX X E) (hr : Room n X.A) : OpR X (compareOp .Eq) (rEqOwn X.K C false sp E) := by
  intro pins s σ H x y v u Q I rx ry h
  obtain ⟨a, dx, fs, t, rfl, ha, ty, nf, q⟩ := h
  cases rx
  obtain ⟨od, J⟩ := inst_at I ha
  obtain ⟨m, hF⟩ := I.fr
  obtain ⟨Pd, Z, pz, _⟩ := kit_of I ry ty
  refine PySem.W.cmp_K (op := .Eq) hr.units0 hF I.ok.mod.kin J (Z.ty _ _ I.kIn pz) nf hm.at_ hm.fn ?_
  refine thn (run_at ⟨hr, rfl⟩ Fn hb hx I (show Vals [V.ref a, y] [Value.ref a, u] from .cons rfl (.cons ry .nil)) q) fun w s1 ⟨z, H1, I1, rz, k, ez, q1⟩ => ?_
  subst ez
  cases rz
  exact ⟨.bl k, H1, I1, rfl, q1⟩
open Builtin in
theorem op_ne_own (Fn : FnOk X.prog X.w X.K X.mg X.base CX n f fd ps sp) (hm : Meth X.K C "__eq__" f) (hn : PySem.W.findIn X.K (.ref C) "__ne__" = some (some (.builtin "object.__ne__"))) (ho : PySem.W.mroIn X.K C (.type "object") = some true)
    (hb : Binds X.K fd ps []) (hx : Passes CX X E) (hr : Room (n + 1) X.A) : OpR X (compareOp .NotEq) (rEqOwn X.K C true sp E) := by
  intro pins s σ H x y v u Q I rx ry h
  obtain ⟨a, dx, fs, t, rfl, ha, ty, nf, q⟩ := h
  cases rx
  obtain ⟨od, J⟩ := inst_at I ha
  obtain ⟨Pd, Z, pz, _⟩ := kit_of I ry ty
  have hK := I.kIn
  have core : wpAny (model X.prog X.w) X.A (tryCompare (.ref a) "__ne__" u) (fun r s' => ∃ w, r = some w ∧ EP X pins σ Q w s') X.xe s := by
    unfold tryCompare
    refine wpAny_bind ?_
    simp only [callSpecialIfBound?, bindSpecialIfBound?]
    refine wpAny_holding (wpAny_bind (wpAny_bind (wpAny_bind (J.type.here ((PySem.W.looks_findIn hK hn).here ?_)))))
    refine wpAny_bind (wpAny_askSetting (wpAny_ite ?_))
    have hbs : bindSpecial (.builtin "object.__ne__") (.ref a) = pure (.builtin "object.__ne__", [.ref a]) := F.cmp_object.ne.bind _
    have fin : wpAny (model X.prog X.w) X.A (call (.builtin "object.__ne__") [.ref a, u]) (fun v s' => ∃ b, v = .bool b ∧ EP X pins σ Q (.bool b) s') X.xe s := by
      refine wpAny_call (codeAny_call_builtin F.cmp_object.ne.plain F.cmpEntry_ne (PySem.W.check_slot (i := "object.__ne__") (owner := "object") (n := "__ne__") F.cmpKind_ne F.cmpSplit_ne (J.type.andThen (PySem.W.looks_mroIn hK ho)) (F.cmpArgs_ne _ _) ?_))
      unfold Builtin.«object.__ne__»
      refine wpAny_bind (m := slotArgs "__ne__" 1 _) (wpAny_pure ?_)
      refine wpAny_bind (m := cRoomFor _ _) (wpAny_cRoomFor hr.in1.units0 ?_)
      refine wpAny_bind (m := callSpecialIfBound? (.ref a) (Str.ofString "__eq__") _) (PySem.W.ifBound_K hK J hm.at_ hm.fn ?_)
      refine thn (run_at (A := X.A.in1) ⟨hr.in1, rfl⟩ Fn hb hx I (show Vals [V.ref a, y] [Value.ref a, u] from .cons rfl (.cons ry .nil)) q) fun w s1 ⟨z, H1, I1, rz, k, ez, q1⟩ => ?_
      subst ez
      cases rz
      show wpAny _ _ (do ret (.bool (!(← truthy (.bool k))))) _ _ _
      refine wpAny_bind (wpAny_pure ?_)
      exact wpAny_pure ⟨!k, rfl, .bl (!k), H1, I1, rfl, q1⟩
    have cont : ∀ (v : Value) (s' : Shared), (∃ b, v = .bool b ∧ EP X pins σ Q (.bool b) s') → wpAny (model X.prog X.w) X.A (match (some v : Option Value) with
        | some .notImplemented => pure none
        | none => pure none
        | some r => pure (some r) : Sem (Option Value)) (fun r s' => ∃ w, r = some w ∧ EP X pins σ Q w s') X.xe s' := fun v s' ⟨b, e, z⟩ => by
      subst e
      exact wpAny_pure ⟨_, rfl, z⟩
    split
    · refine wpAny_bind ((PySem.W.Looks.of_pure hbs).here (wpAny_pure ?_))
      exact wpAny_bind (wpAny_mono fin (fun v s' z => wpAny_pure (cont v s' z)) fun _ _ e => e)
    · refine wpAny_tryCatch (wpAny_bind ((PySem.W.Looks.of_pure hbs).here (wpAny_pure ?_)))
      exact wpAny_bind (wpAny_mono fin (fun v s' z => wpAny_pure (cont v s' z)) fun _ _ e => e)
  show wpAny (model X.prog X.w) X.A (richCompare .NotEq (.ref a) u) _ _ _
  unfold richCompare
  simp only [oneThing_ref]
  refine wpAny_holding (wpAny_bind (wpAny_cRoomFor hr.units0 ?_))
  refine wpAny_bind (J.type.here (wpAny_bind ((Z.ty _ _ hK pz).here ?_)))
  have last : wpAny (model X.prog X.w) X.A (tryCompare (.ref a) (cmpInfo CmpOp.NotEq).2.fst u) (fun r s' => ∃ w, r = some w ∧ EP X pins σ Q w s') X.xe s := core
  have key : (Value.ref C != t) = true → PySem.W.subIn X.K t (.ref C) = some false := fun z => by
    rcases Bool.or_eq_true_iff.mp nf with g | g
    · have g1 := eq_of_beq g
      rw [g1, bne_self_eq_false] at z
      cases z
    · exact eq_of_beq g
  by_cases z : (Value.ref C != t) = true
  · rw [if_pos z]
    refine wpAny_bind ((PySem.W.looks_subIn hK (key z)).here ?_)
    simp only [Bool.false_eq_true, if_false]
    refine wpAny_bind (thn last fun r s2 ⟨w, e, g⟩ => ?_)
    subst e
    exact wpAny_pure g
  · rw [if_neg z]
    refine wpAny_bind (wpAny_pure ?_)
    simp only [Bool.false_eq_true, if_false]
    refine wpAny_bind (thn last fun r s2 ⟨w, e, g⟩ => ?_)
    subst e
    exact wpAny_pure g
end
/-! ### enumerate of a tuple -/
/-- the tuple at a, its items in new pairs -/
def IteT (K : PySem.W.Frag) (a : Addr) : It where
  go := fun i H => ∃ (xs : List V) (x : V), SqT K H a xs ∧ xs[i]? = some x
  yld := fun i H v H' => ∃ T x, v = .ref T ∧ H T = none ∧ H' = upd H T (.tup [.int (i : Nat), x]) ∧ ∀ xs, SqT K H a xs → xs[i]? = some x
  stop := fun i H => ∃ xs : List V, SqT K H a xs ∧ xs.length = i
theorem apart_iter {h : Heap} {a it : Addr} {i : Nat} {its : Array Value} (t : h.IsTuple a its) (x : h.IsTupleIter it a i) : a ≠ it := by
  intro e
  subst e
  obtain ⟨o, h1, _, n, h2⟩ := t
  obtain ⟨o', h3, _, h4⟩ := x
  rw [h1] at h3
  cases h3
  rw [h2] at h4
  cases h4
theorem turn_enumT {P : Program} {w : World} {K : PySem.W.Frag} {elts : List Expr} {kk : Nat} {tpos : Pos} (a e it : Addr) :
    Turn P w K (.Tuple elts kk tpos) (IteT K a) [e, it] e (fun i h => (∃ old, IsEnum h e it ((i : Nat) : Int) old) ∧ h.IsTupleIter it a i ∧ e ≠ it ∧ e ≠ a) where
  mem := List.mem_cons_self ..
  obj := fun i h ⟨⟨old, he⟩, ⟨o, ho, hc, hd⟩, _⟩ b hb => by
    rcases List.mem_cons.mp hb with z | z
    · subst z
      exact ⟨_, he, nofun⟩
    · rw [List.mem_singleton.mp z]
      exact ⟨o, ho, fun v q => by rw [hd] at q; cases q⟩
  keep := fun i h h' ⟨⟨old, he⟩, hi, hne⟩ k => ⟨⟨old, k e (List.mem_cons_self ..) _ he⟩, hi.at fun o q => k it (List.mem_cons_of_mem _ (List.mem_singleton.mpr rfl)) o q, hne⟩
  item := by
    intro X hP hw hK hc i pins s σ H E I hf st hg
    subst hP hw hK
    obtain ⟨⟨old, he⟩, hit, hne, hna⟩ := st
    obtain ⟨xs, x, hq, hx⟩ := hg
    obtain ⟨its, rv, p, hz⟩ := I.tuple hq
    obtain ⟨u, hu, ru⟩ := rv.get hx
    have hT : s.heap.IsTuple a its.toArray := p
    have hlt : i < its.toArray.size := by
      have z := (List.getElem?_eq_some_iff.mp hu).1
      simpa using z
    have D := Draws.tuple (prog := X.prog) (w := X.w) (A := X.A.in1) (I.ok.hd hc) it a (apart_iter hT hit) its.toArray
    have hel : e < s.heap.objs.size := Heap.lt_size he
    have hil : it < s.heap.objs.size := by
      obtain ⟨_, q, _⟩ := hit
      exact Heap.lt_size q
    refine wpAny_pyNext_enum_itemD D he ⟨hit, hT⟩ hlt hne (by intro z; rcases List.mem_cons.mp z with z | z; exact hne z; exact hna (List.mem_singleton.mp z)) fun y h' tk hy ho st' hT' hsz hk => ?_
    have ey : y = u := by
      have z : its[i]? = some y := by simpa using hy
      rw [hu] at z
      exact (Option.some.inj z).symm
    subst ey
    refine ⟨_, rfl, wpAny_letOwnedTupleGo_enum (s := { s with heap := h', toks := tk + 1 }) ho fun h2 he2 sb => ?_⟩
    have e2 : h2.get? s.heap.objs.size = some { cls := .type "tuple", data := .seq #[.int i tk, y] } := (sb.2 _ (Nat.ne_of_gt hel)).trans hT'
    have new : ObjOk X.prog X.w (upd H s.heap.objs.size (.tup [.int (i : Nat), x])) h2 s.heap.objs.size (.tup [.int (i : Nat), x]) :=
      ⟨(by show 2 ≤ sizeLine; decide), [.int i tk, y], .cons ⟨_, rfl⟩ (.cons ru .nil), ⟨_, e2, rfl, _, rfl⟩⟩
    have I1 : Inv X pins σ (upd H s.heap.objs.size (.tup [.int (i : Nat), x])) { s with heap := h2, toks := tk + 1 } :=
      I.turnedNew (ch := [e, it]) (fun b ob hb q => by
        have n1 : b ≠ e := fun z => hb (z ▸ List.mem_cons_self ..)
        have n2 : b ≠ it := fun z => hb (z ▸ List.mem_cons_of_mem _ (List.mem_singleton.mpr rfl))
        exact (sb.2 b n1).trans (hk b ob n1 n2 q)) hf (Nat.le_refl _) new
    have e1 : ((i + 1 : Nat) : Int) = (i : Int) + 1 := by omega
    refine ⟨.ref s.heap.objs.size, _, I1, rfl, ⟨_, x, rfl, I.hok.fresh (Nat.le_refl _), rfl, fun ys hy => by rw [I.tuple_inj hy hq]; exact hx⟩, ⟨⟨y, by rw [e1]; exact he2⟩, st'.1.at fun o q => (sb.2 it (Ne.symm hne)).trans q, hne, hna⟩, fun b hb => ?_⟩
    have hbl : b < s.heap.objs.size := by
      rcases List.mem_cons.mp hb with z | z
      · rw [z]; exact hel
      · rw [List.mem_singleton.mp z]; exact hil
    rw [upd_ne (Nat.ne_of_lt hbl)]
    exact (hf b hb).1
  done := by
    intro X hP hw hK hc i pins s σ H E I hf st hg
    subst hP hw hK
    obtain ⟨⟨old, he⟩, hit, hne, hna⟩ := st
    obtain ⟨xs, hq, hx⟩ := hg
    obtain ⟨its, rv, p, hz⟩ := I.tuple hq
    obtain ⟨f0, f1, f2, f3, f4, f5⟩ := hf it (List.mem_cons_of_mem _ (List.mem_singleton.mpr rfl))
    have hT : s.heap.IsTuple a its.toArray := p
    have hn : its.toArray.size = i := by rw [List.size_toArray, ← rv.length, hx]
    have D := Draws.tuple (prog := X.prog) (w := X.w) (A := X.A.in1) (I.ok.hd hc) it a (apart_iter hT hit) its.toArray
    rw [hn] at D
    exact wpAny_pyNext_enum_endD D he ⟨hit, hT⟩ fun h' eb => ⟨rfl, I.turned (t' := s.toks) (fun b o hb q => eb b o hb q) f0 f1 f3 f4 f5⟩
  self := fun A i s Q E ⟨⟨_, he⟩, _⟩ h => wpAny_pyIter_enum he h
set_option maxHeartbeats 4000000 in
theorem enum_new1 {v : Value} {o : Obj} {G : Heap → Prop} (B : Begins v o G) :
    Meets (Builtin.«enumerate.__new__» ⟨[.type "enumerate", v], []⟩) (fun _ R s => G s.heap ∧
      R (.ok (.ret (.ref (s.heap.push o).objs.size))) { s with heap := (s.heap.push o).push { cls := .type "enumerate", data := .fields #[.none, .bool false, .ref s.heap.objs.size, rawInt 0, .none, .none] } }) :=
  .of_wp fun prog w A R s h => by
    obtain ⟨hp, g, d, tk, os⟩ := s
    obtain ⟨h1, h⟩ := h
    have hsub := sub_enumerate
    have q1 : ∀ {A' : Around} {E : Value → Shared → Prop} {Q : Value → Shared → Prop}, Q (.ref hp.objs.size) ⟨hp.push o, g, d, tk, os⟩ → wpAny (model prog w) A' (pyIter v) Q E ⟨hp, g, d, tk, os⟩ :=
      fun z => B.iter _ _ _ _ ⟨hp, g, d, tk, os⟩ _ h1 z
    wp_walk using q1
    refine wpAny_stack_any fun st => wpAny_pure ?_
    split
    · rename_i c _ _ _ _ _
      by_cases z : (c == Value.type "enumerate") = true
      · rw [z]
        wp_walk using q1
        exact ⟨_, rfl, h⟩
      · rw [Bool.not_eq_true] at z
        rw [z]
        wp_walk using q1
        exact ⟨_, rfl, h⟩
    · wp_walk using q1
      exact ⟨_, rfl, h⟩
theorem enum_made {prog : Program} {w : World} {A : Around} {E : Value → Shared → Prop} {s : Shared} {v : Value} {o : Obj} {G : Heap → Prop} {Q : Value → Shared → Prop} (B : Begins v o G) (h1 : G s.heap)
    (h : ∀ h', IsEnum h' (s.heap.objs.size + 1) s.heap.objs.size 0 .none → h'.get? s.heap.objs.size = some o → (∀ b o', s.heap.get? b = some o' → h'.get? b = some o') → Q (.ref (s.heap.objs.size + 1)) { s with heap := h' }) :
    wpAny (model prog w) A (call (.type "enumerate") [v]) Q E s := by
  refine callType_new F.called_enumerate (by decide) (F.typeCall_enumerate_1 _) (F.newCall_enumerate_1 _) (fun obj => F.args_object_init_2 obj _) F.entry_enumerate_new (enum_new1 B) ⟨h1, ?_⟩
  have hz : (s.heap.push o).objs.size = s.heap.objs.size + 1 := Heap.size_push ..
  show _ ∧ _
  rw [hz]
  have he : IsEnum ((s.heap.push o).push { cls := .type "enumerate", data := .fields #[.none, .bool false, .ref s.heap.objs.size, rawInt 0, .none, .none] }) (s.heap.objs.size + 1) s.heap.objs.size 0 .none := by
    have q := Heap.get?_push_size (s.heap.push o) (o := { cls := .type "enumerate", data := .fields #[.none, .bool false, .ref s.heap.objs.size, rawInt 0, .none, .none] }) rfl
    rw [hz] at q
    exact q
  exact ⟨⟨_, he, rfl⟩, h _ he (Heap.get?_push_of_some _ (Heap.get?_push_size _ B.free)) fun b o' x => Heap.get?_push_of_some _ (Heap.get?_push_of_some _ x)⟩
theorem walk_enumT {K : PySem.W.Frag} {a : Addr} {xs : List V} : Walk (IteT K a) xs.length (fun H => SqT K H a xs) (YPair (fun i => some (.int (i : Nat))) (fun i => xs[i]?)) := by
  refine ⟨fun i _ hi q => ⟨xs, xs[i], q, by simp [hi]⟩, fun _ q => ⟨xs, q, rfl⟩, fun i H v H' _ q y => ?_⟩
  obtain ⟨T, x, h1, h2, h3, h4⟩ := y
  exact ⟨T, .int (i : Nat), x, h1, h2, h3, rfl, h4 xs q⟩
/-- a list or a tuple -/
def SqA (K : PySem.W.Frag) (H : Hp) (a : Addr) (xs : List V) : Prop := SqL K H a xs ∨ SqT K H a xs
theorem tup_same {K : PySem.W.Frag} {a : Addr} {H H1 : Hp} {xs : List V} (x : Same H H1) (h : SqT K H a xs) : SqT K H1 a xs := by
  rcases h with (h | ⟨o, h⟩) | h
  · exact .inl (.inl (x _ _ h))
  · exact .inl (.inr ⟨o, x _ _ h⟩)
  · exact .inr h
theorem SqA.same {K : PySem.W.Frag} {a : Addr} {H H1 : Hp} {xs : List V} (h : SqA K H a xs) (x : Same H H1) : SqA K H1 a xs := h.elim (fun h => .inl (x.seq h)) fun h => .inr (tup_same x h)
/-- enumerate of a list or a tuple: for whatever walk it is -/
def iEnumA (K : PySem.W.Frag) (ta : TA) : TI := fun σ H R => ta σ H fun vs H1 => ∃ a xs, vs = [.ref a] ∧ SqA K H1 a xs ∧ ∀ J G, Walk J xs.length G (YPair (fun i => some (.int (i : Nat))) (fun i => xs[i]?)) → (∀ H', Same H1 H' → G H') → R J H1
set_option maxHeartbeats 400000 in
theorem pi_enumA {X : Cx} {e : Expr} {ta : TA} {p pos tpos : Pos} {elts : List Expr} {kk : Nat} (hg : Gl X "enumerate") (hm : X.mg "enumerate" = none) (ha : PA X [e] ta) (hs : starEach [e] X.env = [(false, eval e X.env)] := by rfl) :
    PI X (.Tuple elts kk tpos) (.Call (.Name "enumerate" p) [e] [] pos) (iEnumA X.K ta) := by
  refine ⟨fun pins s σ H R I h => ?_⟩
  refine Call_ (ld_blt I hg hm boot_enumerate (PyProof.Rows.callWith_type1 (thn (ha.run pos pins s σ H _ I h) fun us s1 ⟨vs, H1, I1, r1, q1⟩ => ?_) hs rfl))
  obtain ⟨a, xs, ex, hq⟩ := q1
  subst ex
  have fp : ∀ b ∈ [s1.heap.objs.size + 1, s1.heap.objs.size], FpOk X pins H1 b := fun b hb => by
    have hle : s1.heap.objs.size ≤ b := by
      rcases List.mem_cons.mp hb with z | z
      · rw [z]
        exact Nat.le_succ _
      · rw [List.mem_singleton.mp z]
        exact Nat.le_refl _
    exact I1.fpOk hle (I1.hok.fresh hle)
  cases r1 with
  | cons r rr =>
    cases rr
    cases r
    obtain ⟨hs, q0⟩ := hq
    rcases hs with hq | hq
    · have q := q0 (Ite X.K a) _ walk_enum (fun H' e => e.seq hq)
      obtain ⟨its, rv, p', hz⟩ := I1.list hq
      refine enum_made (begins_list a its.toArray) p'.isList fun h' he hit hk => wpAny_pyIter_enum he ?_
      exact ⟨s1.heap.objs.size + 1, [s1.heap.objs.size + 1, s1.heap.objs.size], _, _, H1, rfl, I1.kept (t' := s1.toks) hk, turn_enum a (s1.heap.objs.size + 1) s1.heap.objs.size, ⟨⟨.none, he⟩, ⟨_, hit, rfl, rfl⟩, Nat.succ_ne_self _⟩, fp, q⟩
    · have q := q0 (IteT X.K a) _ walk_enumT (fun H' e => tup_same e hq)
      obtain ⟨its, rv, p', hz⟩ := I1.tuple hq
      have hlt : a < s1.heap.objs.size := by
        obtain ⟨o, ho, _⟩ := p'
        exact Heap.lt_size ho
      have hne : s1.heap.objs.size + 1 ≠ a := Nat.ne_of_gt (Nat.lt_succ_of_lt hlt)
      refine enum_made (begins_tuple a its.toArray) p' fun h' he hit hk => wpAny_pyIter_enum he ?_
      exact ⟨s1.heap.objs.size + 1, [s1.heap.objs.size + 1, s1.heap.objs.size], _, _, H1, rfl, I1.kept (t' := s1.toks) hk, turn_enumT a (s1.heap.objs.size + 1) s1.heap.objs.size, ⟨⟨.none, he⟩, ⟨_, hit, rfl, rfl⟩, Nat.succ_ne_self _, hne⟩, fp, q⟩
end Own

namespace Own
open PySem PySem.Spec PyProof.Rows L2
section
variable {prog : Program} {w : World} {A : Around} {E : Value → Shared → Prop} {s : Shared}
/-- a list of a text: its signs -/
theorem list_str_init {R : Result → Shared → Prop} (hh : A.handled = none) (x : Str) (t : Tok) (hn : x.cps.size ≤ sizeLine) (S : Addr) (hS : s.heap.get? S = some { cls := .type "list", data := .seq #[] })
    (hR : ∀ (s' : Shared) acc' c', (∀ b o, b ≠ S → s.heap.get? b = some o → s'.heap.get? b = some o) → s'.gens = s.gens → s'.drawn = s.drawn → s'.os = s.os → s'.heap.get? S = some { cls := .type "list", dict := none, data := .seq acc' c', slots := #[] } →
      ItemsOf (SignAt x) acc' x.cps.size → R (.ok (.ret .none)) s') :
    wpAny (model prog w) A.in1 (Builtin.«list.__init__» ⟨[.ref S, .str x t], []⟩)
      (fun fin s' => match fin with | .done f => R (.ok f) s' | .again c' => c'.quiet = true ∧ codeAny (model prog w) A c' R s') (fun e s' => R (.error e) s') s := by
  show wpAny _ _ (do let old ← Builtin.List.listItems (.ref S); Builtin.List.listUpdate (.ref S) (fun _ => #[]); letGo old.toList.reverse; Builtin.List.listExtendWith (.ref S) (.str x t) .none) _ _ s
  refine wpAny_bind ?_
  unfold Builtin.List.listItems
  refine wpAny_bind (wpAny_seqItems hS rfl (wpAny_pure ?_))
  show wpAny _ _ (updateSeq S (fun _ => #[]) >>= fun _ => letGo (#[] : Array Value).toList.reverse >>= fun _ => Builtin.List.listExtendWith (.ref S) (.str x t) .none) _ _ s
  refine wpAny_bind (wpAny_updateSeq hS rfl ?_)
  have hS2 := Heap.get?_update_self (Obj.mapSeq (fun _ => (#[] : Array Value))) hS rfl
  have oth : ∀ b o, b ≠ S → s.heap.get? b = some o → (s.heap.update S (Obj.mapSeq (fun _ => (#[] : Array Value)))).get? b = some o := fun b o hb e => (Heap.get?_update_other _ _ (Ne.symm hb)).trans e
  have hlt : S < s.heap.objs.size := Heap.lt_size hS
  have hsz : (s.heap.update S (Obj.mapSeq (fun _ => (#[] : Array Value)))).objs.size = s.heap.objs.size := by first | exact Heap.size_update .. | simp
  refine wpAny_bind (wpAny_letGo ?_)
  unfold Builtin.List.listExtendWith
  refine wpAny_bind (wpAny_typeOf (T := "str") (v := .str x t) rfl ?_)
  have h1 : Builtin.List.listSameRef (.ref S) (.str x t) = false := rfl
  have h2 : (Value.type "str" == Value.type "list") = false := by decide
  have h3 : (Value.type "str" == Value.type "tuple") = false := by decide
  simp only [h1, h2, h3, Bool.or_false, Bool.false_eq_true, if_false]
  refine wpAny_bind (wpAny_pyIter_str fun o St W hst => ?_)
  refine wpAny_bind (wpAny_holding ?_)
  unfold Builtin.List.listLengthHint
  refine wpAny_bind (wpAny_specialOf (T := "str") (v := .str x t) rfl F.str_len ?_)
  wp_delta
  refine wpAny_bind (wpAny_isInstance (T := "str") (v := .str x t) (b := true) rfl (by rw [isSubtype_type]; kernel_rfl) ?_)
  show wpAny _ A.in1 (typeOf (Value.str x t) >>= _) _ _ _
  refine wpAny_bind (wpAny_typeOf (T := "str") (v := .str x t) rfl ?_)
  refine wpAny_pure ?_
  rw [if_neg (by decide)]
  generalize hH : s.heap.update S (Obj.mapSeq (fun _ => (#[] : Array Value))) = H at W hst hS2 oth hsz ⊢
  have hSf : S ∉ [H.objs.size] := fun hm => by
    have e := List.mem_singleton.mp hm
    rw [hsz] at e
    exact absurd hlt (by rw [e]; exact Nat.lt_irrefl _)
  have hS3 : (H.push o).get? S = _ := Heap.get?_push_of_some _ hS2
  refine wpAny_pure ⟨plainId_quiet F.plain_extend_loop _, codeAny_extend_loopS (W A.in1 hh).toS hn _ hSf _ x.cps.size 0 _ _ _ rfl (Nat.zero_le _) hst hS3 (ItemsOf.nil _) fun s' acc' c' hm hS' hacc => ?_⟩
  refine hR s' acc' c' (fun b ob hb e => hm.heap b ob (fun hmem => ?_) (Heap.get?_push_of_some _ (oth b ob hb e))) hm.gens hm.drawn hm.os hS' hacc
  rcases List.mem_cons.mp hmem with z | z
  · exact hb z
  · have e2 := List.mem_singleton.mp z
    rw [hsz] at e2
    exact absurd (Heap.lt_size e) (by rw [e2]; exact Nat.lt_irrefl _)
theorem list_str {Q : Value → Shared → Prop} (hh : A.handled = none) (x : Str) (t : Tok) (hn : x.cps.size ≤ sizeLine)
    (hQ : ∀ (s' : Shared) acc' c', (∀ b o, s.heap.get? b = some o → s'.heap.get? b = some o) → s'.gens = s.gens → s'.drawn = s.drawn → s'.os = s.os → s'.heap.get? s.heap.objs.size = some { cls := .type "list", dict := none, data := .seq acc' c', slots := #[] } →
      ItemsOf (SignAt x) acc' x.cps.size → Q (.ref s.heap.objs.size) s') : wpAny (model prog w) A (call (.type "list") [.str x t]) Q E s := by
  refine callType_codes (Q₁ := fun obj s₁ => obj = .ref s.heap.objs.size ∧ s₁ = { s with heap := s.heap.push { cls := .type "list", data := .seq #[] } }) F.called_list (F.typeCall_list_1 _) F.entry_list_init (code_list_new _ ⟨rfl, rfl⟩) fun obj s1 h1 => ?_
  obtain ⟨rfl, rfl⟩ := h1
  have hS : (s.heap.push { cls := .type "list", data := .seq #[] }).get? s.heap.objs.size = some { cls := .type "list", data := .seq #[] } := Heap.get?_push_size _ rfl
  refine ⟨⟨_, hS, rfl⟩, F.args_list_init_2 _ _, list_str_init (A := A.in1) hh x t hn _ hS fun s' acc' c' hk hg hd ho hS' hacc => ?_⟩
  exact ⟨rfl, hQ s' acc' c' (fun b o e => hk b o (Nat.ne_of_lt (Heap.lt_size e)) (Heap.get?_push_of_some _ e)) hg hd ho hS' hacc⟩
end
def signsV (z : Str) : List V := z.cps.toList.map fun c => V.str ⟨#[c]⟩
theorem vals_of_get : ∀ (xs : List V) (us : List Value), xs.length = us.length → (∀ (i : Nat) (x : V) (u : Value), xs[i]? = some x → us[i]? = some u → RelV x u) → Vals xs us
  | [], [], _, _ => .nil
  | [], _ :: _, e, _ => by cases e
  | _ :: _, [], e, _ => by cases e
  | x :: xs, u :: us, e, h => .cons (h 0 x u rfl rfl) (vals_of_get xs us (Nat.succ.inj e) fun i y v h1 h2 => h (i + 1) y v h1 h2)
theorem signs_vals {x : Str} {acc : Array Value} (h : ItemsOf (SignAt x) acc x.cps.size) : Vals (signsV x) acc.toList := by
  refine vals_of_get _ _ (by unfold signsV; rw [List.length_map, Array.length_toList, Array.length_toList, h.1]) fun i y v h1 h2 => ?_
  rw [Array.getElem?_toList] at h2
  obtain ⟨c, u, hc, rfl⟩ := h.2 i v h2
  unfold signsV at h1
  rw [List.getElem?_map, Array.getElem?_toList, hc] at h1
  cases h1
  exact ⟨u, rfl⟩
theorem call_list_str {X : Cx} (hc : X.calm = true) : CallR X (.type "list") (fun xs H Q => ∃ z, xs = [.str z] ∧ z.length ≤ 1000 ∧ ∀ l, H l = none → Q (.ref l) (upd H l (.lst (signsV z)))) := by
  intro pins s σ H xs us Q I r h
  obtain ⟨z, rfl, hz, q⟩ := h
  obtain ⟨u, rfl, t, rfl⟩ := vals1 r
  have hn : z.cps.size ≤ sizeLine := Nat.le_of_lt (small1000 hz)
  refine list_str (I.ok.hd hc) z t hn fun s' acc' c' hk hg hd ho hS' hacc => ?_
  obtain ⟨hp, g, d, tk, os⟩ := s'
  obtain rfl : g = s.gens := hg
  obtain rfl : d = s.drawn := hd
  obtain rfl : os = s.os := ho
  refine ⟨.ref s.heap.objs.size, _, I.laid (t' := tk) hk (Nat.le_refl _) (show ObjOk X.prog X.w _ hp _ (.lst (signsV z)) from ⟨?_, acc'.toList, c', signs_vals hacc, hS'⟩), rfl, q _ (I.hok.fresh (Nat.le_refl _))⟩
  unfold signsV
  rw [List.length_map, Array.length_toList]
  exact hn
/-! ### a slice of a list or a tuple -/
def rSlA2 (K : PySem.W.Frag) : V → Option Int → Option Int → Hp → VK → Prop := fun x lo hi H Q => ∃ a xs, x = .ref a ∧ SqA K H a xs ∧ ∀ (r : Addr) (H' : Hp), Same H H' → SqA K H' r (cutV xs lo hi) → Q (.ref r) H'
theorem sl_A {X : Cx} : SlR X (rSlA2 X.K) := fun pins s σ H x v vl vu lo hi sl Q I rx e1 e2 e3 h => by
  obtain ⟨a, xs, rfl, ha, q⟩ := h
  rcases ha with ha | ha
  · exact sl_list pins s σ H (.ref a) v vl vu lo hi sl Q I rx e1 e2 e3 ⟨a, xs, rfl, ha, fun p np => q p _ (same_newH np) (.inl (SqL.of upd_same))⟩
  · refine sl_tupA pins s σ H (.ref a) v vl vu lo hi sl Q I rx e1 e2 e3 ⟨a, xs, rfl, ha, fun e => ?_, fun _ p np => q p _ (same_newH np) (.inr (SqT.of upd_same))⟩
    exact q a H (Same.refl H) (.inr (by rw [cut_whole e]; exact ha))
def SqB (K : PySem.W.Frag) (H : Hp) (a : Addr) (xs : List V) : Prop := SqL K H a xs ∨ H a = some (.tup xs)
theorem SqB.seqA {K : PySem.W.Frag} {H : Hp} {a : Addr} {xs : List V} (h : SqB K H a xs) : SqA K H a xs := h.elim .inl fun h => .inr (SqT.of h)
theorem SqB.same {K : PySem.W.Frag} {a : Addr} {H H1 : Hp} {xs : List V} (h : SqB K H a xs) (x : Same H H1) : SqB K H1 a xs := h.elim (fun h => .inl (x.seq h)) fun h => .inr (x _ _ h)
def spFirstBadA (K : PySem.W.Frag) : Sp := fun vs H Q _ => ∃ (a : Addr) (xs : List V), vs = [.ref a] ∧ SqB K H a xs ∧ xs.length ≤ 1000 ∧ (∀ x ∈ xs, Ent H x) ∧ ∀ H', Same H H' → Q (dueV xs) H'
def spTableA (K : PySem.W.Frag) (C : Addr) : Sp := fun vs H Q _ => ∃ (p a dx : Addr) (xs : List V), vs = [.ref p, .ref a] ∧ H p = some (.ins C dx []) ∧ SqB K H a xs ∧ xs.length ≤ 1000 ∧ (∀ x ∈ xs, Ent H x) ∧ dueV xs = .non ∧
  ∀ H', But p H H' → TabAt H' C p xs → Q .non H'
end Own

namespace Own
open PySem PySem.Spec PyProof.Rows L2
/-! ### len, repr, ==, != of an own class, by name -/
/-- what of a class no def of it says: no __ne__ of its own, and so on -/
structure NeAt (K : PySem.W.Frag) (C : Addr) : Prop where
  cl : Cls K C
  ha : PySem.W.findIn K (.ref C) "__class__" = some (some (.builtin "object.__class__"))
  hn : PySem.W.specialIn K (.builtin "object.__class__") "__get__" = some (some (.builtin "getset_descriptor.__get__"))
  htk : PySem.W.takesIn K (.builtin "object.__class__") = some true
  hm : PySem.W.mroIn K C (.type "object") = some true
  ne : PySem.W.findIn K (.ref C) "__ne__" = some (some (.builtin "object.__ne__"))
  kL : PySem.W.kitOne K (.type "list") (.ref C) = some false
  kT : PySem.W.kitOne K (.type "tuple") (.ref C) = some false
  kS : PySem.W.kitOne K (.type "str") (.ref C) = some false
  fL : PySem.W.notFirst K C (.type "list") = true
  fT : PySem.W.notFirst K C (.type "tuple") = true
  fS : PySem.W.notFirst K C (.type "str") = true
section
variable {X : Cx} {k : Nat} {C f : Addr} {fd : FuncData} {ps : List Str} {sp : Sp}
theorem call_len_cal (c : CalM X.prog X.w X.K X.mg X.base CX0 k C "__len__" f fd ps sp) (hr : Room (k + 1) X.A) : CallR X (.builtin "len") (rLenOwn C sp E0) := call_len_own c.ok c.mt c.b pass0 hr
theorem call_repr_cal (c : CalM X.prog X.w X.K X.mg X.base CX0 k C "__repr__" f fd ps sp) (hr : Room (k + 1) X.A) : CallR X (.builtin "repr") (rReprOwn C sp E0) := call_repr_own c.ok c.mt c.b pass0 hr
theorem op_eq_cal (c : CalM X.prog X.w X.K X.mg X.base CX0 k C "__eq__" f fd ps sp) (hr : Room k X.A) : OpR X (compareOp .Eq) (rEqOwn X.K C false sp E0) := op_eq_own c.ok c.mt c.b pass0 hr
theorem op_ne_cal (n : NeAt X.K C) (c : CalM X.prog X.w X.K X.mg X.base CX0 k C "__eq__" f fd ps sp) (hr : Room (k + 1) X.A) : OpR X (compareOp .NotEq) (rEqOwn X.K C true sp E0) := op_ne_own c.ok c.mt n.ne n.hm c.b pass0 hr
end
theorem NeAt.self {K : PySem.W.Frag} {C : Addr} (n : NeAt K C) : PySem.W.notFirst K C (.ref C) = true := by
  unfold PySem.W.notFirst
  rw [beq_self_eq_true, Bool.true_or]
theorem NeAt.ty {K : PySem.W.Frag} {C : Addr} (n : NeAt K C) {H : Hp} {a dx : Addr} {fs : List (Str × V)} (h : H a = some (.ins C dx fs)) : TyX K H (.ref a) (.ref C) :=
  .base (.ins h n.cl n.ha n.hn n.htk n.hm)
/-! ### texts as data -/
theorem dp_strs {K : PySem.W.Frag} {H : Hp} : ∀ (ys : List Str), DpAll K H (ys.map V.str) (ys.map PyData.str)
  | [] => .nil
  | n :: r => .cons (.str n) (dp_strs r)
theorem eqvAll_strs : ∀ (ys zs : List Str), PyData.eqvAll (ys.map PyData.str) (zs.map PyData.str) = decide (ys = zs)
  | [], [] => by simp [PyData.eqvAll]
  | [], _ :: _ => by simp [PyData.eqvAll]
  | _ :: _, [] => by simp [PyData.eqvAll]
  | y :: ys, z :: zs => by
    have ih := eqvAll_strs ys zs
    simp only [List.map_cons, PyData.eqvAll, PyData.eqv, ih]
    rw [Bool.eq_iff_iff]
    simp
theorem eqv_tups (ys zs : List Str) : PyData.eqv (.tuple (ys.map PyData.str)) (.tuple (zs.map PyData.str)) = decide (ys = zs) := by
  rw [← eqvAll_strs]
  simp only [PyData.eqv]
theorem eqv_lsts (ys zs : List Str) : PyData.eqv (.list (ys.map PyData.str)) (.list (zs.map PyData.str)) = decide (ys = zs) := by
  rw [← eqvAll_strs]
  simp only [PyData.eqv]
/-! ### words -/
/-- a text of one to eight small letters -/
def lowS (z : Str) : Prop := 1 ≤ z.length ∧ z.length ≤ 8 ∧ ∀ c ∈ z.cps.toList, lowB c = true
theorem low_of {z : Str} (h : wordB z = true) : lowS z := by
  unfold wordB at h
  simp only [Bool.and_eq_true, decide_eq_true_eq] at h
  obtain ⟨_, ⟨h1, h2⟩, h3⟩ := h
  exact ⟨by omega, by omega, fun c hc => List.all_eq_true.mp h3 c hc⟩
theorem strOk_low {z : Str} (h : ∀ c ∈ z.cps.toList, lowB c = true) : PyData.canLay0 (.str z) = true := by
  unfold PyData.canLay0 PyData.strOk
  rw [← Array.all_toList, List.all_eq_true]
  intro c hc
  have q := h c hc
  unfold lowB at q
  simp only [Bool.and_eq_true, decide_eq_true_eq] at q
  exact decide_eq_true (by omega)
def Words (ws : List Str) : Prop := ∀ z ∈ ws, wordB z = true
theorem flat_word {z : Str} (h : wordB z = true) : (PyData.str z).canLay0 = true ∧ (PyData.str z).depth = 0 := ⟨strOk_low (low_of h).2.2, by simp only [PyData.depth]⟩
theorem shaped_tupW {ws : List Str} (h : Words ws) : SeqAt.shaped (.tuple (ws.map PyData.str)) = true := shaped_tup fun d hd => by
  obtain ⟨z, hz, rfl⟩ := List.mem_map.mp hd
  exact flat_word (h z hz)
theorem shaped_lstW {ws : List Str} (h : Words ws) : SeqAt.shaped (.list (ws.map PyData.str)) = true := shaped_lst fun d hd => by
  obtain ⟨z, hz, rfl⟩ := List.mem_map.mp hd
  exact flat_word (h z hz)
theorem inV_str (z : Str) : ∀ (l : List Str), inV (.str z) (l.map V.str) = decide (z ∈ l)
  | [] => by rfl
  | y :: l => by
    have ih := inV_str z l
    unfold inV at ih ⊢
    rw [List.map_cons, List.any_cons, ih]
    show ((y == z) || decide (z ∈ l)) = decide (z ∈ y :: l)
    rw [Bool.eq_iff_iff]
    simp only [Bool.or_eq_true, beq_iff_eq, decide_eq_true_eq, List.mem_cons]
    constructor
    · rintro (e | e)
      · exact .inl e.symm
      · exact .inr e
    · rintro (e | e)
      · exact .inl e.symm
      · exact .inr e
theorem inV_mem {x : V} {xs ys : List V} (h : ∀ y, y ∈ xs ↔ y ∈ ys) : inV x xs = inV x ys := by
  unfold inV
  rw [Bool.eq_iff_iff, List.any_eq_true, List.any_eq_true]
  constructor
  · rintro ⟨y, hy, e⟩
    exact ⟨y, (h y).mp hy, e⟩
  · rintro ⟨y, hy, e⟩
    exact ⟨y, (h y).mpr hy, e⟩
theorem badFrom_words : ∀ (ws pre : List Str), Words ws → (∀ z ∈ ws, z ∉ pre) → ws.Nodup → badFrom (pre.map V.str) (ws.map V.str) = none
  | [], _, _, _, _ => rfl
  | z :: ws, pre, hw, hp, hn => by
    obtain ⟨n1, n2⟩ := List.nodup_cons.mp hn
    have h1 : wordV (.str z) = true := hw z (List.mem_cons_self ..)
    have h2 : inV (.str z) (pre.map V.str) = false := by
      rw [inV_str]
      exact decide_eq_false (hp z (List.mem_cons_self ..))
    have ih := badFrom_words ws (pre ++ [z]) (fun y hy => hw y (List.mem_cons_of_mem _ hy)) (fun y hy hm => by
      rcases List.mem_append.mp hm with hm | hm
      · exact hp y (List.mem_cons_of_mem _ hy) hm
      · rw [List.mem_singleton.mp hm] at hy
        exact n1 hy) n2
    show (if (!(wordV (.str z)) || inV (.str z) (pre.map V.str)) = true then some _ else badFrom (pre.map V.str ++ [.str z]) (ws.map V.str)) = none
    rw [h1, h2, if_neg (by decide)]
    rw [List.map_append] at ih
    exact ih
/-- one to three different words -/
structure Cols (ws : List Str) : Prop where
  w : Words ws
  nd : ws.Nodup
  l1 : 1 ≤ ws.length
  l3 : ws.length ≤ 3
theorem due_cols {ws : List Str} (c : Cols ws) : dueV (ws.map V.str) = .non := by
  have q := badFrom_words ws [] c.w (fun _ _ h => by cases h) c.nd
  unfold dueV
  have h1 := c.l1
  have h3 := c.l3
  rw [List.length_map, decide_eq_true (by omega : (1 : Int) ≤ (ws.length : Nat)), decide_eq_true (by omega : ((ws.length : Nat) : Int) ≤ 3), if_pos (by rfl)]
  rw [show badFrom [] (ws.map V.str) = none from q]
theorem ent_word {H : Hp} {ws : List Str} (h : Words ws) : ∀ x ∈ ws.map V.str, Ent H x := fun x hx => by
  obtain ⟨z, hz, rfl⟩ := List.mem_map.mp hx
  refine ⟨_, rfl, fun y e => ?_⟩
  cases e
  have := (low_of (h z hz)).2.1
  omega
/-! ### len, repr and == of a table -/
def spLenT (C : Addr) : Sp := fun vs H Q _ => ∃ (p : Addr) (xs : List V), vs = [.ref p] ∧ TabAt H C p xs ∧ Q (.int (xs.length : Nat)) H
def reprT (ys : List Str) : Str := ((Str.empty ++ "Table(") ++ Txt.join ", " ys) ++ ")"
def spReprT (C : Addr) : Sp := fun vs H Q _ => ∃ (p : Addr) (ys : List Str), vs = [.ref p] ∧ TabAt H C p (ys.map V.str) ∧ Cols ys ∧ Q (.str (reprT ys)) H
def spEqT (C : Addr) : Sp := fun vs H Q _ => ∃ (p : Addr) (y : V) (ys : List Str), vs = [.ref p, y] ∧ TabAt H C p (ys.map V.str) ∧ Words ys ∧
  ((∃ q zs, y = .ref q ∧ TabAt H C q (zs.map V.str) ∧ Words zs ∧ Q (.bl (decide (ys = zs))) H) ∨ (∃ t, kd H y = some t ∧ (t = .lst ∨ t = .tup ∨ t = .str) ∧ Q (.bl false) H))
theorem join_len (S : Str) (ys : List Str) : (Txt.join S ys).length ≤ (ys.map (·.length)).sum + ys.length * S.length := by
  show (Builtin.Str.glued S ys).length ≤ _
  rw [StrLaws.glued_eq_join]
  exact StrLaws.join_length_le S ys
theorem sum_words : ∀ {ws : List Str}, Words ws → (ws.map (·.length)).sum ≤ ws.length * 8
  | [], _ => Nat.zero_le _
  | z :: r, h => by
    have ih := sum_words (ws := r) fun y hy => h y (List.mem_cons_of_mem _ hy)
    have := (low_of (h z (List.mem_cons_self ..))).2.1
    simp only [List.map_cons, List.sum_cons, List.length_cons]
    omega
end Own

namespace Own
open PySem PySem.Spec PyProof.Rows L2
def abcL : List Str := ["a", "b", "c", "d", "e", "f", "g", "h", "i", "j", "k", "l", "m", "n", "o", "p", "q", "r", "s", "t", "u", "v", "w", "x", "y", "z"]
theorem abc_signs : signsV "abcdefghijklmnopqrstuvwxyz" = abcL.map V.str := by decide +kernel
theorem abc_low : ∀ z ∈ abcL, z.length = 1 ∧ ∀ c ∈ z.cps.toList, lowB c = true := by decide +kernel
theorem abc_nd : abcL.Nodup := by decide +kernel
theorem abc_kept : ∀ z ∈ abcL, z ∉ keptL := by decide +kernel
theorem cps_app (a b : Str) : (a ++ b).cps.toList = a.cps.toList ++ b.cps.toList := by
  show (a.cps ++ b.cps).toList = _
  exact Array.toList_append
theorem len_cps (a : Str) : a.cps.toList.length = a.length := Array.length_toList
theorem low_app {a b : Str} (ha : ∀ c ∈ a.cps.toList, lowB c = true) (hb : ∀ c ∈ b.cps.toList, lowB c = true) : ∀ c ∈ (a ++ b).cps.toList, lowB c = true := fun c hc => by
  rw [cps_app] at hc
  rcases List.mem_append.mp hc with hc | hc
  · exact ha c hc
  · exact hb c hc
theorem low_cut {z : Str} {lo hi : Option Int} (h : ∀ c ∈ z.cps.toList, lowB c = true) : ∀ c ∈ (cutS z lo hi).cps.toList, lowB c = true := fun c hc => by
  unfold cutS at hc
  exact h c (List.mem_of_mem_drop (List.mem_of_mem_take hc))
theorem len_cutS (z : Str) (lo hi : Option Int) : (cutS z lo hi).length = min (HT.sIx z.length z.length hi - HT.sIx z.length 0 lo) (z.length - HT.sIx z.length 0 lo) := by
  show (((z.cps.toList.drop (HT.sIx z.length 0 lo)).take (HT.sIx z.length z.length hi - HT.sIx z.length 0 lo)).toArray).size = _
  rw [List.size_toArray, List.length_take, List.length_drop, Array.length_toList] <;> rfl
theorem len_takeS {z : Str} {i : Nat} (h : i ≤ z.length) : (cutS z none (some (i : Int))).length = i := by
  rw [len_cutS, HT.sIx_none, HT.sIx_nat]
  omega
theorem len_dropS {z : Str} {i : Nat} (h : i ≤ z.length) : (cutS z (some (i : Int)) none).length = z.length - i := by
  rw [len_cutS, HT.sIx_none, HT.sIx_nat]
  omega
theorem low_swap {z x : Str} {d : Int} (hz : lowS z) (hx : x.length = 1) (hl : ∀ c ∈ x.cps.toList, lowB c = true) (d0 : 0 ≤ d) (d1 : d < z.length) : lowS (cutS z none (some d) ++ x ++ cutS z (some (d + 1)) none) := by
  obtain ⟨j, rfl⟩ : ∃ j : Nat, d = j := ⟨d.toNat, by omega⟩
  have e1 : (cutS z none (some (j : Int))).length = j := len_takeS (by omega)
  have e2 : (cutS z (some ((j : Int) + 1)) none).length = z.length - (j + 1) := by
    have q := len_dropS (z := z) (i := j + 1) (by omega)
    exact q
  obtain ⟨h1, h2, h3⟩ := hz
  refine ⟨?_, ?_, low_app (low_app (low_cut h3) hl) (low_cut h3)⟩
  · rw [Str.length_append, Str.length_append]
    omega
  · rw [Str.length_append, Str.length_append]
    omega
theorem word_of {z : Str} (h : lowS z) (hk : z ∉ keptL) : wordB z = true := by
  obtain ⟨h1, h2, h3⟩ := h
  unfold wordB
  rw [inV_str, decide_eq_false hk]
  simp only [Bool.not_false, Bool.true_and, Bool.and_eq_true, decide_eq_true_eq]
  exact ⟨⟨by omega, by omega⟩, List.all_eq_true.mpr h3⟩
theorem not_kept {z : Str} (h : wordB z = true) : z ∉ keptL := fun hm => by
  unfold wordB at h
  rw [inV_str, decide_eq_true hm] at h
  simp at h
theorem nodup_sub : ∀ (l m : List Str), l.Nodup → (∀ x ∈ l, x ∈ m) → l.length ≤ m.length
  | [], _, _, _ => Nat.zero_le _
  | x :: l, m, hn, h => by
    obtain ⟨n1, n2⟩ := List.nodup_cons.mp hn
    have hx := h x (List.mem_cons_self ..)
    have ih := nodup_sub l (m.erase x) n2 fun y hy => (List.mem_erase_of_ne (fun e : y = x => n1 (by rw [← e]; exact hy))).mpr (h y (List.mem_cons_of_mem _ hy))
    rw [List.length_erase_of_mem hx] at ih
    have := List.length_pos_of_mem hx
    rw [List.length_cons]
    omega
/-- a letter that is not among three -/
theorem abc_free {us : List Str} (h : us.length ≤ 3) : ∃ z ∈ abcL, z ∉ us := by
  by_cases q : ∃ z ∈ abcL, z ∉ us
  · exact q
  · have q2 : ∀ x ∈ abcL, x ∈ us := fun x hx => Classical.byContradiction fun n => q ⟨x, hx, n⟩
    have := nodup_sub abcL us abc_nd q2
    have e : abcL.length = 26 := rfl
    omega
theorem filter_snoc {α : Type} {xs : List α} {i : Nat} {x : α} (p : α → Bool) (h : xs[i]? = some x) : (xs.take (i + 1)).filter p = (xs.take i).filter p ++ if p x = true then [x] else [] := by
  rw [take_snoc h, List.filter_append, List.filter_cons, List.filter_nil]
theorem atI_last {α : Type} {xs : List α} {v : α} (h : xs[xs.length - 1]? = some v) : atI xs (-1) = some v := by
  have hj : xs.length - 1 < xs.length := (List.getElem?_eq_some_iff.mp h).1
  have e : ixN xs.length (-1) = some (xs.length - 1) := by
    unfold ixN
    rw [if_neg (by omega), if_pos (by omega)]
    congr 1
    omega
  unfold atI
  rw [e]
  exact h
/-- a new word -/
def spWord (K : PySem.W.Frag) : Sp := fun vs H Q _ => ∃ (b u : Addr) (us : List Str), vs = [.ref b, .ref u] ∧ Bag H b ∧ u ≠ b ∧ SqL K H u (us.map V.str) ∧ Words us ∧ us.length ≤ 3 ∧
  ∀ (z : Str) (H' : Hp), wordB z = true → z ∉ us → But b H H' → Bag H' b → Q (.str z) H'
end Own

namespace Own
open PySem PySem.Spec PyProof.Rows L2
section
variable {X : Cx} {x : Str} {B : Addr} {e : Expr} {es : List Expr} {ta : TA} {p1 p2 pos : Pos} {pl : Sem Bool}
/-- the base class at B says no __init__ of its own: the built-in's is found -/
structure BaseI (K : PySem.W.Frag) (B : Addr) : Prop where
  rd : ClX.CRead K B (.type "type")
  ini : PySem.W.findCls K (.ref B) (.type "type") "__init__" = some (.val (.builtin "ValueError.__init__"))
/-- B.__init__(self, ..) -/
theorem pe_binit (b : BaseI X.K B) (hg : Gl X x) (hm : X.mg x = some (.ref B)) (ha : PA X (e :: es) ta)
    (hc : eval (.Call (.Attribute (.Name x p1) "__init__" p2) (e :: es) [] pos) X.env = (do
      let ov ← eval (.Name x p1) X.env
      standAt p2.atName
      let (f, first) ← holding [ov] (getMethod ov "__init__" pl)
      callWith pos f first (backTo pos (starEach (e :: es) X.env)) (backToKw pos (keywordEach [] X.env))) := by rfl)
    (hdb : (x == ("__debug__" : Str)) = false := by decide)
    (he : starEach (e :: es) X.env = (false, eval e X.env) :: starEach es X.env := by rfl) (hpl : (backTo pos (starEach es X.env)).any (·.1) = false := by rfl) :
    PE X (.Call (.Attribute (.Name x p1) "__init__" p2) (e :: es) [] pos) (tVeI X.K ta) := by
  refine ⟨fun pins s σ H Q I h => ?_⟩
  refine PySem.W.methodCall_KW (ld_glob I hg hm ?_ hdb) hc
  refine PySem.W.method_cls I.kIn b.rd.ga (PySem.W.cls_value I.kIn b.rd.rd b.ini (by decide +kernel) ?_)
  show wpAny _ _ (callWith pos (Value.builtin "ValueError.__init__") [] (backTo pos (starEach (e :: es) X.env)) []) _ _ _
  refine PyProof.Rows.callWith_method1 (thn (ha.run pos pins _ σ H _ (I.tok _) h) fun us s1 ⟨vs, H1, I1, r1, a, C, ws, ev, hl, T, ea, q⟩ => ?_) he hpl
  subst ev
  cases r1 with
  | @cons _ u0 _ ur ra rw' =>
    obtain rfl : u0 = Value.ref a := ra
    have hlen : ur.length ≤ sizeLine := by
      rw [← Paired.length rw', sizeLine_eq]
      omega
    exact oinit_ok T I1 ea hlen fun s' J => ⟨.non, H1, J, rfl, q⟩
end
/-! ### isinstance of the exception that the suite holds -/
def rIsX (K : PySem.W.Frag) (a : Addr) (cls : Value) (d : Option Addr) : List V → Hp → VK → Prop := fun xs H Q => ∃ (D dd : Addr) (fs : List (Str × V)) (c : V) (u : Value) (b : Bool), cls = .ref D ∧ d = some dd ∧ H dd = some (.xd fs) ∧ ExcC K D ∧ xs = [.ref a, c] ∧ ClsV c u ∧ PySem.W.kitOne K (.ref D) u = some b ∧ Q (.bl b) H
def rIsXT (K : PySem.W.Frag) (a : Addr) (cls : Value) (d : Option Addr) : List V → Hp → VK → Prop := fun xs H Q => ∃ (D dd : Addr) (fs : List (Str × V)) (tp : Addr) (cs : List V) (us : List Value) (b : Bool), cls = .ref D ∧ d = some dd ∧ H dd = some (.xd fs) ∧ ExcC K D ∧ xs = [.ref a, .ref tp] ∧ H tp = some (.tup cs) ∧ Paired ClsV cs us ∧ PySem.W.kitAny K (.ref D) us = some b ∧ Q (.bl b) H
section
variable {X : Cx} {a : Addr} {oe : Obj} {cls : Value} {d : Option Addr} {pn : List (Addr × Obj)}
theorem held_at {pins : List (Addr × Obj)} {σ : L2.St} {H : Hp} {s : Shared} {D dd : Addr} {fs : List (Str × V)} (I : Inv (X.suite a ((a, oe) :: pn)) pins σ H s) (hz : Zc (.ref D) (some dd) oe) (hf : ∃ vs, oe.data = .fields vs) (ea : H dd = some (.xd fs)) :
    ∃ od, PySem.W.InstAt s.heap a oe D (some od) := by
  obtain ⟨ha, _⟩ := I.pin (a, oe) (List.mem_append_left _ List.mem_cons_self)
  obtain ⟨vs, hd⟩ := hf
  have hx : ObjOk X.prog X.w H s.heap dd (.xd fs) := I.hok dd _ ea
  obtain ⟨mA, hns, hr⟩ := hx
  obtain ⟨od, ho, hl⟩ := lookIn_ns hns
  exact ⟨od, ha, hz.1, by unfold PySem.W.notCls; rw [hd] <;> rfl, by rw [hz.2]; exact ho⟩
theorem kit_held {K : PySem.W.Frag} {D x : Addr} {ox : Obj} {od : Option Obj} (c : ExcC K D) : PySem.W.KitX K (.ref x) (.ref D) (fun h => PySem.W.InstAt h x ox D od) :=
  PySem.W.kitx_exc (by obtain ⟨cd, hc, _⟩ := PySem.W.any_some c.hd; rw [hc]; rfl) c.hg c.hk c.hs c.ha c.hn c.ht c.hm
theorem call_isX (hz : Zc cls d oe) (hf : ∃ vs, oe.data = .fields vs) : CallR (X.suite a ((a, oe) :: pn)) (.builtin "isinstance") (rIsX X.K a cls d) := by
  intro pins s σ H xs us Q I r h
  obtain ⟨D, dd, fs, c, u, b, rfl, rfl, ea, E, rfl, k, e, q⟩ := h
  obtain ⟨od, J⟩ := held_at I hz hf ea
  obtain ⟨u1, u2, rfl, r1, r2⟩ := vals2 r
  cases r1
  have e2 := k.eq r2
  subst e2
  exact PySem.W.kia_one (kit_held E) I.kIn J e (fun z => nomatch z) fun tk => ⟨.bl b, H, I.tok tk, rfl, q⟩
theorem call_isXT (hz : Zc cls d oe) (hf : ∃ vs, oe.data = .fields vs) : CallR (X.suite a ((a, oe) :: pn)) (.builtin "isinstance") (rIsXT X.K a cls d) := by
  intro pins s σ H xs us Q I r h
  obtain ⟨D, dd, fs, tp, cs, ws, b, rfl, rfl, ea, E, rfl, hT, k, e, q⟩ := h
  obtain ⟨od, J⟩ := held_at I hz hf ea
  obtain ⟨u1, u2, rfl, r1, r2⟩ := vals2 r
  cases r1
  cases (show u2 = Value.ref tp from r2)
  obtain ⟨_, its, rv, o, h1, h2, n, h3⟩ := (show ObjOk X.prog X.w H s.heap tp (.tup cs) from I.hok tp _ hT)
  have e3 := ClsV.all k rv
  subst e3
  obtain ⟨oc, oda, dt, sl⟩ := o
  simp only at h2 h3
  subst h2 h3
  exact PySem.W.kia_tup (kit_held E) I.kIn J h1 e (fun z => nomatch z) fun tk => ⟨.bl b, H, I.tok tk, rfl, q⟩
end
/-! ### own exception classes, by name -/
structure CalE (P : Program) (w : World) (K : PySem.W.Frag) (mg : Str → Option Value) (base : Heap) (CX : CXT) (k : Nat) (x : Str) (C f : Addr) (fd : FuncData) (ps : List Str) (sp : Sp) : Prop where
  ok : FnOk P w K mg base CX k f fd ps sp
  cls : OexC K C
  ini : PySem.W.findIn K (.ref C) "__init__" = some (some (.ref f))
  fn : PySem.W.typeIn K (.ref f) = some (.type "function")
  at_ : mg x = some (.ref C)
  b : Binds K fd ps []
section
variable {X : Cx} {k : Nat} {x : Str} {C f : Addr} {fd : FuncData} {ps : List Str} {sp : Sp} {e : Expr} {es : List Expr} {t : TA} {p pos pos2 : Pos} {W : WX}
theorem ps_raiseE (c : CalE X.prog X.w X.K X.mg X.base CX0 k x C f fd ps sp) (hr : Room (k + 1) X.A) (hc : X.calm = true) (tk : Takes X W) (ha : PA X (e :: es) t)
    (hg : Gl X x := by rfl) (hdb : (x == ("__debug__" : Str)) = false := by decide) (he : starEach (e :: es) X.env = (false, eval e X.env) :: starEach es X.env := by rfl) (hpl : (backTo pos (starEach es X.env)).any (·.1) = false := by rfl) :
    PS X (.Raise (some (.Call (.Name x p) (e :: es) [] pos)) none pos2) (fun _ σ H => tMkO C sp [] t σ H fun cls d H' => W cls d σ H') :=
  ps_raise hc tk (pmk_oex c.cls c.ini c.fn c.ok hr c.b .nil pass0 hg c.at_ ha hdb he hpl)
/-- C(..), C's __init__ may raise; the wish of it at these locals -/
def tMakeS (C : Addr) (sp : Sp) (E : L2.St → XK) (t : TA) : TE := fun σ H Q => t σ H fun vs H1 => ∀ x dx, H1 x = none → H1 dx = none → dx ≠ x → sp (.ref x :: vs) (upd (upd H1 dx (.own x)) x (.ins C dx [])) (fun v H2 => v = .non ∧ Q (.ref x) H2) (E σ)
theorem pe_mkrX (c : CalI X.prog X.w X.K X.mg X.base (L2.CX X.prog X.w) k x C f fd ps sp) (hr : Room (k + 1) X.A) (tk : Takes X W) (ha : PA X (e :: es) t)
    (hg : Gl X x := by rfl) (hdb : (x == ("__debug__" : Str)) = false := by decide) (he : starEach (e :: es) X.env = (false, eval e X.env) :: starEach es X.env := by rfl) (hpl : (backTo pos (starEach es X.env)).any (·.1) = false := by rfl) :
    PE X (.Call (.Name x p) (e :: es) [] pos) (tMakeS C sp (fun σ cls d H => W cls d σ H) t) := by
  refine ⟨fun pins s σ H Q I h => wpAny_Call_Name_kw (ld_glob I hg c.at_ ?_ hdb)⟩
  refine PySem.W.callWith_K (h₀ := X.base) I.ok.mod.kin c.mkr.kp (thn (ha.run pos pins s σ H _ I h) fun us s1 ⟨vs, H1, I1, r, q⟩ => ⟨I1.kIn, ?_⟩) he hpl
  have q1 := q (s1.heap.objs.size + 1) s1.heap.objs.size (I1.hok.fresh (Nat.le_succ _)) (I1.hok.fresh (Nat.le_refl _)) (Nat.ne_of_lt (Nat.lt_succ_self _))
  have I2 := Inv.made (C := C) I1
  have r2 : Vals (V.ref (s1.heap.objs.size + 1) :: vs) (Value.ref (s1.heap.objs.size + 1) :: us) := .cons rfl r
  have hl : (Value.ref (s1.heap.objs.size + 1) :: us ++ []).length = ps.length := by
    rw [List.append_nil, ← r2.length]
    exact c.ok.len _ _ _ _ q1
  have bt := c.b _ (Value.ref (s1.heap.objs.size + 1) :: us) I2.kIn hl
  rw [List.append_nil] at bt
  show wpAny _ _ (call (.ref C) us) _ _ _
  refine wpAny_call (make_map (f := f) I1.kIn c.mkr.makes c.mkr.init (beq_iff_eq.mp c.mkr.fn) (codeAny_mono (c.ok.run _ X.stack _ _ ⟨Value.ref (s1.heap.objs.size + 1) :: us, []⟩ _ _ _ _ (hr.make C us []) (I2.env0.make C us []) bt r2 q1) fun z s' hz => ?_))
  match z, hz with
  | .error er, hz => exact tk er s' (XE.of_call I2 (fun _ _ _ h => h) hz)
  | .ok (.ret u), hz =>
    obtain ⟨v, H', I3, rv, ev, q3⟩ := I2.after hz
    subst ev
    exact ⟨rv, V.ref (s1.heap.objs.size + 1), H', I3, rfl, q3⟩
end
end Own
namespace Own
open PySem PySem.Spec PyProof.Rows L2
theorem pe_cal0 {X : Cx} {k : Nat} {x : Str} {f : Addr} {fd : FuncData} {ps : List Str} {sp : Sp} {p pos : Pos} (c : Cal X.prog X.w X.K X.mg X.base CX0 k x f fd ps sp) (hr : Room k X.A) (hg : Gl X x := by rfl) (hdb : (x == ("__debug__" : Str)) = false := by decide) :
    PE X (.Call (.Name x p) [] [] pos) (tCall sp [] E0 tNil) := pe_call0 c.ok hr hg c.at_ c.kp c.b .nil pass0 hdb
/-! ### the errors' own promises -/
/-- copied(v), v no list, no tuple -/
def spCopied : Sp := fun vs H Q _ => ∃ (v : V) (t : Kd), vs = [v] ∧ kd H v = some t ∧ t ≠ .lst ∧ t ≠ .tup ∧ Q v H
/-- self.at = a small number -/
def spErrAt (C : Addr) : Sp := fun vs H Q _ => ∃ (a : Addr) (i : Int), vs = [.ref a, .int i] ∧ H a = some (exo a C none) ∧ -1 ≤ i ∧ i ≤ 2 ∧ ∀ d, H d = none → d ≠ a → Q .non (upd (upd H d (exd d [("at", .int i)])) a (exo a C (some d)))
/-- Table(columns), or the error -/
def spTableX (K : PySem.W.Frag) (C CB : Addr) : Sp := fun vs H Q E => ∃ (p a dx : Addr) (xs : List V), vs = [.ref p, .ref a] ∧ H p = some (.ins C dx []) ∧ SqB K H a xs ∧ xs.length ≤ 1000 ∧ (∀ x ∈ xs, Ent H x) ∧
  (dueV xs = .non → ∀ H', But p H H' → TabAt H' C p xs → Q .non H') ∧ (∀ i, dueV xs = .int i → ∀ d H', Same H H' → H' d = some (.xd [("at", .int i)]) → E (.ref CB) (some d) H')
theorem badFrom_le : ∀ (xs pre : List V) (i : Nat), badFrom pre xs = some i → i < pre.length + xs.length
  | [], _, _, h => by cases h
  | x :: r, pre, i, h => by
    unfold badFrom at h
    split at h
    · cases h
      rw [List.length_cons]
      omega
    · have := badFrom_le r (pre ++ [x]) i h
      rw [List.length_append, List.length_singleton] at this
      rw [List.length_cons]
      omega
theorem due_cases (xs : List V) : dueV xs = .non ∨ ∃ i : Int, dueV xs = .int i ∧ -1 ≤ i ∧ i ≤ 2 := by
  unfold dueV
  split
  · rename_i h
    simp only [Bool.and_eq_true, decide_eq_true_eq] at h
    cases e : badFrom [] xs with
    | none => exact .inl rfl
    | some i =>
      have q := badFrom_le xs [] i e
      rw [List.length_nil] at q
      exact .inr ⟨i, rfl, by omega, by omega⟩
  · exact .inr ⟨-1, rfl, by decide, by decide⟩
end Own
namespace Own
open PySem PySem.Spec PyProof.Rows L2
theorem put_same {H H1 : Hp} {g : Addr} {o : HO} (s : Same H H1) (hg : H g = none) : Same H (upd H1 g o) := fun x u e => by
  rw [upd_ne (ne_of_none e hg)]
  exact s x u e
theorem made_same {H H1 : Hp} {p dx C : Addr} (np : H p = none) (ndx : H dx = none) (B : But p (upd (upd H dx (.own p)) p (.ins C dx [])) H1) : Same H H1 := fun q o e => by
  refine B q o (ne_of_none e np) ?_
  rw [upd_ne (ne_of_none e np), upd_ne (ne_of_none e ndx)]
  exact e
end Own

namespace Own
open PySem PySem.Spec PyProof.Rows L2
/-! ### the law's def, asked where nothing is being shown: repr of data -/
/-- as FnOk, at the place where laws are called -/
def Asked (P : Program) (w : World) (K : PySem.W.Frag) (mg : Str → Option Value) (base : Heap) (f : Addr) (fd : FuncData) (ps : List Str) (sp : Sp) : Prop :=
  ∀ (s : Shared) (H : Hp) (us : List Value) (vs : List V) (Q : VK), Env0 P w K mg base callerA [] s H → BindsTo s fd ⟨us, []⟩ (ps.zip us) → Vals vs us → sp vs H Q E0 →
    codeAny (model P w) callerA (.call (.ref f) ⟨us, []⟩) (CR CX0 [] P w H s Q E0) s
theorem asked_of {P : Program} {w : World} {K : PySem.W.Frag} {mg : Str → Option Value} {base : Heap} {x qual : Str} {params : Arguments} {body : List Stmt} {scope : Scope} {f : Addr} {fd : FuncData} {N ps : List Str} {k : Nat} {sp : Sp}
    (F : FunD K x qual params body scope [] [] f fd) (S : FnScope N ps scope) (hr : Room (k + 1) callerA) (len : ∀ vs H Q E, sp vs H Q E → vs.length = ps.length)
    (hbody : ∀ (cdv : Value) (s : Shared) (H : Hp) (vs : List V) (Q : VK), Room k (callerA.deeper (envOfC qual scope s.heap.objs.size f cdv)) → (callerA.deeper (envOfC qual scope s.heap.objs.size f cdv)).guards = some [] → sp vs H Q E0 →
      ∃ t, PSs (cxOf CX0 P w K mg base N qual scope f cdv callerA [] s H E0) body t ∧ t { nx := fun _ H' => Q .non H', rt := Q } (L2.start N vs) H) : Asked P w K mg base f fd ps sp := by
  obtain ⟨oc, od, dV, kV, doc, pm, an, cdv, ct, osl, rfl, lk, hcd, _, _⟩ := F.ex
  intro s H us vs Q e0 hb r hsp
  have X0 : K.In s.heap := e0.mod.kin.keeps fun b o e => (e0.bs b o e).1
  have nl : s.heap.NoLimit := e0.mod.nolimit.keeps fun b o e => (e0.bs b o e).1
  refine codeAny_call_function hr.depth (X0 _ _ lk) rfl S.co S.gen rfl (PySem.W.codeRec_of X0 hcd) (hb _ _ _ _ ?_)
  refine wpAny_newFunctionEnv_cells S.kind (fun y hy => ?_) fun env he s1 ic => ?_
  · obtain ⟨n, v⟩ := y
    exact (S.par n (List.of_mem_zip hy).1).imp id fun q => ⟨q, PySem.W.cellsFrom_some _ _ _ (.inl q)⟩
  subst he
  refine ⟨nl.keeps ic.toInCall.keep, codeAny_func ?_⟩
  obtain ⟨t, ht, hq⟩ := hbody cdv s H vs Q (hr.deeper _) rfl hsp
  refine wpAny_mono (ht.run [] s1 (L2.start N vs) H _ (inv_start S hr.hd e0 (len _ _ _ _ hsp) r ic) hq) (fun fl s' hs => ?_) fun e s' hs => hs
  match fl, hs with
  | .ret u, ⟨v, σ', H', J, rv, q⟩ => exact ⟨v, H', J.os, J.bare, J.base, J.hok, rv, q⟩
  | .next, ⟨σ', H', J, q⟩ => exact ⟨V.non, H', J.os, J.bare, J.base, J.hok, rfl, q⟩
  | .brk, ⟨_, _, _, q⟩ => exact q.elim
  | .cont, ⟨_, _, _, q⟩ => exact q.elim
/-- repr of a list or a tuple of data -/
def rReprD (K : PySem.W.Frag) : List V → Hp → VK → Prop := fun xs H Q => ∃ (a : Addr) (d : PyData), xs = [.ref a] ∧ Dp K H (.ref a) d ∧ d.showable = true ∧ d.hasDict = false ∧ d.depth ≤ 60 ∧ d.shown.length ≤ sizeLine ∧ Q (.str d.shown) H
theorem call_repr_data {X : Cx} (hu : X.A.units + 64 < cLine) (hg : X.A.guards = some []) : CallR X (.builtin "repr") (rReprD X.K) := by
  intro pins s σ H xs us Q I r h
  obtain ⟨a, d, rfl, hd, h1, h2, h3, h4, q⟩ := h
  obtain ⟨u, rfl, ru⟩ := vals1 r
  cases ru
  obtain ⟨as, rd⟩ := Dp.reads I d (.ref a) (.ref a) hd rfl
  refine repr_of_reads' rd h1 (fun e => by rw [h2] at e; cases e) hg (by omega) (fun _ _ e => e) (fun h' u tk hk => ?_) h4
  exact ⟨.str d.shown, H, I.kept (t' := tk) hk, ⟨_, rfl⟩, q⟩
/-! ### the end of a law whose def is asked so -/
theorem asked_call {P : Program} {w : World} {K : PySem.W.Frag} {mg mb : Str → Option Value} {fa a : Addr} {fd : FuncData} {x : Str} {sp : Sp} {s1 : Shared} {vs : List Value} {ns : List Int}
    (KX : K.In s1.heap) (hns : s1.heap.Ns mainGlobals mg) (hb : s1.heap.Ns builtinsNs mb) (hbb : ∀ x : Str, x ≠ "__name__" → mb x = bootBuiltins x) (hlim : s1.heap.NoLimit) (hg : s1.gens = #[])
    (ha : s1.heap.get? a = some { cls := .type "list", data := .seq vs.toArray }) (hi : IntsAre vs ns) (hl : ns.length ≤ sizeLine)
    (F : ∀ base : Heap, K.In base → base.Ns mainGlobals mg → Asked P w K mg base fa fd [x] sp) (hbind : ∀ (s : Shared) (u : Value), BindsTo s fd ⟨[u], []⟩ [(x, u)])
    (hsp : ∀ H : Hp, SqL K H a (ns.map V.int) → sp [.ref a] H (fun v _ => v = .bl true) E0) :
    codeAny (model P w) callerA (.call (.ref fa) ⟨[.ref a], []⟩) (fun r s' => r = .ok (.ret (.bool true)) ∧ OldK s1.heap s'.heap ∧ s'.os = s1.os ∧ AllBare s'.gens) s1 := by
  have rv := vals_ints hi
  have go : ∀ H : Hp, (∀ b, H b = none ∨ (b = a ∧ K.lookup a = none ∧ H b = some (.frz { cls := .type "list", data := .seq vs.toArray } (.lst (ns.map V.int))))) → SqL K H a (ns.map V.int) →
      codeAny (model P w) callerA (.call (.ref fa) ⟨[.ref a], []⟩) (fun r s' => r = .ok (.ret (.bool true)) ∧ OldK s1.heap s'.heap ∧ s'.os = s1.os ∧ AllBare s'.gens) s1 := by
    intro H hH hS
    have hok : HOk P w H s1.heap := fun b u z => by
      rcases hH b with q | ⟨rfl, _, q⟩
      · rw [q] at z
        cases z
      · rw [q] at z
        cases z
        exact ⟨ha, by rw [List.length_map]; exact hl, vs, _, rv, ha⟩
    have at_ : ∀ {b : Addr} {o : Obj}, s1.heap.get? b = some o → (b = a → K.lookup a = none → False) → (hidT s1.heap H).get? b = some o := fun {b o} e n => hidT_get e (by
      rcases hH b with q | ⟨q1, q2, _⟩
      · exact q
      · exact (n q1 q2).elim)
    have inK : K.In (hidT s1.heap H) := fun b o e => at_ (KX b o e) fun q1 q2 => by
      subst q1
      rw [q2] at e
      cases e
    have dic : ∀ {b : Addr} {m : Str → Option Value}, s1.heap.Ns b m → (hidT s1.heap H).Ns b m := fun {b m} ⟨o, es, ep, e, dd, r⟩ => ⟨o, es, ep, at_ e (fun q1 _ => by
      subst q1
      rw [ha] at e
      cases e
      cases dd), dd, r⟩
    have M : Mod K mg (hidT s1.heap H) := ⟨inK, dic hns, ⟨mb, dic hb, hbb⟩, let ⟨mc, h1, h2⟩ := hlim; ⟨mc, dic h1, h2⟩⟩
    have e0 : Env0 P w K mg (hidT s1.heap H) callerA [] s1 H := ⟨rfl, M, fun b o e => of_hidT e, Nat.le_of_eq (hidT_size _ _), trivial, (fun b z => by cases z), hok, .of_eq hg⟩
    refine codeAny_mono (F _ inK (dic hns) s1 H [.ref a] [.ref a] _ e0 (hbind s1 (.ref a)) (.cons rfl .nil) (hsp H hS)) fun r s' h => ?_
    match r, h with
    | .error e, h => exact h.elim
    | .ok (.ret u), ⟨v, H', os, bare, un, hok', r', q⟩ =>
      have q' : v = .bl true := q
      subst q'
      obtain rfl : u = Value.bool true := r'
      refine ⟨rfl, OldK.of_keep fun b o e => ?_, os, bare⟩
      rcases hH b with z | ⟨rfl, _, z⟩
      · exact un.keep b o e z (fun z => by cases z) (by simp)
      · obtain ⟨e2, _⟩ := hok' b _ (un.frzs b _ _ z)
        rw [ha] at e
        cases e
        exact e2
  cases hk : K.lookup a with
  | some o =>
    have e := KX a o hk
    rw [ha] at e
    cases e
    exact go (fun _ => none) (fun _ => .inl rfl) (.inr ⟨_, vs.toArray, _, hk, rfl, rfl, rfl, by rw [List.size_toArray, hi.length]; exact hl, by simpa using rv⟩)
  | none =>
    refine go (fun b => if b = a then some (.frz { cls := .type "list", data := .seq vs.toArray } (.lst (ns.map V.int))) else none) (fun b => ?_) (.inl (.inr ⟨{ cls := .type "list", data := .seq vs.toArray }, if_pos rfl⟩))
    by_cases q : b = a
    · exact .inr ⟨q, hk, if_pos q⟩
    · exact .inl (if_neg q)
theorem asked_walk {l : PySem.W.OpenLaw} {n : Nat} {q : Program} {loose : List Str} {XP : (Str → Option Value) → Heap → Prop} {YP : World → Heap → Prop} {d : DefRec} {x : Str}
    (hn : l.most = some n) (hn2 : n ≤ sizeLine) (hdf : d.params.defaults = [])
    (F : ∀ (w : World) (mg : Str → Option Value) (fa : Addr) (h : Heap), YP w h → h.Ns mainGlobals mg → mg d.name = some (.ref fa) →
      ∃ (K : PySem.W.Frag) (fd : FuncData) (sp : Sp), K.In h ∧ (∀ (s : Shared) (u : Value), BindsTo s fd ⟨[u], []⟩ [(x, u)]) ∧
        (∀ (H : Hp) (a : Addr) (ns : List Int), ns.length ≤ n → SqL K H a (ns.map V.int) → sp [.ref a] H (fun v _ => v = .bl true) E0) ∧
        ∀ base : Heap, K.In base → base.Ns mainGlobals mg → Asked l.prog w K mg base fa fd [x] sp) :
    PySem.W.WalkO q loose XP YP l.row.toRowW d [] (fun f vs => PySem.call f vs) := by
  refine Att.attach_call hn hdf fun w s0 s1 mg mb fa o pm cd doc a vs ns G Y ho hd hcd hmg hobj hints hlen hg => ?_
  obtain ⟨K, fd, sp, KX, hb, hsp, hF⟩ := F w mg fa _ Y G.T.g hmg
  exact asked_call KX G.T.g G.T.b G.T.builtins G.T.nolimit hg hobj hints (Nat.le_trans hlen hn2) hF hb (fun H hS => hsp H a ns hlen hS)
end Own

namespace Own
open PySem PySem.Spec PyProof.Rows L2
/-- all but these stays -/
def Buts (bs : List Addr) (H H' : Hp) : Prop := ∀ a o, a ∉ bs → H a = some o → H' a = some o
theorem Buts.of_same {bs : List Addr} {H H' : Hp} (s : Same H H') : Buts bs H H' := fun a o _ h => s a o h
theorem Buts.of_but {bs : List Addr} {b : Addr} {H H' : Hp} (s : But b H H') (hb : b ∈ bs) : Buts bs H H' := fun a o n h => s a o (fun e => n (e ▸ hb)) h
theorem Buts.put {bs : List Addr} {l : Addr} {H : Hp} {o : HO} (hl : l ∈ bs) : Buts bs H (upd H l o) := fun a u n h => by
  rw [upd_ne (fun e : a = l => n (by rw [e]; exact hl))]
  exact h
mutual
/-- v stands for the data, on objects that are none of bs -/
def Dq (H : Hp) (bs : List Addr) : PyData → V → Prop
  | .none, v => v = .non
  | .bool x, v => v = .bl x
  | .int i, v => v = .int i
  | .str z, v => v = .str z ∧ z.length ≤ 100
  | .list ds, v => ∃ a xs, v = .ref a ∧ a ∉ bs ∧ H a = some (.lst xs) ∧ DqA H bs ds xs
  | .tuple ds, v => ∃ a xs, v = .ref a ∧ a ∉ bs ∧ H a = some (.tup xs) ∧ DqA H bs ds xs
  | .dict _, _ => False
def DqA (H : Hp) (bs : List Addr) : List PyData → List V → Prop
  | [], xs => xs = []
  | d :: ds, xs => ∃ y ys, xs = y :: ys ∧ Dq H bs d y ∧ DqA H bs ds ys
end
mutual
theorem Dq.dp {K : PySem.W.Frag} {H : Hp} {bs : List Addr} : ∀ (d : PyData) (v : V), Dq H bs d v → Dp K H v d
  | .none, v, h => by
    obtain rfl : v = .non := by simpa only [Dq] using h
    exact .non
  | .bool x, v, h => by
    obtain rfl : v = .bl x := by simpa only [Dq] using h
    exact .bl x
  | .int i, v, h => by
    obtain rfl : v = .int i := by simpa only [Dq] using h
    exact .int i
  | .str z, v, h => by
    obtain ⟨rfl, _⟩ : v = .str z ∧ z.length ≤ 100 := by simpa only [Dq] using h
    exact .str z
  | .list ds, v, h => by
    obtain ⟨a, xs, rfl, _, ha, hx⟩ : ∃ a xs, v = .ref a ∧ a ∉ bs ∧ H a = some (.lst xs) ∧ DqA H bs ds xs := by simpa only [Dq] using h
    exact .lst (SqL.of ha) (DqA.dp ds xs hx)
  | .tuple ds, v, h => by
    obtain ⟨a, xs, rfl, _, ha, hx⟩ : ∃ a xs, v = .ref a ∧ a ∉ bs ∧ H a = some (.tup xs) ∧ DqA H bs ds xs := by simpa only [Dq] using h
    exact .tup (SqT.of ha) (DqA.dp ds xs hx)
  | .dict _, v, h => by
    have h : False := by simpa only [Dq] using h
    exact h.elim
theorem DqA.dp {K : PySem.W.Frag} {H : Hp} {bs : List Addr} : ∀ (ds : List PyData) (xs : List V), DqA H bs ds xs → DpAll K H xs ds
  | [], xs, h => by
    obtain rfl : xs = [] := by simpa only [DqA] using h
    exact .nil
  | d :: ds, xs, h => by
    obtain ⟨y, ys, rfl, h1, h2⟩ : ∃ y ys, xs = y :: ys ∧ Dq H bs d y ∧ DqA H bs ds ys := by simpa only [DqA] using h
    exact .cons (Dq.dp d y h1) (DqA.dp ds ys h2)
end
mutual
theorem Dq.buts {H H' : Hp} {bs : List Addr} (B : Buts bs H H') : ∀ (d : PyData) (v : V), Dq H bs d v → Dq H' bs d v
  | .none, v, h => by simpa only [Dq] using h
  | .bool x, v, h => by simpa only [Dq] using h
  | .int i, v, h => by simpa only [Dq] using h
  | .str z, v, h => by simpa only [Dq] using h
  | .list ds, v, h => by
    obtain ⟨a, xs, rfl, n, ha, hx⟩ : ∃ a xs, v = .ref a ∧ a ∉ bs ∧ H a = some (.lst xs) ∧ DqA H bs ds xs := by simpa only [Dq] using h
    simp only [Dq]
    exact ⟨a, xs, rfl, n, B _ _ n ha, DqA.buts B ds xs hx⟩
  | .tuple ds, v, h => by
    obtain ⟨a, xs, rfl, n, ha, hx⟩ : ∃ a xs, v = .ref a ∧ a ∉ bs ∧ H a = some (.tup xs) ∧ DqA H bs ds xs := by simpa only [Dq] using h
    simp only [Dq]
    exact ⟨a, xs, rfl, n, B _ _ n ha, DqA.buts B ds xs hx⟩
  | .dict _, v, h => by
    have h : False := by simpa only [Dq] using h
    exact h.elim
theorem DqA.buts {H H' : Hp} {bs : List Addr} (B : Buts bs H H') : ∀ (ds : List PyData) (xs : List V), DqA H bs ds xs → DqA H' bs ds xs
  | [], xs, h => by simpa only [DqA] using h
  | d :: ds, xs, h => by
    obtain ⟨y, ys, rfl, h1, h2⟩ : ∃ y ys, xs = y :: ys ∧ Dq H bs d y ∧ DqA H bs ds ys := by simpa only [DqA] using h
    simp only [DqA]
    exact ⟨y, ys, rfl, Dq.buts B d y h1, DqA.buts B ds ys h2⟩
end
theorem Dq.ent {H : Hp} {bs : List Addr} : ∀ {d : PyData} {v : V}, Dq H bs d v → Ent H v
  | .none, v, h => by
    obtain rfl : v = .non := by simpa only [Dq] using h
    exact ⟨_, rfl, nofun⟩
  | .bool x, v, h => by
    obtain rfl : v = .bl x := by simpa only [Dq] using h
    exact ⟨_, rfl, nofun⟩
  | .int i, v, h => by
    obtain rfl : v = .int i := by simpa only [Dq] using h
    exact ⟨_, rfl, nofun⟩
  | .str z, v, h => by
    obtain ⟨rfl, q⟩ : v = .str z ∧ z.length ≤ 100 := by simpa only [Dq] using h
    exact ⟨_, rfl, fun y e => by cases e; omega⟩
  | .list ds, v, h => by
    obtain ⟨a, xs, rfl, n, ha, hx⟩ : ∃ a xs, v = .ref a ∧ a ∉ bs ∧ H a = some (.lst xs) ∧ DqA H bs ds xs := by simpa only [Dq] using h
    exact ⟨_, kd_lst ha, nofun⟩
  | .tuple ds, v, h => by
    obtain ⟨a, xs, rfl, n, ha, hx⟩ : ∃ a xs, v = .ref a ∧ a ∉ bs ∧ H a = some (.tup xs) ∧ DqA H bs ds xs := by simpa only [Dq] using h
    exact ⟨_, kd_tup ha, nofun⟩
  | .dict _, v, h => by
    have h : False := by simpa only [Dq] using h
    exact h.elim
/-! ### small data -/
structure Nice (d : PyData) : Prop where
  lay : d.canLay0 = true
  dep : d.depth ≤ 3
  sh : d.showable = true
  nd : d.hasDict = false
  sz : d.shown.length ≤ 200
theorem nice_word {z : Str} (h : wordB z = true) : Nice (.str z) := by
  obtain ⟨h1, h2, h3⟩ := low_of h
  refine ⟨strOk_low h3, by simp only [PyData.depth]; omega, by simp only [PyData.showable], by simp only [PyData.hasDict], ?_⟩
  have q := StrLaws.reprText_len z fun c hc => by
    have q := h3 c hc
    unfold lowB at q
    simp only [Bool.and_eq_true, decide_eq_true_eq] at q
    omega
  simp only [PyData.shown]
  omega
theorem nice_all : ∀ {ds : List PyData}, (∀ d ∈ ds, Nice d) → PyData.canLayAll0 ds = true ∧ PyData.depthAll ds ≤ 3 ∧ PyData.showableAll ds = true ∧ PyData.hasDictAll ds = false ∧ ((PyData.shownAll ds).map (·.length)).sum ≤ 200 * ds.length ∧ (PyData.shownAll ds).length = ds.length
  | [], _ => ⟨by simp only [PyData.canLayAll0], by simp only [PyData.depthAll]; omega, by simp only [PyData.showableAll], by simp only [PyData.hasDictAll], by simp [PyData.shownAll], by simp [PyData.shownAll]⟩
  | d :: r, h => by
    obtain ⟨h1, h2, h3, h4, h5⟩ := h d (List.mem_cons_self ..)
    obtain ⟨g1, g2, g3, g4, g5, g6⟩ := nice_all (ds := r) fun x hx => h x (List.mem_cons_of_mem _ hx)
    refine ⟨by simp only [PyData.canLayAll0, h1, g1, Bool.and_self], ?_, by simp only [PyData.showableAll, h3, g3, Bool.and_self], by simp only [PyData.hasDictAll, h4, g4, Bool.or_self], ?_, ?_⟩
    · simp only [PyData.depthAll]
      omega
    · simp only [PyData.shownAll, List.map_cons, List.sum_cons, List.length_cons]
      omega
    · simp only [PyData.shownAll, List.length_cons, g6]
theorem nice_list {ds : List PyData} (h : ∀ d ∈ ds, Nice d) (hl : ds.length ≤ 100) : SeqAt.shaped (.list ds) = true ∧ (PyData.list ds).showable = true ∧ (PyData.list ds).hasDict = false ∧ (PyData.list ds).depth ≤ 60 ∧ (PyData.list ds).shown.length ≤ sizeLine := by
  obtain ⟨g1, g2, g3, g4, g5, g6⟩ := nice_all h
  refine ⟨?_, by simp only [PyData.showable, g3], by simp only [PyData.hasDict, g4], by simp only [PyData.depth]; omega, ?_⟩
  · unfold SeqAt.shaped
    simp only [PyData.canLay0, PyData.depth, g1, Bool.true_and]
    exact decide_eq_true (by omega)
  · simp only [PyData.shown]
    have q := listText_len_le (PyData.shownAll ds)
    refine Nat.le_trans q ?_
    rw [sizeLine_eq, g6]
    omega
theorem dqA_len : ∀ {H : Hp} {bs : List Addr} {ds : List PyData} {xs : List V}, DqA H bs ds xs → ds.length = xs.length
  | H, bs, [], xs, h => by
    obtain rfl : xs = [] := by simpa only [DqA] using h
    rfl
  | H, bs, d :: ds, xs, h => by
    obtain ⟨y, ys, rfl, _, h2⟩ : ∃ y ys, xs = y :: ys ∧ Dq H bs d y ∧ DqA H bs ds ys := by simpa only [DqA] using h
    rw [List.length_cons, List.length_cons, dqA_len h2]
end Own
namespace Own
open PySem PySem.Spec PyProof.Rows L2
def fdV : V → PyData
  | .bl b => .bool b
  | .int i => .int i
  | .str z => .str z
  | _ => .none
def niceB (d : PyData) : Bool := d.canLay0 && decide (d.depth ≤ 3) && d.showable && !d.hasDict && decide (d.shown.length ≤ 200)
theorem niceB_ok {d : PyData} (h : niceB d = true) : Nice d := by
  unfold niceB at h
  simp only [Bool.and_eq_true, decide_eq_true_eq, Bool.not_eq_true'] at h
  obtain ⟨⟨⟨⟨h1, h2⟩, h3⟩, h4⟩, h5⟩ := h
  exact ⟨h1, h2, h3, h4, h5⟩
def okV (v : V) : Bool := flatV v && (match v with
  | .str z => decide (z.length ≤ 100)
  | _ => true) && niceB (fdV v)
theorem okV_nice {v : V} (h : okV v = true) : Nice (fdV v) := niceB_ok (Bool.and_eq_true_iff.mp h).2
theorem okV_dq {v : V} {H : Hp} {bs : List Addr} (h : okV v = true) : Dq H bs (fdV v) v := by
  obtain ⟨h1, _⟩ := Bool.and_eq_true_iff.mp h
  obtain ⟨h1, h2⟩ := Bool.and_eq_true_iff.mp h1
  cases v with
  | non => simp only [fdV, Dq]
  | bl b => simp only [fdV, Dq]
  | int b => simp only [fdV, Dq]
  | str z =>
    simp only [fdV, Dq]
    exact ⟨trivial, of_decide_eq_true h2⟩
  | _ => cases h1
example : okV (.int (10 ^ 30)) = true := by decide +kernel
example : okV (.str "a\n") = true := by decide +kernel
example : niceB (.tuple [.tuple [.str "a"], .int 1]) = true := by decide +kernel
end Own

namespace Own
/-! ### integers beside a row, among numbers: the plain mathematics -/
/-- the integers between lo and hi -/
def between (lo hi : Int) : List Int := (List.range (hi - lo - 1).toNat).map fun i : Nat => lo + 1 + (i : Int)
theorem mem_between {lo hi x : Int} : x ∈ between lo hi ↔ lo < x ∧ x < hi := by
  unfold between
  rw [List.mem_map]
  constructor
  · rintro ⟨i, hi', rfl⟩
    have := List.mem_range.mp hi'
    omega
  · rintro ⟨h1, h2⟩
    exact ⟨(x - lo - 1).toNat, List.mem_range.mpr (by omega), by omega⟩
theorem between_nodup (lo hi : Int) : (between lo hi).Nodup := by
  unfold between
  refine List.pairwise_map.mpr (List.Pairwise.imp ?_ List.nodup_range)
  intro a b h e
  exact h (by omega)
/-- the first integer between lo and hi that is not in the row -/
def freeIn (lo hi : Int) (r : List Int) : Option Int := (between lo hi).find? fun x => !(decide (x ∈ r))
theorem freeIn_some {lo hi x : Int} {r : List Int} (h : freeIn lo hi r = some x) : lo < x ∧ x < hi ∧ x ∉ r := by
  unfold freeIn at h
  have h1 := List.find?_some h
  have h2 := List.mem_of_find?_eq_some h
  simp only [Bool.not_eq_true', decide_eq_false_iff_not] at h1
  obtain ⟨h3, h4⟩ := mem_between.mp h2
  exact ⟨h3, h4, h1⟩
theorem freeIn_ex {lo hi v : Int} {r : List Int} (h1 : lo < v) (h2 : v < hi) (h3 : v ∉ r) : ∃ x, freeIn lo hi r = some x := by
  cases e : freeIn lo hi r with
  | some x => exact ⟨x, rfl⟩
  | none =>
    unfold freeIn at e
    have q := List.find?_eq_none.mp e v (mem_between.mpr ⟨h1, h2⟩)
    simp only [Bool.not_eq_true', decide_eq_false_iff_not, Decidable.not_not] at q
    exact absurd q h3
/-- the ends of the stretches: pairs of neighbours -/
def pairsOf : List Int → List (Int × Int)
  | a :: b :: r => (a, b) :: pairsOf (b :: r)
  | _ => []
def stretchL (ns : List Int) (room : Int) : List (Int × Int) := match ns with
  | [] => [(0, room + 1)]
  | n :: r => pairsOf ((n - room - 1) :: (n :: r) ++ [(n :: r).getLast (List.cons_ne_nil _ _) + room + 1])
/-- strictly ascending -/
def Asc (l : List Int) : Prop := l.Pairwise (· < ·)
theorem pairs_asc : ∀ {l : List Int} {a b : Int}, Asc l → (a, b) ∈ pairsOf l → a < b ∧ a ∈ l ∧ b ∈ l ∧ ∀ x ∈ l, x ≤ a ∨ b ≤ x
  | [], a, b, _, h => by simp [pairsOf] at h
  | [_], a, b, _, h => by simp [pairsOf] at h
  | c :: d :: r, a, b, hs, h => by
    unfold pairsOf at h
    have hs' := List.pairwise_cons.mp hs
    rcases List.mem_cons.mp h with e | h
    · cases e
      have hcd := hs'.1 d (List.mem_cons_self ..)
      refine ⟨hcd, List.mem_cons_self .., List.mem_cons_of_mem _ (List.mem_cons_self ..), fun x hx => ?_⟩
      rcases List.mem_cons.mp hx with rfl | hx
      · exact .inl (Int.le_refl _)
      · rcases List.mem_cons.mp hx with rfl | hx
        · exact .inr (Int.le_refl _)
        · exact .inr (Int.le_of_lt ((List.pairwise_cons.mp hs'.2).1 x hx))
    · obtain ⟨h1, h2, h3, h4⟩ := pairs_asc hs'.2 h
      refine ⟨h1, List.mem_cons_of_mem _ h2, List.mem_cons_of_mem _ h3, fun x hx => ?_⟩
      rcases List.mem_cons.mp hx with rfl | hx
      · exact .inl (Int.le_of_lt (hs'.1 a h2))
      · exact h4 x hx
/-- an integer between the first and the last of them, none of them, is in a stretch -/
theorem pairs_find : ∀ {l : List Int} {v f : Int}, Asc (f :: l) → f < v → (∃ x ∈ l, v < x) → v ∉ l → ∃ a b, (a, b) ∈ pairsOf (f :: l) ∧ a < v ∧ v < b
  | [], v, f, _, _, ⟨x, hx, _⟩, _ => by cases hx
  | d :: r, v, f, hs, h1, ⟨x, hx, h2⟩, hn => by
    have hs' := List.pairwise_cons.mp hs
    have hvd : v ≠ d := fun e => hn (by rw [e]; exact List.mem_cons_self ..)
    by_cases q : v < d
    · exact ⟨f, d, by unfold pairsOf; exact List.mem_cons_self .., h1, q⟩
    · have hx' : x ∈ r := by
        rcases List.mem_cons.mp hx with rfl | hx
        · exact absurd h2 q
        · exact hx
      obtain ⟨a, b, h3, h4, h5⟩ := pairs_find (l := r) (v := v) (f := d) hs'.2 (by omega) ⟨x, hx', h2⟩ (fun hm => hn (List.mem_cons_of_mem _ hm))
      exact ⟨a, b, by unfold pairsOf; exact List.mem_cons_of_mem _ h3, h4, h5⟩
theorem pairs_app : ∀ {l m : List Int} {p : Int × Int}, p ∈ pairsOf l → p ∈ pairsOf (l ++ m)
  | [], m, p, h => by simp [pairsOf] at h
  | [_], m, p, h => by simp [pairsOf] at h
  | c :: d :: r, m, p, h => by
    unfold pairsOf at h
    show p ∈ pairsOf (c :: d :: (r ++ m))
    unfold pairsOf
    rcases List.mem_cons.mp h with e | h
    · exact List.mem_cons.mpr (.inl e)
    · exact List.mem_cons_of_mem _ (pairs_app (l := d :: r) h)
theorem pairs_cons {c d : Int} {r : List Int} {p : Int × Int} (h : p ∈ pairsOf (d :: r)) : p ∈ pairsOf (c :: d :: r) := by
  unfold pairsOf
  exact List.mem_cons_of_mem _ h
theorem pairs_last : ∀ (n : Int) (l : List Int) (d : Int), ((n :: l).getLast (List.cons_ne_nil _ _), d) ∈ pairsOf ((n :: l) ++ [d])
  | n, [], d => by
    show (n, d) ∈ pairsOf [n, d]
    unfold pairsOf
    exact List.mem_cons_self ..
  | n, m :: l, d => by
    have ih := pairs_last m l d
    rw [List.getLast_cons (List.cons_ne_nil _ _)]
    exact pairs_cons ih
/-! ### alike -/
def Alike (ns r : List Int) (x y : Int) : Prop := (∀ n ∈ ns, (x < n ↔ y < n) ∧ (x = n ↔ y = n)) ∧ ∀ p ∈ r, (x = p ↔ y = p)
theorem Alike.refl {ns r : List Int} {x : Int} : Alike ns r x x := ⟨fun _ _ => ⟨Iff.rfl, Iff.rfl⟩, fun _ _ => Iff.rfl⟩
/-- what stands beside a row -/
def Spot (ns r : List Int) (x : Int) : Prop := x ∈ ns ∨ x ∈ r ∨ ∃ a b, (a, b) ∈ stretchL ns ((r.length : Int) + 1) ∧ freeIn a b r = some x
theorem asc_ends {n : Int} {l : List Int} {k : Int} (h : Asc (n :: l)) (hk : 0 < k) : Asc ((n - k) :: (n :: l) ++ [(n :: l).getLast (List.cons_ne_nil _ _) + k]) := by
  have hle : ∀ x ∈ n :: l, x ≤ (n :: l).getLast (List.cons_ne_nil _ _) := fun x hx => by
    have e := List.dropLast_concat_getLast (List.cons_ne_nil n l)
    have h2 : Asc ((n :: l).dropLast ++ [(n :: l).getLast (List.cons_ne_nil _ _)]) := by rw [e]; exact h
    rw [← e] at hx
    rcases List.mem_append.mp hx with hx | hx
    · exact Int.le_of_lt ((List.pairwise_append.mp h2).2.2 x hx _ (List.mem_singleton.mpr rfl))
    · rw [List.mem_singleton.mp hx]
      exact Int.le_refl _
  have hge : ∀ x ∈ n :: l, n ≤ x := fun x hx => by
    rcases List.mem_cons.mp hx with rfl | hx
    · exact Int.le_refl _
    · exact Int.le_of_lt ((List.pairwise_cons.mp h).1 x hx)
  refine List.pairwise_append.mpr ⟨List.pairwise_cons.mpr ⟨fun x hx => ?_, h⟩, List.pairwise_singleton _ _, fun x hx y hy => ?_⟩
  · have := hge x hx
    omega
  · rw [List.mem_singleton.mp hy]
    rcases List.mem_cons.mp hx with rfl | hx
    · have := hle n (List.mem_cons_self ..)
      omega
    · have := hle x hx
      omega
/-- every integer that is no number lies beyond the numbers or in a stretch: a stretch whose integers are alike to it -/
theorem stretch_of {ns : List Int} {room v : Int} (h : Asc ns) (hr : 0 < room) (hv : v ∉ ns) :
    ∃ a b, (a, b) ∈ stretchL ns room ∧ (∀ x, a < x → x < b → ∀ n ∈ ns, (v < n ↔ x < n) ∧ x ≠ n) ∧ ((a < v ∧ v < b ∧ a ∈ ns ∧ b ∈ ns) ∨ room ≤ b - a - 1) := by
  cases ns with
  | nil => exact ⟨0, room + 1, by unfold stretchL; exact List.mem_singleton.mpr rfl, fun _ _ _ n hn => (by cases hn), .inr (by omega)⟩
  | cons n l =>
    have ha := asc_ends h (k := room + 1) (by omega)
    have e1 : n - room - 1 = n - (room + 1) := by omega
    have e2 : (n :: l).getLast (List.cons_ne_nil _ _) + room + 1 = (n :: l).getLast (List.cons_ne_nil _ _) + (room + 1) := by omega
    have pick : ∀ {a b : Int}, (a, b) ∈ stretchL (n :: l) room → a < b ∧ ∀ x ∈ n :: l, x ≤ a ∨ b ≤ x := fun {a b} hm => by
      unfold stretchL at hm
      dsimp only at hm
      rw [e1, e2] at hm
      obtain ⟨h1, _, _, h4⟩ := pairs_asc ha hm
      exact ⟨h1, fun x hx => h4 x (List.mem_append_left _ (List.mem_cons_of_mem _ hx))⟩
    generalize hL : (n :: l).getLast (List.cons_ne_nil _ _) = L at *
    by_cases q1 : v < n
    · refine ⟨n - room - 1, n, by unfold stretchL; exact List.mem_cons_self .., fun x h1 h2 m hm => ?_, .inr (by omega)⟩
      have : n ≤ m := by
        rcases List.mem_cons.mp hm with rfl | hm
        · exact Int.le_refl _
        · exact Int.le_of_lt ((List.pairwise_cons.mp h).1 m hm)
      exact ⟨⟨fun _ => by omega, fun _ => by omega⟩, by omega⟩
    · by_cases q2 : ∃ x ∈ l, v < x
      · have hnv : n ≠ v := fun e => hv (by rw [← e]; exact List.mem_cons_self ..)
        obtain ⟨a, b, h1, h2, h3⟩ := pairs_find h (by omega) q2 (fun hm => hv (List.mem_cons_of_mem _ hm))
        obtain ⟨p1, p2, p3, p4⟩ := pairs_asc h h1
        refine ⟨a, b, ?_, fun x hx1 hx2 m hm => ?_, .inl ⟨h2, h3, p2, p3⟩⟩
        · unfold stretchL
          exact pairs_app (l := (n - room - 1) :: n :: l) (pairs_cons h1)
        · rcases p4 m hm with q | q
          · exact ⟨⟨fun _ => by omega, fun _ => by omega⟩, by omega⟩
          · exact ⟨⟨fun _ => by omega, fun _ => by omega⟩, by omega⟩
      · have hall : ∀ m ∈ n :: l, m < v := fun m hm => by
          have hne : m ≠ v := fun e => hv (by rw [← e]; exact hm)
          rcases List.mem_cons.mp hm with rfl | hm
          · omega
          · have : ¬ v < m := fun z => q2 ⟨m, hm, z⟩
            omega
        have hmax : ∀ m ∈ n :: l, m ≤ L := fun m hm => by
          have e := List.dropLast_concat_getLast (List.cons_ne_nil n l)
          have h2 : Asc ((n :: l).dropLast ++ [(n :: l).getLast (List.cons_ne_nil _ _)]) := by rw [e]; exact h
          rw [← e] at hm
          rcases List.mem_append.mp hm with hm | hm
          · rw [← hL]
            exact Int.le_of_lt ((List.pairwise_append.mp h2).2.2 m hm _ (List.mem_singleton.mpr rfl))
          · rw [List.mem_singleton.mp hm, hL]
            exact Int.le_refl _
        refine ⟨L, L + room + 1, ?_, fun x h1 h2 m hm => ?_, .inr (by omega)⟩
        · unfold stretchL
          dsimp only
          have q := pairs_cons (c := n - room - 1) (pairs_last n l ((n :: l).getLast (List.cons_ne_nil _ _) + room + 1))
          rw [hL] at q ⊢
          exact q
        · have g1 := hall m hm
          have g2 := hmax m hm
          exact ⟨⟨fun _ => by omega, fun _ => by omega⟩, by omega⟩
theorem pairs_tri {l : List Int} {a b c d : Int} (h : Asc l) (h1 : (a, b) ∈ pairsOf l) (h2 : (c, d) ∈ pairsOf l) : (a = c ∧ b = d) ∨ b ≤ c ∨ d ≤ a := by
  obtain ⟨p1, p2, p3, p4⟩ := pairs_asc h h1
  obtain ⟨q1, q2, q3, q4⟩ := pairs_asc h h2
  have g1 := p4 c q2
  have g2 := q4 a p2
  have g3 := p4 d q3
  have g4 := q4 b p3
  omega
/-- two stretches are the same, or a number parts them -/
theorem stretch_two {ns : List Int} {room a b c d : Int} (h : Asc ns) (hr : 0 < room) (h1 : (a, b) ∈ stretchL ns room) (h2 : (c, d) ∈ stretchL ns room) :
    (a = c ∧ b = d) ∨ (b ∈ ns ∧ b ≤ c) ∨ (d ∈ ns ∧ d ≤ a) := by
  cases ns with
  | nil =>
    unfold stretchL at h1 h2
    have e1 := List.mem_singleton.mp h1
    have e2 := List.mem_singleton.mp h2
    cases e1
    cases e2
    exact .inl ⟨rfl, rfl⟩
  | cons n l =>
    have ha := asc_ends h (k := room + 1) (by omega)
    unfold stretchL at h1 h2
    dsimp only at h1 h2
    have e1 : n - room - 1 = n - (room + 1) := by omega
    have e2 : (n :: l).getLast (List.cons_ne_nil _ _) + room + 1 = (n :: l).getLast (List.cons_ne_nil _ _) + (room + 1) := by omega
    rw [e1, e2] at h1 h2
    have key : ∀ {a b c d : Int}, (a, b) ∈ pairsOf ((n - (room + 1)) :: (n :: l) ++ [(n :: l).getLast (List.cons_ne_nil _ _) + (room + 1)]) → (c, d) ∈ pairsOf ((n - (room + 1)) :: (n :: l) ++ [(n :: l).getLast (List.cons_ne_nil _ _) + (room + 1)]) → b ≤ c → b ∈ n :: l := fun {a b c d} h1 h2 hbc => by
      obtain ⟨p1, p2, p3, p4⟩ := pairs_asc ha h1
      obtain ⟨q1, q2, q3, q4⟩ := pairs_asc ha h2
      generalize (n :: l).getLast (List.cons_ne_nil _ _) + (room + 1) = g at *
      have hlast : ∀ x ∈ (n - (room + 1)) :: (n :: l) ++ [g], x ≤ g := fun x hx => by
        rcases List.mem_append.mp hx with hx | hx
        · exact Int.le_of_lt ((List.pairwise_append.mp ha).2.2 x hx g (List.mem_singleton.mpr rfl))
        · rw [List.mem_singleton.mp hx]
          exact Int.le_refl _
      have hfirst : ∀ x ∈ (n - (room + 1)) :: (n :: l) ++ [g], n - (room + 1) ≤ x := fun x hx => by
        rcases List.mem_cons.mp hx with rfl | hx
        · exact Int.le_refl _
        · exact Int.le_of_lt ((List.pairwise_cons.mp ha).1 x hx)
      have g1 := hlast d q3
      have g2 := hfirst a p2
      rcases List.mem_append.mp p3 with hb | hb
      · rcases List.mem_cons.mp hb with hb | hb
        · omega
        · exact hb
      · have := List.mem_singleton.mp hb
        omega
    rcases pairs_tri ha h1 h2 with q | q | q
    · exact .inl q
    · exact .inr (.inl ⟨key h1 h2 q, q⟩)
    · exact .inr (.inr ⟨key h2 h1 q, q⟩)
theorem nodup_le : ∀ (l m : List Int), l.Nodup → (∀ x ∈ l, x ∈ m) → l.length ≤ m.length
  | [], _, _, _ => Nat.zero_le _
  | x :: l, m, hn, h => by
    obtain ⟨n1, n2⟩ := List.nodup_cons.mp hn
    have hx := h x (List.mem_cons_self ..)
    have ih := nodup_le l (m.erase x) n2 fun y hy => (List.mem_erase_of_ne (fun e : y = x => n1 (by rw [← e]; exact hy))).mpr (h y (List.mem_cons_of_mem _ hy))
    rw [List.length_erase_of_mem hx] at ih
    have := List.length_pos_of_mem hx
    rw [List.length_cons]
    omega
theorem between_length (lo hi : Int) : (between lo hi).length = (hi - lo - 1).toNat := by
  unfold between
  rw [List.length_map, List.length_range]
/-- where there is room for more than the row, an integer is free -/
theorem free_room {a b : Int} {r : List Int} (h : (r.length : Int) < b - a - 1) : ∃ x, freeIn a b r = some x := by
  by_cases q : ∃ x, a < x ∧ x < b ∧ x ∉ r
  · obtain ⟨x, h1, h2, h3⟩ := q
    exact freeIn_ex h1 h2 h3
  · have := nodup_le (between a b) r (between_nodup a b) fun x hx => by
      obtain ⟨h1, h2⟩ := mem_between.mp hx
      exact Classical.byContradiction fun n => q ⟨x, h1, h2, n⟩
    rw [between_length] at this
    omega
/-- beside a row each integer is alike to exactly one spot -/
theorem spot_one {ns r : List Int} (h : Asc ns) (v : Int) : ∃ s, Spot ns r s ∧ Alike ns r v s ∧ ∀ s', Spot ns r s' → Alike ns r v s' → s' = s := by
  by_cases h1 : v ∈ ns
  · exact ⟨v, .inl h1, Alike.refl, fun s' _ q => ((q.1 v h1).2.mp rfl)⟩
  by_cases h2 : v ∈ r
  · exact ⟨v, .inr (.inl h2), Alike.refl, fun s' _ q => ((q.2 v h2).mp rfl)⟩
  have hr : (0 : Int) < (r.length : Int) + 1 := by omega
  obtain ⟨a, b, hab, hal, hor⟩ := stretch_of h hr h1
  obtain ⟨s, hs⟩ : ∃ s, freeIn a b r = some s := by
    rcases hor with ⟨g1, g2, _, _⟩ | g
    · exact freeIn_ex g1 g2 h2
    · exact free_room (by omega)
  obtain ⟨s1, s2, s3⟩ := freeIn_some hs
  have as : Alike ns r v s := ⟨fun n hn => ⟨(hal s s1 s2 n hn).1, fun e => absurd (by rw [e]; exact hn) h1, fun e => absurd e (hal s s1 s2 n hn).2⟩, fun p hp => ⟨fun e => absurd (by rw [e]; exact hp) h2, fun e => absurd (by rw [e]; exact hp) s3⟩⟩
  refine ⟨s, .inr (.inr ⟨a, b, hab, hs⟩), as, fun s' hs' q => ?_⟩
  rcases hs' with hm | hm | ⟨c, d, hcd, hs'⟩
  · exact absurd (by rw [(q.1 s' hm).2.mpr rfl]; exact hm) h1
  · exact absurd (by rw [(q.2 s' hm).mpr rfl]; exact hm) h2
  · obtain ⟨t1, t2, t3⟩ := freeIn_some hs'
    rcases stretch_two h hr hab hcd with ⟨rfl, rfl⟩ | ⟨m1, m2⟩ | ⟨m1, m2⟩
    · rw [hs] at hs'
      exact (Option.some.inj hs').symm
    · have g1 := (as.1 b m1).1.mpr s2
      have g2 := (q.1 b m1).1.mp g1
      omega
    · have g1 := (q.1 d m1).1.mpr t2
      have g2 := (as.1 d m1).1.mp g1
      omega
/-! ### rows -/
/-- two integers lie alike among the numbers -/
def Side (ns : List Int) (x y : Int) : Prop := ∀ n ∈ ns, (x < n ↔ y < n) ∧ (x = n ↔ y = n)
/-- two rows of one kind -/
structure SameKind (ns r t : List Int) : Prop where
  len : r.length = t.length
  side : ∀ p ∈ r.zip t, Side ns p.1 p.2
  eqs : ∀ p ∈ r.zip t, ∀ q ∈ r.zip t, (p.1 = q.1 ↔ p.2 = q.2)
theorem zip_left {r t : List Int} (h : r.length = t.length) {x : Int} (hx : x ∈ r) : ∃ y, (x, y) ∈ r.zip t := by
  obtain ⟨i, hi, e⟩ := List.mem_iff_getElem.mp hx
  have hi2 : i < t.length := by omega
  refine ⟨t[i], ?_⟩
  have hz : i < (r.zip t).length := by rw [List.length_zip]; omega
  have q : (r.zip t)[i] = (r[i], t[i]) := List.getElem_zip
  rw [e] at q
  rw [← q]
  exact List.getElem_mem hz
theorem zip_right {r t : List Int} (h : r.length = t.length) {y : Int} (hy : y ∈ t) : ∃ x, (x, y) ∈ r.zip t := by
  obtain ⟨i, hi, e⟩ := List.mem_iff_getElem.mp hy
  have hi2 : i < r.length := by omega
  refine ⟨r[i], ?_⟩
  have hz : i < (r.zip t).length := by rw [List.length_zip]; omega
  have q : (r.zip t)[i] = (r[i], t[i]) := List.getElem_zip
  rw [e] at q
  rw [← q]
  exact List.getElem_mem hz
theorem zip_mem {r t : List Int} {p : Int × Int} (h : p ∈ r.zip t) : p.1 ∈ r ∧ p.2 ∈ t := by
  obtain ⟨a, b⟩ := p
  exact ⟨(List.of_mem_zip h).1, (List.of_mem_zip h).2⟩
theorem SameKind.nil {ns : List Int} : SameKind ns [] [] := ⟨rfl, fun p h => by simp at h, fun p h => by simp at h⟩
theorem SameKind.snoc {ns r t : List Int} {x y : Int} (h : SameKind ns r t) (s : Side ns x y) (e : ∀ p ∈ r.zip t, (x = p.1 ↔ y = p.2)) : SameKind ns (r ++ [x]) (t ++ [y]) := by
  have z : (r ++ [x]).zip (t ++ [y]) = r.zip t ++ [(x, y)] := by
    rw [List.zip_append h.len]
    rfl
  refine ⟨by rw [List.length_append, List.length_append, h.len]; rfl, fun p hp => ?_, fun p hp q hq => ?_⟩
  · rw [z] at hp
    rcases List.mem_append.mp hp with hp | hp
    · exact h.side p hp
    · rw [List.mem_singleton.mp hp]
      exact s
  · rw [z] at hp hq
    rcases List.mem_append.mp hp with hp | hp
    · rcases List.mem_append.mp hq with hq | hq
      · exact h.eqs p hp q hq
      · rw [List.mem_singleton.mp hq]
        have := e p hp
        exact ⟨fun z => (this.mp z.symm).symm, fun z => (this.mpr z.symm).symm⟩
    · rw [List.mem_singleton.mp hp]
      rcases List.mem_append.mp hq with hq | hq
      · exact e q hq
      · rw [List.mem_singleton.mp hq]
        exact ⟨fun _ => rfl, fun _ => rfl⟩
theorem SameKind.unsnoc {ns r t : List Int} {x y : Int} (h : SameKind ns (r ++ [x]) (t ++ [y])) : SameKind ns r t ∧ Side ns x y ∧ ∀ p ∈ r.zip t, (x = p.1 ↔ y = p.2) := by
  have hl : r.length = t.length := by
    have := h.len
    rw [List.length_append, List.length_append] at this
    simpa using this
  have z : (r ++ [x]).zip (t ++ [y]) = r.zip t ++ [(x, y)] := by
    rw [List.zip_append hl]
    rfl
  have hm : (x, y) ∈ (r ++ [x]).zip (t ++ [y]) := by rw [z]; exact List.mem_append_right _ (List.mem_singleton.mpr rfl)
  have hin : ∀ {p}, p ∈ r.zip t → p ∈ (r ++ [x]).zip (t ++ [y]) := fun hp => by rw [z]; exact List.mem_append_left _ hp
  exact ⟨⟨hl, fun p hp => h.side p (hin hp), fun p hp q hq => h.eqs p (hin hp) q (hin hq)⟩, h.side _ hm, fun p hp => h.eqs _ hm p (hin hp)⟩
theorem back_list {ns r t : List Int} (k : SameKind ns r t) : ∀ (l : List Int), l.Nodup → (∀ x ∈ l, x ∈ t) → ∃ l' : List Int, l'.length = l.length ∧ l'.Nodup ∧ ∀ y ∈ l', ∃ x ∈ l, (y, x) ∈ r.zip t
  | [], _, _ => ⟨[], rfl, List.nodup_nil, fun _ h => by cases h⟩
  | x :: l, hn, h => by
    obtain ⟨n1, n2⟩ := List.nodup_cons.mp hn
    obtain ⟨l', h1, h2, h3⟩ := back_list k l n2 fun y hy => h y (List.mem_cons_of_mem _ hy)
    obtain ⟨y, hy⟩ := zip_right k.len (h x (List.mem_cons_self ..))
    refine ⟨y :: l', by rw [List.length_cons, List.length_cons, h1], List.nodup_cons.mpr ⟨fun hm => ?_, h2⟩, fun z hz => ?_⟩
    · obtain ⟨x', hx', hz⟩ := h3 y hm
      have e : x = x' := (k.eqs _ hy _ hz).mp rfl
      exact n1 (by rw [e]; exact hx')
    · rcases List.mem_cons.mp hz with rfl | hz
      · exact ⟨x, List.mem_cons_self .., hy⟩
      · obtain ⟨x', hx', q⟩ := h3 z hz
        exact ⟨x', List.mem_cons_of_mem _ hx', q⟩
/-- beside a row's like each integer has its one spot -/
theorem spot_like {ns r t : List Int} (h : Asc ns) (k : SameKind ns r t) (v : Int) :
    ∃ s, Spot ns t s ∧ (Side ns v s ∧ ∀ p ∈ r.zip t, (v = p.1 ↔ s = p.2)) ∧ ∀ s', Spot ns t s' → Side ns v s' → (∀ p ∈ r.zip t, (v = p.1 ↔ s' = p.2)) → s' = s := by
  by_cases h1 : v ∈ ns
  · refine ⟨v, .inl h1, ⟨fun _ _ => ⟨Iff.rfl, Iff.rfl⟩, fun p hp => ?_⟩, fun s' _ q _ => (q v h1).2.mp rfl⟩
    have := (k.side p hp v h1).2
    exact ⟨fun e => (this.mp e.symm).symm, fun e => (this.mpr e.symm).symm⟩
  by_cases h2 : v ∈ r
  · obtain ⟨y, hy⟩ := zip_left k.len h2
    refine ⟨y, .inr (.inl (zip_mem hy).2), ⟨k.side _ hy, fun p hp => k.eqs _ hy p hp⟩, fun s' _ _ q => (q _ hy).mp rfl⟩
  have hr : (0 : Int) < (t.length : Int) + 1 := by omega
  obtain ⟨a, b, hab, hal, hor⟩ := stretch_of h hr h1
  by_cases hfree : ∃ s, freeIn a b t = some s
  · obtain ⟨s, hs⟩ := hfree
    obtain ⟨s1, s2, s3⟩ := freeIn_some hs
    have as : Side ns v s := fun n hn => ⟨(hal s s1 s2 n hn).1, fun e => absurd (by rw [e]; exact hn) h1, fun e => absurd e (hal s s1 s2 n hn).2⟩
    refine ⟨s, .inr (.inr ⟨a, b, hab, hs⟩), ⟨as, fun p hp => ⟨fun e => absurd (by rw [e]; exact (zip_mem hp).1) h2, fun e => absurd (by rw [e]; exact (zip_mem hp).2) s3⟩⟩, fun s' hs' q qz => ?_⟩
    rcases hs' with hm | hm | ⟨c, d, hcd, hs'⟩
    · exact absurd (by rw [(q s' hm).2.mpr rfl]; exact hm) h1
    · obtain ⟨x, hx⟩ := zip_right k.len hm
      exact absurd (by rw [(qz _ hx).mpr rfl]; exact (zip_mem hx).1) h2
    · obtain ⟨t1, t2, t3⟩ := freeIn_some hs'
      rcases stretch_two h hr hab hcd with ⟨rfl, rfl⟩ | ⟨m1, m2⟩ | ⟨m1, m2⟩
      · rw [hs] at hs'
        exact (Option.some.inj hs').symm
      · have g1 := (as b m1).1.mpr s2
        have g2 := (q b m1).1.mp g1
        omega
      · have g1 := (q d m1).1.mpr t2
        have g2 := (as d m1).1.mp g1
        omega
  · have hall : ∀ x ∈ between a b, x ∈ t := fun x hx => by
      obtain ⟨g1, g2⟩ := mem_between.mp hx
      exact Classical.byContradiction fun n => hfree (freeIn_ex g1 g2 n)
    rcases hor with ⟨g1, g2, ga, gb⟩ | g
    · obtain ⟨l', q1, q2, q3⟩ := back_list k (between a b) (between_nodup a b) hall
      have := nodup_le (v :: l') (between a b) (List.nodup_cons.mpr ⟨fun hm => by
          obtain ⟨x, _, hx⟩ := q3 v hm
          exact h2 (zip_mem hx).1, q2⟩) fun y hy => by
        rcases List.mem_cons.mp hy with rfl | hy
        · exact mem_between.mpr ⟨g1, g2⟩
        · obtain ⟨x, hx, hz⟩ := q3 y hy
          obtain ⟨e1, e2⟩ := mem_between.mp hx
          have sa := k.side _ hz a ga
          have sb := k.side _ hz b gb
          refine mem_between.mpr ⟨?_, sb.1.mpr e2⟩
          have n1 : ¬ y < a := fun z => by have := sa.1.mp z; omega
          have n2 : y ≠ a := fun z => by have := sa.2.mp z; omega
          omega
      rw [List.length_cons, q1] at this
      omega
    · have := free_room (r := t) (a := a) (b := b) (by omega)
      exact absurd this hfree
/-! ### all kinds -/
/-- the rows of k columns that stand for their kinds; sp says the spots beside a row, in some order -/
def rowsOf (sp : List Int → List Int) : Nat → List (List Int)
  | 0 => [[]]
  | k + 1 => (rowsOf sp k).flatMap fun r => (sp r).map fun s => r ++ [s]
theorem rows_len {sp : List Int → List Int} : ∀ {k : Nat} {r : List Int}, r ∈ rowsOf sp k → r.length = k
  | 0, r, h => by
    unfold rowsOf at h
    rw [List.mem_singleton.mp h]
    rfl
  | k + 1, r, h => by
    unfold rowsOf at h
    obtain ⟨t, ht, h⟩ := List.mem_flatMap.mp h
    obtain ⟨s, hs, rfl⟩ := List.mem_map.mp h
    rw [List.length_append, rows_len ht]
    rfl
/-- each row is of one kind with exactly one of them -/
theorem kind_one {ns : List Int} {sp : List Int → List Int} (h : Asc ns) (hsp : ∀ r s, s ∈ sp r ↔ Spot ns r s) : ∀ (k : Nat) (v : List Int), v.length = k → ∃ t ∈ rowsOf sp k, SameKind ns v t ∧ ∀ t' ∈ rowsOf sp k, SameKind ns v t' → t' = t
  | 0, v, hv => by
    obtain rfl : v = [] := List.length_eq_zero_iff.mp hv
    refine ⟨[], by unfold rowsOf; exact List.mem_singleton.mpr rfl, SameKind.nil, fun t' ht' _ => ?_⟩
    unfold rowsOf at ht'
    exact List.mem_singleton.mp ht'
  | k + 1, v, hv => by
    obtain ⟨w, x, rfl⟩ : ∃ w x, v = w ++ [x] := ⟨v.dropLast, v.getLast (fun e => by rw [e] at hv; cases hv), (List.dropLast_concat_getLast _).symm⟩
    have hw : w.length = k := by
      rw [List.length_append] at hv
      simpa using hv
    obtain ⟨t, ht, kt, ut⟩ := kind_one h hsp k w hw
    obtain ⟨s, hs, ⟨s1, s2⟩, us⟩ := spot_like h kt x
    refine ⟨t ++ [s], ?_, kt.snoc s1 s2, fun t' ht' kt' => ?_⟩
    · unfold rowsOf
      exact List.mem_flatMap.mpr ⟨t, ht, List.mem_map.mpr ⟨s, (hsp t s).mpr hs, rfl⟩⟩
    · unfold rowsOf at ht'
      obtain ⟨u, hu, ht'⟩ := List.mem_flatMap.mp ht'
      obtain ⟨z, hz, rfl⟩ := List.mem_map.mp ht'
      obtain ⟨ku, sz, ez⟩ := kt'.unsnoc
      obtain rfl := ut u hu ku
      rw [us z ((hsp u z).mp hz) sz ez]
/-- and they are all different -/
theorem rows_nodup {sp : List Int → List Int} (hn : ∀ r, (sp r).Nodup) : ∀ k, (rowsOf sp k).Nodup
  | 0 => by unfold rowsOf; exact List.nodup_cons.mpr ⟨by simp, List.nodup_nil⟩
  | k + 1 => by
    unfold rowsOf
    have ih := rows_nodup hn k
    have gen : ∀ l : List (List Int), l.Nodup → (l.flatMap fun r => (sp r).map fun s => r ++ [s]).Nodup := by
      intro l
      induction l with
      | nil => intro _; exact List.nodup_nil
      | cons r l ih =>
        intro hl
        obtain ⟨n1, n2⟩ := List.nodup_cons.mp hl
        rw [List.flatMap_cons]
        have m1 : ((sp r).map fun s => r ++ [s]).Nodup := by
          refine List.pairwise_map.mpr (List.Pairwise.imp ?_ (hn r))
          intro a b hab e
          have e2 : [a] = [b] := List.append_cancel_left e
          cases e2
          exact hab rfl
        refine List.nodup_append.mpr ⟨m1, ih n2, ?_⟩
        intro x hx y hy e
        obtain ⟨s, hs, e1⟩ := List.mem_map.mp hx
        obtain ⟨t, ht, hy⟩ := List.mem_flatMap.mp hy
        obtain ⟨z, hz, e2⟩ := List.mem_map.mp hy
        have q : r = t := by
          have := congrArg List.dropLast (e1.trans (e.trans e2.symm))
          rwa [List.dropLast_concat, List.dropLast_concat] at this
        exact n1 (by rw [q]; exact ht)
    exact gen _ ih
theorem between_split {lo x hi : Int} (h1 : lo < x) (h2 : x < hi) : between lo hi = between lo x ++ x :: between x hi := by
  obtain ⟨a, ha⟩ : ∃ a : Nat, (x - lo - 1) = a := ⟨(x - lo - 1).toNat, by omega⟩
  obtain ⟨b, hb⟩ : ∃ b : Nat, (hi - x - 1) = b := ⟨(hi - x - 1).toNat, by omega⟩
  have e : (hi - lo - 1).toNat = a + (b + 1) := by omega
  unfold between
  rw [e, show (x - lo - 1).toNat = a by omega, show (hi - x - 1).toNat = b by omega, List.range_add, List.map_append]
  congr 1
  rw [List.map_map, List.range_succ_eq_map, List.map_cons, List.map_map]
  congr 1
  · show lo + 1 + ((a + 0 : Nat) : Int) = x
    omega
  · refine List.map_congr_left fun i _ => ?_
    show lo + 1 + ((a + (i + 1) : Nat) : Int) = x + 1 + (i : Int)
    omega
theorem freeIn_first {lo hi x : Int} {r : List Int} (h1 : lo < x) (h2 : x < hi) (h3 : x ∉ r) (h4 : ∀ y, lo < y → y < x → y ∈ r) : freeIn lo hi r = some x := by
  unfold freeIn
  rw [between_split h1 h2, List.find?_append]
  have e1 : (between lo x).find? (fun x => !(decide (x ∈ r))) = none := List.find?_eq_none.mpr fun y hy => by
    obtain ⟨g1, g2⟩ := mem_between.mp hy
    rw [decide_eq_true (h4 y g1 g2)]
    decide
  rw [e1, List.find?_cons, decide_eq_false h3]
  rfl
theorem freeIn_none {lo hi : Int} {r : List Int} (h : ∀ y, lo < y → y < hi → y ∈ r) : freeIn lo hi r = none := by
  unfold freeIn
  refine List.find?_eq_none.mpr fun y hy => ?_
  obtain ⟨g1, g2⟩ := mem_between.mp hy
  rw [decide_eq_true (h y g1 g2)]
  decide
def freeL (ns r : List Int) : List Int := (stretchL ns ((r.length : Int) + 1)).filterMap fun p => freeIn p.1 p.2 r
end Own

namespace Own
open PySem PySem.Spec PyProof.Rows L2
theorem nice_low {z : Str} (h : lowS z) : Nice (.str z) := by
  obtain ⟨h1, h2, h3⟩ := h
  refine ⟨strOk_low h3, by simp only [PyData.depth]; omega, by simp only [PyData.showable], by simp only [PyData.hasDict], ?_⟩
  have q := StrLaws.reprText_len z fun c hc => by
    have q := h3 c hc
    unfold lowB at q
    simp only [Bool.and_eq_true, decide_eq_true_eq] at q
    omega
  simp only [PyData.shown]
  omega
theorem dqA_low {H : Hp} {bs : List Addr} : ∀ {ws : List Str}, (∀ z ∈ ws, lowS z) → DqA H bs (ws.map PyData.str) (ws.map V.str)
  | [], _ => by simp only [List.map_nil, DqA]
  | z :: r, h => by
    have ih := dqA_low (H := H) (bs := bs) (ws := r) fun y hy => h y (List.mem_cons_of_mem _ hy)
    have hz := (h z (List.mem_cons_self ..)).2.1
    rw [List.map_cons, List.map_cons]
    unfold DqA
    refine ⟨_, _, rfl, ?_, ih⟩
    unfold Dq
    exact ⟨rfl, by omega⟩
theorem dqA_mem {H : Hp} {bs : List Addr} {v : V} : ∀ {ds : List PyData} {xs : List V}, DqA H bs ds xs → v ∈ xs → ∃ d ∈ ds, Dq H bs d v
  | [], xs, h, hm => by
    obtain rfl : xs = [] := by simpa only [DqA] using h
    cases hm
  | d :: ds, xs, h, hm => by
    obtain ⟨y, ys, rfl, h1, h2⟩ : ∃ y ys, xs = y :: ys ∧ Dq H bs d y ∧ DqA H bs ds ys := by simpa only [DqA] using h
    rcases List.mem_cons.mp hm with rfl | hm
    · exact ⟨d, List.mem_cons_self .., h1⟩
    · obtain ⟨e, he, q⟩ := dqA_mem h2 hm
      exact ⟨e, List.mem_cons_of_mem _ he, q⟩
theorem dqA_set {H : Hp} {bs : List Addr} {v : V} {d : PyData} (hv : Dq H bs d v) : ∀ {ds : List PyData} {xs : List V} (j : Nat), DqA H bs ds xs → DqA H bs (ds.set j d) (xs.set j v)
  | [], xs, j, h => by
    obtain rfl : xs = [] := by simpa only [DqA] using h
    simp only [List.set_nil, DqA]
  | e :: ds, xs, 0, h => by
    obtain ⟨y, ys, rfl, h1, h2⟩ : ∃ y ys, xs = y :: ys ∧ Dq H bs e y ∧ DqA H bs ds ys := by simpa only [DqA] using h
    simp only [List.set_cons_zero, DqA]
    exact ⟨_, _, rfl, hv, h2⟩
  | e :: ds, xs, j + 1, h => by
    obtain ⟨y, ys, rfl, h1, h2⟩ : ∃ y ys, xs = y :: ys ∧ Dq H bs e y ∧ DqA H bs ds ys := by simpa only [DqA] using h
    have ih := dqA_set hv j h2
    simp only [List.set_cons_succ, DqA]
    exact ⟨_, _, rfl, h1, ih⟩
theorem dqA_ent {H : Hp} {bs : List Addr} {ds : List PyData} {xs : List V} (h : DqA H bs ds xs) : ∀ x ∈ xs, Ent H x := fun x hx => let ⟨_, _, q⟩ := dqA_mem h hx; Dq.ent q
theorem pickIH {P : Int → Hp → Prop} (R : Int → Hp → Prop) {G : Prop} (main : (∀ o H, R o H → P o H) → G) (rest : ∀ o H, R o H → P o H) : G := main rest
theorem pickVH {P : V → Hp → Prop} (R : V → Hp → Prop) {G : Prop} (main : (∀ o H, R o H → P o H) → G) (rest : ∀ o H, R o H → P o H) : G := main rest
def spEntries : Sp := fun vs H Q _ => ∃ b, vs = [.ref b] ∧ Bag H b ∧ ∀ (l : Addr) (xs : List V) (ds : List PyData) (H' : Hp), H l = none → l ≠ b → H' l = some (.lst xs) → DqA H' [b, l] ds xs → (∀ d ∈ ds, Nice d) → xs.length ≤ 6 → But b H H' → Bag H' b → Q (.ref l) H'
end Own
namespace Own
open PySem PySem.Spec PyProof.Rows L2
def placeD (x n : Int) : PyData := .tuple [.bool (decide (x < n)), .bool (decide (x = n))]
def spPlace (K : PySem.W.Frag) : Sp := fun vs H Q _ => ∃ (a : Addr) (ns : List Int) (x : Int), vs = [.ref a, .int x] ∧ SqT K H a (ns.map V.int) ∧ ns.length ≤ 100 ∧
  ∀ (l : Addr) (acc : List V) (H' : Hp), Same H H' → H l = none → H' l = some (.lst acc) → DqA H' [l] (ns.map (placeD x)) acc → Q (.ref l) H'
def spEquals (K : PySem.W.Frag) : Sp := fun vs H Q _ => ∃ (a : Addr) (ns : List Int) (x : Int), vs = [.ref a, .int x] ∧ SqT K H a (ns.map V.int) ∧ ns.length ≤ 100 ∧
  ∀ (l : Addr) (H' : Hp), Same H H' → H l = none → H' l = some (.lst (ns.map fun n => V.bl (decide (x = n)))) → Q (.ref l) H'
theorem dqA_snoc {H : Hp} {bs : List Addr} {v : V} {d : PyData} (hv : Dq H bs d v) : ∀ {ds : List PyData} {xs : List V}, DqA H bs ds xs → DqA H bs (ds ++ [d]) (xs ++ [v])
  | [], xs, h => by
    obtain rfl : xs = [] := by simpa only [DqA] using h
    simp only [List.nil_append, DqA]
    exact ⟨_, _, rfl, hv, rfl⟩
  | e :: ds, xs, h => by
    obtain ⟨y, ys, rfl, h1, h2⟩ : ∃ y ys, xs = y :: ys ∧ Dq H bs e y ∧ DqA H bs ds ys := by simpa only [DqA] using h
    have ih := dqA_snoc hv h2
    simp only [List.cons_append, DqA]
    exact ⟨_, _, rfl, h1, ih⟩
end Own
namespace Own
open PySem PySem.Spec PyProof.Rows L2
def pairDt (p : Int × Int) : PyData := .tuple [.int p.1, .int p.2]
end Own
namespace Own
open PySem PySem.Spec PyProof.Rows L2
def spStretches (K : PySem.W.Frag) : Sp := fun vs H Q _ => ∃ (a : Addr) (ns : List Int) (room : Int), vs = [.ref a, .int room] ∧ SqT K H a (ns.map V.int) ∧ ns.length ≤ 100 ∧
  ∀ (l : Addr) (acc : List V) (H' : Hp), Same H H' → H l = none → H' l = some (.lst acc) → DqA H' [l] ((stretchL ns room).map pairDt) acc → Q (.ref l) H'
theorem pairsOf_len : ∀ (l : List Int), (pairsOf l).length = l.length - 1
  | [] => rfl
  | [_] => rfl
  | a :: b :: r => by
    unfold pairsOf
    rw [List.length_cons, pairsOf_len (b :: r)]
    rfl
theorem pairsOf_get : ∀ {l : List Int} {i : Nat} {a b : Int}, l[i]? = some a → l[i + 1]? = some b → (pairsOf l)[i]? = some (a, b)
  | [], i, a, b, h, _ => by cases h
  | [x], i, a, b, _, h => by
    rw [List.getElem?_cons_succ] at h
    cases h
  | x :: y :: r, 0, a, b, h1, h2 => by
    rw [List.getElem?_cons_zero] at h1
    rw [List.getElem?_cons_succ, List.getElem?_cons_zero] at h2
    cases h1
    cases h2
    unfold pairsOf
    rfl
  | x :: y :: r, i + 1, a, b, h1, h2 => by
    rw [List.getElem?_cons_succ] at h1
    rw [List.getElem?_cons_succ] at h2
    unfold pairsOf
    rw [List.getElem?_cons_succ]
    exact pairsOf_get h1 h2
def spFree (K : PySem.W.Frag) : Sp := fun vs H Q _ => ∃ (a b : Addr) (ns r : List Int), vs = [.ref a, .ref b] ∧ SqT K H a (ns.map V.int) ∧ ns.length ≤ 100 ∧ SqT K H b (r.map V.int) ∧ r.length ≤ 100 ∧
  ∀ (l : Addr) (H' : Hp), Same H H' → H' l = some (.lst ((freeL ns r).map V.int)) → Q (.ref l) H'
theorem inV_int (z : Int) : ∀ (l : List Int), inV (.int z) (l.map V.int) = decide (z ∈ l)
  | [] => by rfl
  | y :: l => by
    have ih := inV_int z l
    unfold inV at ih ⊢
    rw [List.map_cons, List.any_cons, ih]
    show ((y == z) || decide (z ∈ l)) = decide (z ∈ y :: l)
    rw [Bool.eq_iff_iff]
    simp only [Bool.or_eq_true, beq_iff_eq, decide_eq_true_eq, List.mem_cons]
    exact ⟨fun h => h.imp Eq.symm id, fun h => h.imp Eq.symm id⟩
theorem flat_ints (l : List Int) : (l.map V.int).all flatV = true := by
  rw [List.all_map]
  exact List.all_eq_true.mpr fun _ _ => rfl
theorem upd_id {H : Hp} {a : Addr} {o : HO} (h : H a = some o) : upd H a o = H := by
  funext b
  by_cases e : b = a
  · rw [e, upd_same, h]
  · rw [upd_ne e]
theorem dqA_get {H : Hp} {bs : List Addr} {v : V} : ∀ {ds : List PyData} {xs : List V} {i : Nat}, DqA H bs ds xs → xs[i]? = some v → ∃ d, ds[i]? = some d ∧ Dq H bs d v
  | [], xs, i, h, hm => by
    obtain rfl : xs = [] := by simpa only [DqA] using h
    cases hm
  | d :: ds, xs, i, h, hm => by
    obtain ⟨y, ys, rfl, h1, h2⟩ : ∃ y ys, xs = y :: ys ∧ Dq H bs d y ∧ DqA H bs ds ys := by simpa only [DqA] using h
    cases i with
    | zero =>
      rw [List.getElem?_cons_zero] at hm
      cases hm
      exact ⟨d, rfl, h1⟩
    | succ i =>
      rw [List.getElem?_cons_succ] at hm
      obtain ⟨e, he, q⟩ := dqA_get h2 hm
      exact ⟨e, by rw [List.getElem?_cons_succ]; exact he, q⟩
theorem pairDt_at {H : Hp} {bs : List Addr} {p : Int × Int} {v : V} (h : Dq H bs (pairDt p) v) : ∃ t, v = .ref t ∧ t ∉ bs ∧ H t = some (.tup [.int p.1, .int p.2]) := by
  unfold pairDt Dq at h
  obtain ⟨t, xs, rfl, n, ht, hx⟩ := h
  simp only [DqA, Dq] at hx
  obtain ⟨y, ys, rfl, rfl, z, zs, rfl, rfl, rfl⟩ := hx
  exact ⟨t, rfl, n, ht⟩
end Own

namespace Own
open PySem PySem.Spec PyProof.Rows L2
/-! ### what is no list stays -/
def Lsts (H H' : Hp) : Prop := ∀ a o, H a = some o → (∀ xs, o ≠ .lst xs) → H' a = some o
theorem Lsts.refl {H : Hp} : Lsts H H := fun _ _ h _ => h
theorem Lsts.trans {H H1 H2 : Hp} (x : Lsts H H1) (y : Lsts H1 H2) : Lsts H H2 := fun a o h n => y a o (x a o h n) n
theorem Lsts.same {H H' : Hp} (x : Same H H') : Lsts H H' := fun a o h _ => x a o h
theorem Lsts.but {b : Addr} {H H' : Hp} (hb : Bag H b) (x : But b H H') : Lsts H H' := fun a o h n => x a o (fun e => by
  obtain ⟨u, v, hb, _⟩ := hb
  rw [e, hb] at h
  cases h
  exact n _ rfl) h
theorem Lsts.put {l : Addr} {H : Hp} {xs : List V} {o : HO} (hl : H l = some (.lst xs)) : Lsts H (upd H l o) := fun a u h n => by
  rw [upd_ne (fun e => by
    rw [e, hl] at h
    cases h
    exact n _ rfl)]
  exact h
theorem TabAt.lsts {H H' : Hp} {C p : Addr} {xs : List V} (h : TabAt H C p xs) (e : Lsts H H') : TabAt H' C p xs := by
  obtain ⟨dx, t, hp, ht⟩ := h
  exact ⟨dx, t, e _ _ hp nofun, e _ _ ht nofun⟩
/-! ### rows of integers -/
def rowDt (r : List Int) : PyData := .tuple (r.map PyData.int)
def IntT (H : Hp) (v : V) (r : List Int) : Prop := ∃ t, v = .ref t ∧ H t = some (.tup (r.map V.int))
theorem IntT.lsts {H H' : Hp} {v : V} {r : List Int} (h : IntT H v r) (e : Lsts H H') : IntT H' v r := by
  obtain ⟨t, hv, ht⟩ := h
  exact ⟨t, hv, e _ _ ht nofun⟩
def Rws (H : Hp) : List (List Int) → List V → Prop
  | [], xs => xs = []
  | r :: rs, xs => ∃ y ys, xs = y :: ys ∧ IntT H y r ∧ Rws H rs ys
theorem Rws.lsts {H H' : Hp} (e : Lsts H H') : ∀ {rs : List (List Int)} {xs : List V}, Rws H rs xs → Rws H' rs xs
  | [], _, h => h
  | _ :: _, _, ⟨y, ys, h, h1, h2⟩ => ⟨y, ys, h, h1.lsts e, Rws.lsts e h2⟩
theorem Rws.len {H : Hp} : ∀ {rs : List (List Int)} {xs : List V}, Rws H rs xs → rs.length = xs.length
  | [], _, h => by rw [show _ = [] from h]; rfl
  | _ :: _, _, ⟨y, ys, h, h1, h2⟩ => by rw [h, List.length_cons, List.length_cons, Rws.len h2]
theorem Rws.snoc {H : Hp} {v : V} {r : List Int} (hv : IntT H v r) : ∀ {rs : List (List Int)} {xs : List V}, Rws H rs xs → Rws H (rs ++ [r]) (xs ++ [v])
  | [], _, h => by
    rw [show _ = [] from h]
    exact ⟨v, [], rfl, hv, rfl⟩
  | _ :: _, _, ⟨y, ys, h, h1, h2⟩ => by
    rw [h]
    exact ⟨y, _, rfl, h1, Rws.snoc hv h2⟩
theorem Rws.get {H : Hp} {v : V} : ∀ {rs : List (List Int)} {xs : List V} {i : Nat}, Rws H rs xs → xs[i]? = some v → ∃ r, rs[i]? = some r ∧ IntT H v r
  | [], _, _, h, e => by
    rw [show _ = [] from h] at e
    cases e
  | r :: _, _, 0, ⟨y, ys, h, h1, h2⟩, e => by
    rw [h] at e
    cases e
    exact ⟨r, rfl, h1⟩
  | _ :: _, _, i + 1, ⟨y, ys, h, h1, h2⟩, e => by
    rw [h, List.getElem?_cons_succ] at e
    rw [List.getElem?_cons_succ]
    exact Rws.get h2 e
theorem Rws.mem {H : Hp} {v : V} {rs : List (List Int)} {xs : List V} (h : Rws H rs xs) (hv : v ∈ xs) : ∃ r ∈ rs, IntT H v r := by
  obtain ⟨i, e⟩ := List.getElem?_of_mem hv
  obtain ⟨r, h1, h2⟩ := h.get e
  exact ⟨r, List.mem_of_getElem? h1, h2⟩
theorem Rws.app {H : Hp} {ss : List (List Int)} {ys : List V} (h2 : Rws H ss ys) : ∀ {rs : List (List Int)} {xs : List V}, Rws H rs xs → Rws H (rs ++ ss) (xs ++ ys)
  | [], _, h => by
    rw [show _ = [] from h]
    exact h2
  | _ :: _, _, ⟨y, ys, h, h1, h3⟩ => by
    rw [h]
    exact ⟨y, _, rfl, h1, Rws.app h2 h3⟩
theorem Rws.rev {H : Hp} : ∀ {rs : List (List Int)} {xs : List V}, Rws H rs xs → Rws H rs.reverse xs.reverse
  | [], _, h => by
    rw [show _ = [] from h]
    rfl
  | _ :: _, _, ⟨y, ys, h, h1, h3⟩ => by
    rw [h, List.reverse_cons, List.reverse_cons]
    exact Rws.snoc h1 (Rws.rev h3)
theorem Rws.take {H : Hp} (n : Nat) : ∀ {rs : List (List Int)} {xs : List V}, Rws H rs xs → Rws H (rs.take n) (xs.take n) := by
  induction n with
  | zero => intro rs xs _; exact rfl
  | succ n ih =>
    intro rs xs h
    cases rs with
    | nil =>
      rw [show xs = [] from h]
      rfl
    | cons r rs =>
      obtain ⟨y, ys, e, h1, h2⟩ := h
      rw [e, List.take_succ_cons, List.take_succ_cons]
      exact ⟨y, _, rfl, h1, ih h2⟩
theorem Rws.dp {K : PySem.W.Frag} {H : Hp} : ∀ {rs : List (List Int)} {xs : List V}, Rws H rs xs → DpAll K H xs (rs.map rowDt)
  | [], _, h => by
    rw [show _ = [] from h]
    exact .nil
  | _ :: _, _, ⟨y, ys, h, ⟨t, hy, ht⟩, h2⟩ => by
    rw [h, hy]
    exact .cons (.tup (SqT.of ht) (dp_ints _)) (Rws.dp h2)
theorem rowDt_lay (r : List Int) : (rowDt r).canLay0 = true ∧ (rowDt r).depth = 1 := by
  obtain ⟨h1, h2⟩ := canAll_of (ds := r.map PyData.int) fun d hd => by
    obtain ⟨n, _, rfl⟩ := List.mem_map.mp hd
    exact int_flatD n
  unfold rowDt
  simp only [PyData.canLay0, PyData.depth, h1, h2]
  exact ⟨trivial, trivial⟩
theorem rows_lay : ∀ rs : List (List Int), PyData.canLayAll0 (rs.map rowDt) = true ∧ PyData.depthAll (rs.map rowDt) ≤ 1
  | [] => by simp [PyData.canLayAll0, PyData.depthAll]
  | r :: rs => by
    obtain ⟨h1, h2⟩ := rows_lay rs
    obtain ⟨h3, h4⟩ := rowDt_lay r
    simp only [List.map_cons, PyData.canLayAll0, PyData.depthAll, h1, h3, h4]
    exact ⟨rfl, by omega⟩
theorem rowDt_shaped (r : List Int) : SeqAt.shaped (rowDt r) = true := by
  obtain ⟨h1, h2⟩ := rowDt_lay r
  unfold SeqAt.shaped
  rw [h1, h2]
  rfl
theorem rows_shaped (rs : List (List Int)) : SeqAt.shaped (.list (rs.map rowDt)) = true := by
  obtain ⟨h1, h2⟩ := rows_lay rs
  unfold SeqAt.shaped
  rw [show PyData.canLay0 _ = true by simp only [PyData.canLay0]; exact h1, Bool.true_and, decide_eq_true_eq]
  simp only [PyData.depth]
  omega
theorem rows_shapedT (rs : List (List Int)) : SeqAt.shaped (.tuple (rs.map rowDt)) = true := by
  obtain ⟨h1, h2⟩ := rows_lay rs
  unfold SeqAt.shaped
  rw [show PyData.canLay0 _ = true by simp only [PyData.canLay0]; exact h1, Bool.true_and, decide_eq_true_eq]
  simp only [PyData.depth]
  omega
theorem eqvAll_ints : ∀ (ys zs : List Int), PyData.eqvAll (ys.map PyData.int) (zs.map PyData.int) = decide (ys = zs)
  | [], [] => by simp [PyData.eqvAll]
  | [], _ :: _ => by simp [PyData.eqvAll]
  | _ :: _, [] => by simp [PyData.eqvAll]
  | y :: ys, z :: zs => by
    have ih := eqvAll_ints ys zs
    simp only [List.map_cons, PyData.eqvAll, PyData.eqv, ih]
    rw [Bool.eq_iff_iff]
    simp
theorem eqv_row (r s : List Int) : PyData.eqv (rowDt r) (rowDt s) = decide (r = s) := by
  rw [← eqvAll_ints]
  simp only [rowDt, PyData.eqv]
theorem eqvAll_rows : ∀ (ys zs : List (List Int)), PyData.eqvAll (ys.map rowDt) (zs.map rowDt) = decide (ys = zs)
  | [], [] => by simp [PyData.eqvAll]
  | [], _ :: _ => by simp [PyData.eqvAll]
  | _ :: _, [] => by simp [PyData.eqvAll]
  | y :: ys, z :: zs => by
    have ih := eqvAll_rows ys zs
    simp only [List.map_cons, PyData.eqvAll, eqv_row, ih]
    rw [Bool.eq_iff_iff]
    simp
theorem eqv_rows (ys zs : List (List Int)) : PyData.eqv (.list (ys.map rowDt)) (.list (zs.map rowDt)) = decide (ys = zs) := by
  rw [← eqvAll_rows]
  simp only [PyData.eqv]
theorem any_rows (rs : List (List Int)) (r : List Int) : ((rs.map rowDt).any fun z => PyData.eqv z (rowDt r)) = decide (r ∈ rs) := by
  rw [Bool.eq_iff_iff, List.any_map, List.any_eq_true, decide_eq_true_eq]
  constructor
  · rintro ⟨s, hs, e⟩
    have e2 : PyData.eqv (rowDt s) (rowDt r) = true := e
    rw [eqv_row, decide_eq_true_eq] at e2
    exact e2 ▸ hs
  · intro h
    exact ⟨r, h, by show PyData.eqv (rowDt r) (rowDt r) = true; rw [eqv_row, decide_eq_true_eq]⟩
/-- x in t, t a tuple of data -/
def rInDT (K : PySem.W.Frag) : R2 := fun x y H Q => ∃ d ds, Dp K H x d ∧ Dp K H y (.tuple ds) ∧ SeqAt.shaped d = true ∧ SeqAt.shaped (.tuple ds) = true ∧ Q (.bl (ds.any fun z => PyData.eqv z d)) H
theorem op_inDT {X : Cx} (hu : X.A.units + 65 < cLine) : OpR X (compareOp .In) (rInDT X.K) := by
  intro pins s σ H x y v u Q I rx ry h
  obtain ⟨d, ds, hd, he, sd, se, q⟩ := h
  obtain ⟨as, r1⟩ := Dp.reads I d x v hd rx
  obtain ⟨bs, r2⟩ := Dp.reads I (.tuple ds) y u he ry
  have se2 : PyData.canLayAll0 ds = true := by
    unfold SeqAt.shaped at se
    simp only [PyData.canLay0] at se
    exact (Bool.and_eq_true_iff.mp se).1
  exact SeqAt.in_tuple_reads r2 r1 se2 (SeqAt.canLay_of_shaped sd) (room_in_shaped sd hu) ⟨.bl _, H, I, rfl, q⟩
/-! ### data that is, or is not, a row -/
def isIntD : PyData → Bool
  | .int _ => true
  | _ => false
def isRowD (m : Nat) : PyData → Bool
  | .tuple ds => decide (ds.length = m) && ds.all isIntD
  | _ => false
def wid : PyData → Nat
  | .tuple ds => ds.length
  | _ => 0
theorem dq_int {H : Hp} {bs : List Addr} : ∀ {d : PyData} {v : V}, Dq H bs d v → isIntV v = isIntD d
  | .none, v, h => by rw [show v = .non by simpa only [Dq] using h]; rfl
  | .bool x, v, h => by rw [show v = .bl x by simpa only [Dq] using h]; rfl
  | .int i, v, h => by rw [show v = .int i by simpa only [Dq] using h]; rfl
  | .str z, v, h => by
    obtain ⟨rfl, _⟩ : v = .str z ∧ z.length ≤ 100 := by simpa only [Dq] using h
    rfl
  | .list ds, v, h => by
    obtain ⟨a, xs, rfl, n, ha, hx⟩ : ∃ a xs, v = .ref a ∧ a ∉ bs ∧ H a = some (.lst xs) ∧ DqA H bs ds xs := by simpa only [Dq] using h
    rfl
  | .tuple ds, v, h => by
    obtain ⟨a, xs, rfl, n, ha, hx⟩ : ∃ a xs, v = .ref a ∧ a ∉ bs ∧ H a = some (.tup xs) ∧ DqA H bs ds xs := by simpa only [Dq] using h
    rfl
  | .dict _, v, h => by
    have h : False := by simpa only [Dq] using h
    exact h.elim
theorem dqA_allInt {H : Hp} {bs : List Addr} : ∀ {ds : List PyData} {xs : List V}, DqA H bs ds xs → xs.all isIntV = ds.all isIntD
  | [], xs, h => by rw [show xs = [] by simpa only [DqA] using h]; rfl
  | d :: ds, xs, h => by
    obtain ⟨y, ys, rfl, h1, h2⟩ : ∃ y ys, xs = y :: ys ∧ Dq H bs d y ∧ DqA H bs ds ys := by simpa only [DqA] using h
    rw [List.all_cons, List.all_cons, dq_int h1, dqA_allInt h2]
theorem dq_kinds {H : Hp} {bs : List Addr} {d : PyData} {v : V} (h : Dq H bs d v) : (∃ ds a xs, d = .tuple ds ∧ v = .ref a ∧ a ∉ bs ∧ H a = some (.tup xs) ∧ DqA H bs ds xs) ∨ (∃ t, kd H v = some t ∧ t ≠ .tup ∧ ∀ m, isRowD m d = false) := by
  cases d with
  | none => exact .inr ⟨.non, by rw [show v = .non by simpa only [Dq] using h]; rfl, nofun, fun _ => rfl⟩
  | bool x => exact .inr ⟨.bl, by rw [show v = .bl x by simpa only [Dq] using h]; rfl, nofun, fun _ => rfl⟩
  | int i => exact .inr ⟨.int, by rw [show v = .int i by simpa only [Dq] using h]; rfl, nofun, fun _ => rfl⟩
  | str z =>
    obtain ⟨rfl, _⟩ : v = .str z ∧ z.length ≤ 100 := by simpa only [Dq] using h
    exact .inr ⟨_, rfl, nofun, fun _ => rfl⟩
  | list ds =>
    obtain ⟨a, xs, rfl, n, ha, hx⟩ : ∃ a xs, v = .ref a ∧ a ∉ bs ∧ H a = some (.lst xs) ∧ DqA H bs ds xs := by simpa only [Dq] using h
    exact .inr ⟨_, kd_lst ha, nofun, fun _ => rfl⟩
  | tuple ds =>
    obtain ⟨a, xs, rfl, n, ha, hx⟩ : ∃ a xs, v = .ref a ∧ a ∉ bs ∧ H a = some (.tup xs) ∧ DqA H bs ds xs := by simpa only [Dq] using h
    exact .inl ⟨ds, a, xs, rfl, rfl, n, ha, hx⟩
  | dict kvs =>
    have h : False := by simpa only [Dq] using h
    exact h.elim
theorem dq_known {H : Hp} {bs : List Addr} {d : PyData} {v : V} (h : Dq H bs d v) (hw : wid d ≤ 1000) : Known H v := by
  rcases dq_kinds h with ⟨ds, a, xs, rfl, rfl, n, ha, hx⟩ | ⟨t, ht, nt, _⟩
  · exact known_tup ha (by rw [← dqA_len hx]; exact hw) fun x hx2 => let ⟨t, q, _⟩ := dqA_ent hx x hx2; ⟨t, q⟩
  · refine ⟨⟨t, ht⟩, fun a xs e ha => ?_⟩
    subst e
    rw [kd_tup ha] at ht
    cases ht
    exact absurd rfl nt
theorem dq_row {H : Hp} {bs : List Addr} {d : PyData} {v : V} (h : Dq H bs d v) (m : Nat) : rowB H v (m : Nat) = isRowD m d := by
  rcases dq_kinds h with ⟨ds, a, xs, rfl, rfl, n, ha, hx⟩ | ⟨t, ht, nt, hd⟩
  · rw [rowB_tup ha, dqA_allInt hx, ← dqA_len hx]
    show _ = (decide (ds.length = m) && ds.all isIntD)
    congr 1
    rw [Bool.eq_iff_iff, decide_eq_true_eq, decide_eq_true_eq]
    omega
  · rw [hd m, rowB_not ht nt]
theorem intT_known {H : Hp} {v : V} {r : List Int} (h : IntT H v r) (hr : r.length ≤ 1000) : Known H v := by
  obtain ⟨t, rfl, ht⟩ := h
  refine known_tup ht (by rw [len_ints]; exact hr) fun x hx => ?_
  obtain ⟨u, rfl⟩ := int_of_mem hx
  exact ⟨_, rfl⟩
theorem ints_all (r : List Int) : (r.map V.int).all isIntV = true := List.all_eq_true.mpr fun x hx => by
  obtain ⟨u, rfl⟩ := int_of_mem hx
  rfl
theorem intT_row {H : Hp} {v : V} {r : List Int} (h : IntT H v r) (m : Nat) : rowB H v (m : Nat) = decide (r.length = m) := by
  obtain ⟨t, rfl, ht⟩ := h
  rw [rowB_tup ht, ints_all, Bool.and_true, len_ints, Bool.eq_iff_iff, decide_eq_true_eq, decide_eq_true_eq]
  omega
theorem intT_dq {H : Hp} {bs : List Addr} {v : V} {r : List Int} (h : IntT H v r) (hb : ∀ t, v = .ref t → t ∉ bs) : Dq H bs (rowDt r) v := by
  obtain ⟨t, rfl, ht⟩ := h
  simp only [Dq, rowDt]
  refine ⟨t, _, rfl, hb t rfl, ht, ?_⟩
  clear ht
  induction r with
  | nil => simp [DqA]
  | cons x r ih =>
    simp only [List.map_cons, DqA]
    exact ⟨_, _, rfl, by simp only [Dq], ih⟩
theorem isRow_rowDt (m : Nat) (r : List Int) : isRowD m (rowDt r) = decide (r.length = m) := by
  show (decide ((r.map PyData.int).length = m) && (r.map PyData.int).all isIntD) = _
  rw [List.length_map, List.all_map, show (r.all (isIntD ∘ PyData.int)) = true from List.all_eq_true.mpr fun x _ => rfl, Bool.and_true]
/-- what is new is none of an old datum's objects -/
theorem dq_fresh {H : Hp} {bs : List Addr} {p : Addr} (n : H p = none) : (∀ (d : PyData) (v : V), Dq H bs d v → Dq H (p :: bs) d v) ∧ ∀ (ds : List PyData) (xs : List V), DqA H bs ds xs → DqA H (p :: bs) ds xs := by
  have ne : ∀ {a o}, a ∉ bs → H a = some o → a ∉ p :: bs := fun h e q => by
    rcases List.mem_cons.mp q with rfl | q
    · rw [n] at e
      cases e
    · exact h q
  constructor
  · exact fun d => PyData.rec (motive_1 := fun d => ∀ v, Dq H bs d v → Dq H (p :: bs) d v) (motive_2 := fun ds => ∀ xs, DqA H bs ds xs → DqA H (p :: bs) ds xs) (motive_3 := fun _ => True) (motive_4 := fun _ => True)
      (fun v h => by simpa only [Dq] using h) (fun x v h => by simpa only [Dq] using h) (fun x v h => by simpa only [Dq] using h) (fun x v h => by simpa only [Dq] using h)
      (fun ds ih v h => by
        simp only [Dq] at h ⊢
        obtain ⟨a, xs, e, h1, h2, h3⟩ := h
        exact ⟨a, xs, e, ne h1 h2, h2, ih _ h3⟩)
      (fun ds ih v h => by
        simp only [Dq] at h ⊢
        obtain ⟨a, xs, e, h1, h2, h3⟩ := h
        exact ⟨a, xs, e, ne h1 h2, h2, ih _ h3⟩)
      (fun kvs _ v h => by simpa only [Dq] using h)
      (fun xs h => by simpa only [DqA] using h)
      (fun d ds ih1 ih2 xs h => by
        simp only [DqA] at h ⊢
        obtain ⟨y, ys, e, h1, h2⟩ := h
        exact ⟨y, ys, e, ih1 _ h1, ih2 _ h2⟩)
      trivial (fun _ _ _ _ => trivial) (fun _ _ _ _ => trivial) d
  · exact fun ds => PyData.rec_1 (motive_1 := fun d => ∀ v, Dq H bs d v → Dq H (p :: bs) d v) (motive_2 := fun ds => ∀ xs, DqA H bs ds xs → DqA H (p :: bs) ds xs) (motive_3 := fun _ => True) (motive_4 := fun _ => True)
      (fun v h => by simpa only [Dq] using h) (fun x v h => by simpa only [Dq] using h) (fun x v h => by simpa only [Dq] using h) (fun x v h => by simpa only [Dq] using h)
      (fun ds ih v h => by
        simp only [Dq] at h ⊢
        obtain ⟨a, xs, e, h1, h2, h3⟩ := h
        exact ⟨a, xs, e, ne h1 h2, h2, ih _ h3⟩)
      (fun ds ih v h => by
        simp only [Dq] at h ⊢
        obtain ⟨a, xs, e, h1, h2, h3⟩ := h
        exact ⟨a, xs, e, ne h1 h2, h2, ih _ h3⟩)
      (fun kvs _ v h => by simpa only [Dq] using h)
      (fun xs h => by simpa only [DqA] using h)
      (fun d ds ih1 ih2 xs h => by
        simp only [DqA] at h ⊢
        obtain ⟨y, ys, e, h1, h2⟩ := h
        exact ⟨y, ys, e, ih1 _ h1, ih2 _ h2⟩)
      trivial (fun _ _ _ _ => trivial) (fun _ _ _ _ => trivial) ds
theorem hu65 {k : Nat} {A : Around} (hr : Room k A) : A.units + 65 < cLine := by have := hr.un; omega
/-- a method without arguments, by name -/
theorem pe_calM0 {X : Cx} {k : Nat} {C f : Addr} {m : Str} {fd : FuncData} {ps : List Str} {sp : Sp} {o : Expr} {ta : TE} {apos pos : Pos} {pl : Sem Bool} (he : PE X o ta) (cl : Cls X.K C) (c : CalM X.prog X.w X.K X.mg X.base CX0 k C m f fd ps sp) (hr : Room k X.A)
    (ht : eval (.Call (.Attribute o m apos) [] [] pos) X.env = (do
      let ov ← eval o X.env
      standAt apos.atName
      let (f, first) ← holding [ov] (getMethod ov m pl)
      callWith pos f first (backTo pos (starEach [] X.env)) (backToKw pos (keywordEach [] X.env))) := by rfl) :
    PE X (.Call (.Attribute o m apos) [] [] pos) (tMeth C m sp [] E0 ta tNil) := pe_meth0 (pl := pl) he cl c.mt c.ok hr c.b .nil pass0 ht
/-! ### flat values as data -/
def flatS : V → Bool
  | .int _ => true
  | .bl _ => true
  | .non => true
  | .str z => decide (z.length ≤ 100)
  | _ => false
theorem flatS_dq {H : Hp} {bs : List Addr} {v : V} (h : flatS v = true) : Dq H bs (fdV v) v := by
  cases v with
  | int i => simp only [fdV, Dq]
  | bl b => simp only [fdV, Dq]
  | non => simp only [fdV, Dq]
  | str z => simp only [fdV, Dq]; exact ⟨trivial, of_decide_eq_true h⟩
  | _ => cases h
theorem flatS_all {H : Hp} {bs : List Addr} : ∀ {xs : List V}, (∀ x ∈ xs, flatS x = true) → DqA H bs (xs.map fdV) xs
  | [], _ => by simp only [List.map_nil, DqA]
  | x :: xs, h => by
    simp only [List.map_cons, DqA]
    exact ⟨x, xs, rfl, flatS_dq (h x List.mem_cons_self), flatS_all fun y hy => h y (List.mem_cons_of_mem _ hy)⟩
theorem flatS_int {v : V} (h : flatS v = true) : isIntD (fdV v) = isIntV v := by
  cases v with
  | int i => rfl
  | bl b => rfl
  | non => rfl
  | str z => rfl
  | _ => cases h
theorem flatS_row {xs : List V} (h : ∀ x ∈ xs, flatS x = true) (m : Nat) : isRowD m (.tuple (xs.map fdV)) = (decide (xs.length = m) && xs.all isIntV) := by
  show (decide ((xs.map fdV).length = m) && (xs.map fdV).all isIntD) = _
  rw [List.length_map]
  congr 1
  rw [List.all_map, Bool.eq_iff_iff, List.all_eq_true, List.all_eq_true]
  exact ⟨fun q x hx => by rw [← flatS_int (h x hx)]; exact q x hx, fun q x hx => by show isIntD (fdV x) = true; rw [flatS_int (h x hx)]; exact q x hx⟩
theorem flatS_ints (r : List Int) : ∀ x ∈ r.map V.int, flatS x = true := fun x hx => by
  obtain ⟨u, rfl⟩ := int_of_mem hx
  rfl
/-- a bag's own list is a list -/
theorem Bag.lst {H : Hp} {b : Addr} (h : Bag H b) : ∃ ys, H b = some (.lst ys) := let ⟨_, _, e, _⟩ := h; ⟨_, e⟩
def AllLst (H : Hp) (bs : List Addr) : Prop := ∀ x ∈ bs, ∃ ys, H x = some (.lst ys)
theorem AllLst.same {H H' : Hp} {bs : List Addr} (h : AllLst H bs) (s : Same H H') : AllLst H' bs := fun x hx => let ⟨ys, e⟩ := h x hx; ⟨ys, s _ _ e⟩
theorem AllLst.tup {H : Hp} {bs : List Addr} {t : Addr} {xs : List V} (h : AllLst H bs) (e : H t = some (.tup xs)) : t ∉ bs := fun q => by
  obtain ⟨ys, e2⟩ := h t q
  rw [e] at e2
  cases e2
theorem AllLst.new {H : Hp} {bs : List Addr} {t : Addr} (h : AllLst H bs) (e : H t = none) : t ∉ bs := fun q => by
  obtain ⟨ys, e2⟩ := h t q
  rw [e] at e2
  cases e2
/-! ### what the defs promise -/
def spRow : Sp := fun vs H Q _ => ∃ (b : Addr) (m : Int), vs = [.ref b, .int m] ∧ Bag H b ∧ 0 ≤ m ∧ m ≤ 3 ∧ ∀ (r : List Int) (t : Addr) (H' : Hp), (r.length : Int) = m → H t = none → H' t = some (.tup (r.map V.int)) → But b H H' → Bag H' b → Q (.ref t) H'
def spSpoilt : Sp := fun vs H Q _ => ∃ (b t : Addr) (r : List Int) (bs : List Addr), vs = [.ref b, .ref t] ∧ Bag H b ∧ b ∈ bs ∧ AllLst H bs ∧ H t = some (.tup (r.map V.int)) ∧ 1 ≤ r.length ∧ r.length ≤ 3 ∧
  ∀ (d : PyData) (v : V) (H' : Hp), Dq H' bs d v → isRowD r.length d = false → wid d ≤ 1000 → But b H H' → Bag H' b → Q v H'
def spErrRow (C : Addr) : Sp := fun vs H Q _ => ∃ (a : Addr) (i : Int), vs = [.ref a, .int i] ∧ H a = some (exo a C none) ∧ 0 ≤ i ∧ i ≤ 63 ∧ ∀ d, H d = none → d ≠ a → Q .non (upd (upd H d (exd d [("at", .int i)])) a (exo a C (some d)))
/-- what told says of the entries -/
def Told (m : Nat) (ds : List PyData) (good : Prop) (bad : Nat → Prop) : Prop :=
  ((∀ d ∈ ds, isRowD m d = true) → good) ∧ ∀ (i : Nat) (d : PyData), ds[i]? = some d → isRowD m d = false → (∀ (j : Nat) (e : PyData), j < i → ds[j]? = some e → isRowD m e = true) → bad i
def spStoreX (CT CS CR : Addr) : Sp := fun vs H Q E => ∃ (q p g dx : Addr) (cs : List V) (m : Nat) (xs : List V) (ds : List PyData) (bs : List Addr), vs = [.ref q, .ref p, .ref g] ∧ H q = some (.ins CS dx []) ∧ TabAt H CT p cs ∧ cs.length = m ∧ m ≤ 3 ∧
  (H g = some (.lst xs) ∨ H g = some (.tup xs)) ∧ DqA H bs ds xs ∧ (∀ d ∈ ds, wid d ≤ 1000) ∧ xs.length ≤ 60 ∧
  Told m ds (∀ (t : Addr) (H' : Hp), But q H H' → H' q = some (.ins CS dx [("table", .ref p), ("_rows", .ref t)]) → H' t = some (.tup xs) → Q .non H')
    (fun i => ∀ d H', Same H H' → H' d = some (.xd [("at", .int i)]) → E (.ref CR) (some d) H')
def StAt (H : Hp) (CS q p t : Addr) (xs : List V) : Prop := ∃ dx, H q = some (.ins CS dx [("table", .ref p), ("_rows", .ref t)]) ∧ H t = some (.tup xs)
theorem StAt.lsts {H H' : Hp} {CS q p t : Addr} {xs : List V} (h : StAt H CS q p t xs) (e : Lsts H H') : StAt H' CS q p t xs := by
  obtain ⟨dx, hp, ht⟩ := h
  exact ⟨dx, e _ _ hp nofun, e _ _ ht nofun⟩
def spInS (CT CS : Addr) : Sp := fun vs H Q _ => ∃ (q p t : Addr) (v : V) (cs xs : List V) (m : Nat) (rs : List (List Int)), vs = [.ref q, v] ∧ StAt H CS q p t xs ∧ TabAt H CT p cs ∧ cs.length = m ∧ m ≤ 3 ∧ Rws H rs xs ∧ Known H v ∧
  (rowB H v (m : Nat) = false → ∀ H', Same H H' → Q (.bl false) H') ∧ ∀ r, IntT H v r → r.length = m → ∀ H', Same H H' → Q (.bl (decide (r ∈ rs))) H'
theorem row_intT {H : Hp} {v : V} {m : Int} (h : rowB H v m = true) : ∃ r, IntT H v r ∧ (r.length : Int) = m := by
  cases v with
  | ref a =>
    cases e : H a with
    | none => exact absurd h (by show ¬ rowO (H a) m = true; rw [e]; exact nofun)
    | some o =>
      cases o with
      | tup xs =>
        rw [rowB_tup e, Bool.and_eq_true, decide_eq_true_eq] at h
        obtain ⟨h1, h2⟩ := h
        have : ∀ (xs : List V), xs.all isIntV = true → ∃ r : List Int, xs = r.map V.int := by
          intro xs
          induction xs with
          | nil => exact fun _ => ⟨[], rfl⟩
          | cons x xs ih =>
            intro hx
            rw [List.all_cons, Bool.and_eq_true] at hx
            obtain ⟨r, rfl⟩ := ih hx.2
            cases x with
            | int i => exact ⟨i :: r, rfl⟩
            | _ => exact absurd hx.1 nofun
        obtain ⟨r, rfl⟩ := this xs h2
        exact ⟨r, ⟨a, rfl, e⟩, by rw [len_ints] at h1; exact h1⟩
      | _ => exact absurd h (by show ¬ rowO (H a) m = true; rw [e]; exact nofun)
  | _ => exact absurd h nofun
/-- a def that may raise, at a wish that nothing is raised -/
theorem fn0 {P : Program} {w : World} {K : PySem.W.Frag} {mg : Str → Option Value} {base : Heap} {k : Nat} {f : Addr} {fd : FuncData} {ps : List Str} {sp : Sp} (F : FnOk P w K mg base (L2.CX P w) k f fd ps sp) : FnOk P w K mg base CX0 k f fd ps (fun vs H Q _ => sp vs H Q E0) :=
  ⟨fun vs H Q E h => F.len vs H Q E0 h, fun A outer s H args us vs Q E hr e0 hb r h => codeAny_mono (F.run A outer s H args us vs Q E0 hr e0 hb r h) fun z s' hz => by
    match z, hz with
    | .ok (.ret u), hz => exact hz
    | .error e, ⟨_, _, _, _, _, _, _, _, _, _, _, _, q⟩ => exact q.elim⟩
end Own

namespace Own
open PySem PySem.Spec PyProof.Rows L2
/-! ### tokens of a text, as code points -/
def inRun (lo hi c : Nat) : Bool := decide (lo ≤ c) && decide (c ≤ hi)
/-- where a run of characters from lo to hi ends that begins at a place -/
def runEnd (cs : List Nat) (i lo hi : Nat) : Nat := i + ((cs.drop i).takeWhile (inRun lo hi)).length
theorem drop_at {cs : List Nat} {i c : Nat} (h : cs[i]? = some c) : cs.drop i = c :: cs.drop (i + 1) := by
  obtain ⟨h1, h2⟩ := List.getElem?_eq_some_iff.mp h
  rw [List.drop_eq_getElem_cons h1, h2]
theorem runEnd_in {cs : List Nat} {i lo hi c : Nat} (h : cs[i]? = some c) (r : inRun lo hi c = true) : runEnd cs i lo hi = runEnd cs (i + 1) lo hi := by
  unfold runEnd
  rw [drop_at h, List.takeWhile_cons, if_pos r, List.length_cons]
  omega
theorem runEnd_out {cs : List Nat} {i lo hi c : Nat} (h : cs[i]? = some c) (r : inRun lo hi c = false) : runEnd cs i lo hi = i := by
  unfold runEnd
  rw [drop_at h, List.takeWhile_cons, if_neg (by rw [r]; exact nofun)]
  rfl
theorem runEnd_end {cs : List Nat} {i lo hi : Nat} (h : cs.length ≤ i) : runEnd cs i lo hi = i := by
  unfold runEnd
  rw [List.drop_eq_nil_of_le h]
  rfl
theorem runEnd_ge (cs : List Nat) (i lo hi : Nat) : i ≤ runEnd cs i lo hi := Nat.le_add_right _ _
theorem runEnd_le {cs : List Nat} {i : Nat} (h : i ≤ cs.length) (lo hi : Nat) : runEnd cs i lo hi ≤ cs.length := by
  have q := (List.takeWhile_prefix (inRun lo hi) (l := cs.drop i)).length_le
  unfold runEnd
  rw [List.length_drop] at q
  omega
def longSigns : List (List Nat) := [[33, 61], [60, 61], [62, 61], [124, 61], [38, 61]]
def digAt (cs : List Nat) (i : Nat) : Nat := if cs[i]? = some 45 then i + 1 else i
theorem digAt_ge (cs : List Nat) (i : Nat) : i ≤ digAt cs i ∧ digAt cs i ≤ i + 1 := by
  unfold digAt
  split <;> omega
/-- where the token ends that begins at a place -/
def tokEnd (cs : List Nat) (i : Nat) : Nat :=
  if i < runEnd cs i 97 122 then runEnd cs i 97 122
  else if digAt cs i < runEnd cs (digAt cs i) 48 57 then runEnd cs (digAt cs i) 48 57
  else if (cs.drop i).take 2 ∈ longSigns then i + 2 else i + 1
theorem tokEnd_gt (cs : List Nat) (i : Nat) : i < tokEnd cs i := by
  have d := digAt_ge cs i
  unfold tokEnd
  split
  · assumption
  · split
    · omega
    · split <;> omega
theorem tokEnd_le {cs : List Nat} {i : Nat} (h : i < cs.length) : tokEnd cs i ≤ cs.length := by
  have d := digAt_ge cs i
  unfold tokEnd
  split
  · exact runEnd_le (by omega) _ _
  · split
    · exact runEnd_le (by omega) _ _
    · split
      · rename_i m
        have e : ((cs.drop i).take 2).length = 2 := by
          unfold longSigns at m
          simp only [List.mem_cons, List.not_mem_nil, or_false] at m
          rcases m with m | m | m | m | m <;> rw [m] <;> rfl
        rw [List.length_take, List.length_drop] at e
        omega
      · omega
/-- the tokens from a place on, each with its place; the fuel is the length -/
def toksF (cs : List Nat) : Nat → Nat → List (List Nat × Nat)
  | 0, _ => []
  | n + 1, i => if i < cs.length then (if cs[i]? = some 32 then [] else [((cs.drop i).take (tokEnd cs i - i), i)]) ++ toksF cs n (tokEnd cs i) else []
theorem toksF_more (cs : List Nat) : ∀ (n m i : Nat), cs.length - i ≤ n → cs.length - i ≤ m → toksF cs n i = toksF cs m i
  | 0, 0, _, _, _ => rfl
  | 0, m + 1, i, h, _ => by
    unfold toksF
    rw [if_neg (by omega)]
  | n + 1, 0, i, _, h => by
    unfold toksF
    rw [if_neg (by omega)]
  | n + 1, m + 1, i, h1, h2 => by
    unfold toksF
    by_cases l : i < cs.length
    · have g := tokEnd_gt cs i
      rw [if_pos l, if_pos l, toksF_more cs n m (tokEnd cs i) (by omega) (by omega)]
    · rw [if_neg l, if_neg l]
def toksL (cs : List Nat) : List (List Nat × Nat) := toksF cs cs.length 0
theorem toksF_step {cs : List Nat} {i : Nat} (h : i < cs.length) : toksF cs cs.length i = (if cs[i]? = some 32 then [] else [((cs.drop i).take (tokEnd cs i - i), i)]) ++ toksF cs cs.length (tokEnd cs i) := by
  have g := tokEnd_gt cs i
  obtain ⟨n, hn⟩ : ∃ n, cs.length = n + 1 := ⟨cs.length - 1, by omega⟩
  rw [toksF_more cs cs.length (n + 1) i (by omega) (by omega)]
  show (if i < cs.length then _ else _) = _
  rw [if_pos h, toksF_more cs n cs.length (tokEnd cs i) (by omega) (by omega)]
theorem toksF_done {cs : List Nat} {i n : Nat} (h : cs.length ≤ i) : toksF cs n i = [] := by
  cases n with
  | zero => rfl
  | succ n =>
    unfold toksF
    rw [if_neg (by omega)]
theorem one_lt (a b : Nat) : decide ((⟨#[a]⟩ : Str).cps.toList < (⟨#[b]⟩ : Str).cps.toList) = decide (a < b) := by
  rw [decide_eq_decide]
  show ([a] < [b]) ↔ a < b
  simp [List.cons_lt_cons_iff]
theorem str_eq1 (a b : Nat) : decide (V.str ⟨#[a]⟩ = V.str ⟨#[b]⟩) = decide (a = b) := by
  rw [decide_eq_decide]
  simp
theorem inV_long (cs : List Nat) : inV (V.str ⟨cs.toArray⟩) (longSigns.map fun l => V.str ⟨l.toArray⟩) = decide (cs ∈ longSigns) := by
  unfold inV
  rw [Bool.eq_iff_iff, decide_eq_true_eq, List.any_eq_true]
  constructor
  · rintro ⟨v, hv, e⟩
    obtain ⟨l, hl, rfl⟩ := List.mem_map.mp hv
    have e := of_decide_eq_true e
    have : l = cs := by simpa using e
    rw [← this]
    exact hl
  · intro h
    exact ⟨_, List.mem_map.mpr ⟨cs, h, rfl⟩, decide_eq_true rfl⟩
theorem cut_two (z : Str) (i : Nat) (h : i ≤ z.length) : cutS z (some (i : Int)) (some ((i : Int) + 2)) = ⟨((z.cps.toList.drop i).take 2).toArray⟩ := by
  unfold cutS
  have e1 : HT.sIx z.length 0 (some (i : Int)) = i := by
    rw [HT.sIx_nat]
    omega
  have e2 : (i : Int) + 2 = ((i + 2 : Nat) : Int) := by omega
  rw [e1, e2, HT.sIx_nat]
  congr 2
  have hl : (z.cps.toList.drop i).length = z.length - i := by
    rw [List.length_drop, Array.length_toList]
    rfl
  by_cases q : i + 2 ≤ z.length
  · rw [Nat.min_eq_left q]
    congr 1
    omega
  · rw [Nat.min_eq_right (by omega), List.take_of_length_le (by omega), List.take_of_length_le (by omega)]
theorem cut_mid (z : Str) (i j : Nat) (h : j ≤ z.length) (hij : i ≤ j) : cutS z (some (i : Int)) (some (j : Int)) = ⟨((z.cps.toList.drop i).take (j - i)).toArray⟩ := by
  unfold cutS
  rw [HT.sIx_nat, HT.sIx_nat, Nat.min_eq_left h, Nat.min_eq_left (by omega)]
def spRunEnd : Sp := fun vs H Q _ => ∃ (z : Str) (i lo hi : Nat), vs = [.str z, .int i, .str ⟨#[lo]⟩, .str ⟨#[hi]⟩] ∧ z.length ≤ 1000000 ∧ i ≤ z.length ∧ Q (.int (runEnd z.cps.toList i lo hi : Nat)) H
def spTokEnd : Sp := fun vs H Q _ => ∃ (z : Str) (i : Nat), vs = [.str z, .int i] ∧ z.length ≤ 1000000 ∧ i < z.length ∧ Q (.int (tokEnd z.cps.toList i : Nat)) H
/-- a list of pairs of a text and a place -/
def Toks (H : Hp) : List (List Nat × Nat) → List V → Prop
  | [], xs => xs = []
  | p :: ps, xs => ∃ (t : Addr) (ys : List V), xs = .ref t :: ys ∧ H t = some (.tup [.str ⟨p.1.toArray⟩, .int (p.2 : Nat)]) ∧ Toks H ps ys
theorem Toks.lsts {H H' : Hp} (e : Lsts H H') : ∀ {ps : List (List Nat × Nat)} {xs : List V}, Toks H ps xs → Toks H' ps xs
  | [], _, h => h
  | _ :: _, _, ⟨t, ys, h, h1, h2⟩ => ⟨t, ys, h, e _ _ h1 nofun, Toks.lsts e h2⟩
theorem Toks.len {H : Hp} : ∀ {ps : List (List Nat × Nat)} {xs : List V}, Toks H ps xs → ps.length = xs.length
  | [], _, h => by rw [show _ = [] from h]; rfl
  | _ :: _, _, ⟨t, ys, h, h1, h2⟩ => by rw [h, List.length_cons, List.length_cons, Toks.len h2]
theorem Toks.snoc {H : Hp} {t : Addr} {p : List Nat × Nat} (ht : H t = some (.tup [.str ⟨p.1.toArray⟩, .int (p.2 : Nat)])) : ∀ {ps : List (List Nat × Nat)} {xs : List V}, Toks H ps xs → Toks H (ps ++ [p]) (xs ++ [.ref t])
  | [], _, h => by
    rw [show _ = [] from h]
    exact ⟨t, [], rfl, ht, rfl⟩
  | _ :: _, _, ⟨u, ys, h, h1, h2⟩ => ⟨u, ys ++ [.ref t], by rw [h]; rfl, h1, Toks.snoc ht h2⟩
def spTokens : Sp := fun vs H Q _ => ∃ z : Str, vs = [.str z] ∧ z.length ≤ 1000000 ∧ ∀ (l : Addr) (xs : List V) (H' : Hp), Same H H' → H l = none → H' l = some (.lst xs) → Toks H' (toksL z.cps.toList) xs → Q (.ref l) H'
end Own

namespace Own
open PySem PySem.Spec PyProof.Rows L2
theorem pe_gstr {X : Cx} {x z : Str} {pos : Pos} (hg : Gl X x) (hm : ∃ t, X.mg x = some (.str z t)) (hd : (x == ("__debug__" : Str)) = false := by decide) : PE X (.Name x pos) (tC (.str z)) := by
  obtain ⟨t, h⟩ := hm
  exact pe_glob hg h ⟨t, rfl⟩ hd
/-! ### what may stand where in a text of a condition -/
def sATOM : Str := "an atom"
def sSIGN : Str := "the sign of a test"
def sSIDE : Str := "a column or a number"
def sNUMBER : Str := "a number"
def sBEHIND : Str := "what may stand behind an atom"
def aftAtom (w : Str) (cols : List Str) : V := if w ∈ (["~", "("] : List Str) then .str sATOM else if w ∈ (["blank", "every", "none"] : List Str) then .str sBEHIND else if w ∈ cols then .str sSIGN else .non
def aftCol (w : Str) : V := if w ∈ (["=", "!="] : List Str) then .str sSIDE else if w ∈ (["<", "<=", ">", ">="] : List Str) then .str sNUMBER else .non
def aftEnds (w : Str) (d : Int) : V := if w ∈ (["&", "|"] : List Str) then .str sATOM else if w = ")" ∧ d > 0 then .str sBEHIND else .non
/-- a token of digits without a leading zero, with at most thirty digits -/
def isNum (w : Str) : Bool :=
  let d := Txt.removeprefix w "-"
  if d.length = 0 ∨ runEnd d.cps.toList 0 48 57 < d.length ∨ 30 < d.length then false else decide (w = "0") || decide (d.cps.toList[0]? ≠ some 48)
def aft (num : Str → Bool) (cm : Str) (w : Str) (d : Int) (cols : List Str) : V :=
  if cm = sATOM then aftAtom w cols else if cm = sSIGN then aftCol w else if cm = sBEHIND then aftEnds w d
  else if num w = true ∨ (cm = sSIDE ∧ w ∈ cols) then .str sBEHIND else .non
def dep (w : Str) (d : Int) : Int := if w = "(" then d + 1 else if w = ")" then d - 1 else d
def wrongAt (num : Str → Bool) (cols : List Str) (n : Nat) : List (List Nat × Nat) → Str → Int → V
  | [], cm, d => if cm = sBEHIND ∧ d = 0 then .non else .int n
  | p :: ps, cm, d => match aft num cm ⟨p.1.toArray⟩ d cols with
    | .str c => wrongAt num cols n ps c (dep ⟨p.1.toArray⟩ d)
    | _ => .int p.2
theorem aft_cases (num : Str → Bool) (cm w : Str) (d : Int) (cols : List Str) : (∃ c, aft num cm w d cols = .str c) ∨ aft num cm w d cols = .non := by
  unfold aft aftAtom aftCol aftEnds
  repeat (first | exact .inl ⟨_, rfl⟩ | exact .inr rfl | split)
def spAftAtom (K : PySem.W.Frag) : Sp := fun vs H Q _ => ∃ (w : Str) (a : Addr) (cols : List Str), vs = [.str w, .ref a] ∧ SqT K H a (cols.map V.str) ∧ ∀ H', Same H H' → Q (aftAtom w cols) H'
def spAftCol : Sp := fun vs H Q _ => ∃ w : Str, vs = [.str w] ∧ ∀ H', Same H H' → Q (aftCol w) H'
def spAftEnds : Sp := fun vs H Q _ => ∃ (w : Str) (d : Int), vs = [.str w, .int d] ∧ ∀ H', Same H H' → Q (aftEnds w d) H'
def spIsNum : Sp := fun vs H Q _ => ∃ w : Str, vs = [.str w] ∧ w.length ≤ 1000000 ∧ ∀ H', Same H H' → Q (.bl (isNum w)) H'
def spAft (K : PySem.W.Frag) : Sp := fun vs H Q _ => ∃ (cm w : Str) (d : Int) (a : Addr) (cols : List Str), vs = [.str cm, .str w, .int d, .ref a] ∧ w.length ≤ 1000000 ∧ SqT K H a (cols.map V.str) ∧ ∀ H', Same H H' → Q (aft isNum cm w d cols) H'
def spWrong (K : PySem.W.Frag) : Sp := fun vs H Q _ => ∃ (l : Addr) (xs : List V) (ps : List (List Nat × Nat)) (n : Nat) (a : Addr) (cols : List Str), vs = [.ref l, .int n, .ref a] ∧ H l = some (.lst xs) ∧ Toks H ps xs ∧ (∀ p ∈ ps, p.1.length ≤ 1000000) ∧ SqT K H a (cols.map V.str) ∧ ∀ H', Same H H' → Q (wrongAt isNum cols n ps sATOM 0) H'
theorem toks_get {H : Hp} : ∀ {ps : List (List Nat × Nat)} {xs : List V} {i : Nat} {v : V}, Toks H ps xs → xs[i]? = some v → ∃ p t, ps[i]? = some p ∧ v = .ref t ∧ H t = some (.tup [.str ⟨p.1.toArray⟩, .int (p.2 : Nat)])
  | [], _, _, _, h, e => by
    rw [show _ = [] from h] at e
    cases e
  | p :: ps, _, 0, v, ⟨t, ys, h, h1, h2⟩, e => by
    rw [h] at e
    cases e
    exact ⟨p, t, rfl, rfl, h1⟩
  | p :: ps, _, i + 1, v, ⟨t, ys, h, h1, h2⟩, e => by
    rw [h] at e
    obtain ⟨q, u, h3, h4⟩ := toks_get (ps := ps) (xs := ys) (i := i) h2 e
    exact ⟨q, u, h3, h4⟩
end Own

namespace Own
open PySem PySem.Spec PyProof.Rows L2
theorem rempre_len (x y : Str) : (Txt.removeprefix x y).length ≤ x.length := by
  unfold Txt.removeprefix Txt.affix
  split
  · split
    · exact Nat.le_refl _
    · rename_i h _
      split at h
      · cases h
        show (Array.extract _ _ _).size ≤ x.cps.size
        rw [Array.size_extract]
        omega
      · cases h
  · exact Nat.le_refl _
theorem wrong_str {num : Str → Bool} {cols : List Str} {n : Nat} {p : List Nat × Nat} {ps : List (List Nat × Nat)} {cm c : Str} {d : Int} (h : aft num cm ⟨p.1.toArray⟩ d cols = .str c) : wrongAt num cols n (p :: ps) cm d = wrongAt num cols n ps c (dep ⟨p.1.toArray⟩ d) := by
  show (match aft num cm ⟨p.1.toArray⟩ d cols with
    | .str c => wrongAt num cols n ps c (dep ⟨p.1.toArray⟩ d)
    | _ => V.int p.2) = _
  rw [h]
theorem wrong_non {num : Str → Bool} {cols : List Str} {n : Nat} {p : List Nat × Nat} {ps : List (List Nat × Nat)} {cm : Str} {d : Int} (h : aft num cm ⟨p.1.toArray⟩ d cols = .non) : wrongAt num cols n (p :: ps) cm d = .int p.2 := by
  show (match aft num cm ⟨p.1.toArray⟩ d cols with
    | .str c => wrongAt num cols n ps c (dep ⟨p.1.toArray⟩ d)
    | _ => V.int p.2) = _
  rw [h]
theorem toks_small {cs : List Nat} : ∀ {n i : Nat} {p : List Nat × Nat}, p ∈ toksF cs n i → p.1.length ≤ cs.length
  | 0, _, _, h => by cases h
  | n + 1, i, p, h => by
    unfold toksF at h
    split at h
    · rcases List.mem_append.mp h with h | h
      · split at h
        · cases h
        · rw [List.mem_singleton.mp h]
          show (List.take _ _).length ≤ _
          rw [List.length_take, List.length_drop]
          omega
      · exact toks_small h
    · cases h
theorem toks_count {cs : List Nat} : ∀ (n i : Nat), (toksF cs n i).length ≤ n
  | 0, _ => Nat.le_refl _
  | n + 1, i => by
    have ih := toks_count (cs := cs) n (tokEnd cs i)
    unfold toksF
    split
    · rw [List.length_append]
      split
      · rw [List.length_nil]
        omega
      · rw [List.length_singleton]
        omega
    · exact Nat.zero_le _
def cwords (cs : List Nat) : List Str := (toksL cs).map fun p => ⟨p.1.toArray⟩
def spWordsC (K : PySem.W.Frag) : Sp := fun vs H Q _ => ∃ (z : Str) (a : Addr) (cols : List Str), vs = [.str z, .ref a] ∧ z.length ≤ 1000000 ∧ SqT K H a (cols.map V.str) ∧ wrongAt isNum cols z.length (toksL z.cps.toList) sATOM 0 = .non ∧
  ∀ (l : Addr) (H' : Hp), Same H H' → H l = none → H' l = some (.lst ((cwords z.cps.toList).map V.str)) → Q (.ref l) H'
end Own

namespace Own
open PySem PySem.Spec PyProof.Rows L2
/-! ### range(a, b), integers of any size -/
theorem turn_long {P : Program} {w : World} {K : PySem.W.Frag} {tg : Expr} (it : Addr) (lo : Int) (n : Nat) : Turn P w K tg (Itr lo n) [it] it (fun i h => IsLongIter h it (lo + (i : Nat) * 1) ((n : Int) - (i : Nat)) 1) where
  mem := List.mem_singleton.mpr rfl
  obj := fun i h st b hb => by
    have e : b = it := List.mem_singleton.mp hb
    subst e
    refine ⟨_, st, fun v z => ?_⟩
    have z' : Data.fields _ = Data.cell v := z
    cases z'
  keep := fun i h h' st k => k it (List.mem_singleton.mpr rfl) _ st
  item := by
    intro X hP hw hK hc i pins s σ H E I hf st hg
    subst hP hw hK
    obtain ⟨f0, f1, f2, f3, f4, f5⟩ := hf it (List.mem_singleton.mpr rfl)
    refine (Walks.longrange (prog := X.prog) (w := X.w) (I.ok.hd hc) it lo 1 n).item i s _ _ hg st fun v h' tk hv st' kk => ?_
    obtain ⟨t, rfl⟩ := hv
    have I1 : Inv X pins σ H { s with heap := h', toks := tk } := I.turned (fun b o hb e => kk b o (fun q => hb (List.mem_singleton.mp q)) e) f0 f1 f3 f4 f5
    refine ⟨_, rfl, go_of (s := { s with heap := h', toks := tk }) (n := "longrange_iterator") st' rfl rfl (by decide) ⟨.int (lo + i), H, I1, ⟨t, ?_⟩, ⟨rfl, rfl⟩, st', fun b hb => (hf b hb).1⟩⟩
    rw [Int.mul_one]
  done := by
    intro X hP hw hK hc i pins s σ H E I hf st hg
    subst hP hw hK
    obtain ⟨f0, f1, f2, f3, f4, f5⟩ := hf it (List.mem_singleton.mpr rfl)
    exact wpAny_pyNext_long_end (I.ok.hd hc) st (by have : n ≤ i := hg; omega) fun h' eb => ⟨rfl, I.turned (t' := s.toks) (fun b o hb e => eb b o hb e) f0 f1 f3 f4 f5⟩
  self := fun _ _ _ _ _ st h => wpAny_pyIter_longiter st h
section
variable {X : Cx} {tg : Expr}
theorem range_itA {pins : List (Addr × Obj)} {σ : L2.St} {H : Hp} {s : Shared} {R : It → Hp → Prop} {E : Value → Shared → Prop} {lo hi : Int} {t u v : Tok} {tk : Nat} (I : Inv X pins σ H s)
    (q : R (Itr lo (hi - lo).toNat) H) : wpAny (model X.prog X.w) X.A (pyIter (.ref s.heap.objs.size)) (PIE X pins σ tg R) E { s with heap := s.heap.push { cls := .type "range", data := .fields #[.int lo t, .int hi u, .int 1 v] }, toks := tk } := by
  have I1 : Inv X pins σ H { s with heap := s.heap.push { cls := .type "range", data := .fields #[.int lo t, .int hi u, .int 1 v] }, toks := tk } := I.kept fun b o e => Heap.get?_push_of_some _ e
  have e1 : lo + ((0 : Nat) : Int) * 1 = lo := by simp
  have e2 : (((hi - lo).toNat : Nat) : Int) - ((0 : Nat) : Int) = Builtin.Range.rangeSize lo hi 1 := by rw [rangeSize_one]; split <;> omega
  have fp : ∀ b ∈ [(s.heap.push { cls := .type "range", data := .fields #[.int lo t, .int hi u, .int 1 v] }).objs.size], FpOk X pins H b := fun b hb => by
    rw [List.mem_singleton.mp hb]
    exact I1.fpOk (Nat.le_refl _) (I1.hok.fresh (Nat.le_refl _))
  cases hs : Builtin.Range.small lo hi 1 with
  | true =>
    refine wpAny_pyIter_range (IsRange.new ..) hs ?_
    refine ⟨(s.heap.push { cls := .type "range", data := .fields #[.int lo t, .int hi u, .int 1 v] }).objs.size, [(s.heap.push { cls := .type "range", data := .fields #[.int lo t, .int hi u, .int 1 v] }).objs.size], _, _, H, rfl, I1.kept (t' := tk) fun b o e => Heap.get?_push_of_some _ e, turn_range _ lo (hi - lo).toNat, ?_, fp, q⟩
    show IsRangeIter _ _ (lo + ((0 : Nat) : Int) * 1) ((((hi - lo).toNat : Nat) : Int) - ((0 : Nat) : Int)) 1
    rw [e1, e2]
    exact Heap.get?_push_size _ rfl
  | false =>
    refine wpAny_pyIter_longrange (IsRange.new ..) hs ?_
    refine ⟨(s.heap.push { cls := .type "range", data := .fields #[.int lo t, .int hi u, .int 1 v] }).objs.size, [(s.heap.push { cls := .type "range", data := .fields #[.int lo t, .int hi u, .int 1 v] }).objs.size], _, _, H, rfl, I1.kept (t' := tk) fun b o e => Heap.get?_push_of_some _ e, turn_long _ lo (hi - lo).toNat, ?_, fp, q⟩
    show IsLongIter _ _ (lo + ((0 : Nat) : Int) * 1) ((((hi - lo).toNat : Nat) : Int) - ((0 : Nat) : Int)) 1
    rw [e1, e2]
    exact Heap.get?_push_size _ rfl
def iRngA (ta : TA) : TI := fun σ H R => ta σ H fun vs H1 => ∃ i j : Int, vs = [.int i, .int j] ∧ R (Itr i (j - i).toNat) H1
theorem pi_rangeA {a b : Expr} {ta : TA} {p pos : Pos} (hg : Gl X "range") (hm : X.mg "range" = none) (ha : PA X [a, b] ta) (hs : starEach [a, b] X.env = [(false, eval a X.env), (false, eval b X.env)] := by rfl) (hs2 : starEach [b] X.env = [(false, eval b X.env)] := by rfl) :
    PI X tg (.Call (.Name "range" p) [a, b] [] pos) (iRngA ta) := by
  refine ⟨fun pins s σ H R I h => ?_⟩
  refine Call_ (ld_blt I hg hm boot_range (PyProof.Rows.callWith_type1 (thn (ha.run pos pins s σ H _ I h) fun us s1 ⟨vs, H1, I1, r1, i, j, e, q⟩ => ?_) (by rw [hs, hs2]) (by rw [hs2]; rfl)))
  subst e
  obtain ⟨u1, u2, rfl, ⟨t1, rfl⟩, ⟨t2, rfl⟩⟩ := vals2 r1
  exact call_range_2 (range_itA I1 q)
end
end Own

namespace Own
open PySem PySem.Spec PyProof.Rows L2
/-! ### set(l), l a list of ints: the ledger that sorted(set) asks for -/
/-- the object of a set without members -/
abbrev bare0 (w : World) : Obj := { cls := .type "set", dict := none, data := .set #[] 0 (.fresh 0 0 (!w.params.followText "set-order")) }
/-- what set(ns) leaves: a ledger of the members, the rest as it was -/
def Filled (w : World) (s : Shared) (ns : List Int) (s2 : Shared) : Prop :=
  ∃ (h2 : Heap) (tk c : Nat), s2 = { s with heap := h2, toks := tk } ∧ SetR w h2 s.heap.objs.size (fun j => decide (j ∈ ns)) c ∧ c ≤ ns.length ∧ ∀ b o, s.heap.get? b = some o → h2.get? b = some o
section
variable {P : Program} {w : World} {A : Around} {E : Value → Shared → Prop} {s : Shared} {l : Addr} {items : Array Value} {ns : List Int}
/-- the part of set.__init__ that fills -/
theorem fill_list (hh : A.handled = none) (hl : s.heap.IsList l items) (hi : IntsAre items.toList ns) (hb : ns.length + 1 < scanBound) (R : Result → Shared → Prop) (hq : ∀ s2, Filled w s ns s2 → R (.ok (.ret .none)) s2) :
    codeAny (model P w) A (.builtin "set.update.loop" ⟨[.ref s.heap.objs.size, .ref (s.heap.push (bare0 w)).objs.size], []⟩) R
      { s with heap := (s.heap.push (bare0 w)).push { cls := .type "list_iterator", data := .fields #[.ref l, .int 0 0] } } := by
  rw [show (s.heap.push (bare0 w)).objs.size = s.heap.objs.size + 1 from Heap.size_push ..]
  have n1 : items.size = ns.length := (Array.length_toList ..).symm.trans (IntsAre.length hi)
  have lt : l < s.heap.objs.size := let ⟨_, e, _⟩ := hl; Heap.lt_size e
  have sz : (s.heap.push (bare0 w)).objs.size = s.heap.objs.size + 1 := Heap.size_push ..
  have dif : l ≠ s.heap.objs.size + 1 := Nat.ne_of_lt (Nat.lt_succ_of_lt lt)
  have vals : ∀ (i : Nat) (v : Value), items[i]? = some v → ∃ k t, ns[i]? = some k ∧ v = .int k t := fun i v hv => by
    obtain ⟨t, e⟩ := PyProof.Rows.IntsAre.int_at hi i v (by rw [Array.getElem?_toList]; exact hv)
    have q : i < ns.length := n1 ▸ (Array.getElem?_eq_some_iff.mp hv).1
    exact ⟨ns[i], t, List.getElem?_eq_getElem q, by rw [e, List.getD_eq_getElem?_getD, List.getElem?_eq_getElem q] <;> rfl⟩
  have it : ((s.heap.push (bare0 w)).push { cls := .type "list_iterator", data := .fields #[.ref l, .int 0 0] }).get? (s.heap.objs.size + 1) = some { cls := .type "list_iterator", data := .fields #[.ref l, .int 0 0] } := by
    rw [← sz]
    exact Heap.get?_push_size _ rfl
  have st : ((s.heap.push (bare0 w)).push { cls := .type "list_iterator", data := .fields #[.ref l, .int 0 0] }).get? s.heap.objs.size = some (bare0 w) := Heap.get?_push_of_some _ (Heap.get?_push_size _ rfl)
  refine set_update_ints ((Walks.list (A := A.in1) (by simpa using hh) (s.heap.objs.size + 1) l dif items).toS) s.heap.objs.size (fun q => (List.mem_cons.mp q).elim (fun e => Nat.ne_of_lt (Nat.lt_succ_self _) e) fun q => Nat.ne_of_gt lt (List.mem_singleton.mp q)) ns n1 hb vals items.size 0 _ (by omega) (Nat.zero_le _)
    ⟨⟨_, it, rfl, rfl⟩, (hl.push _).push _⟩ ⟨0, Nat.le_refl 0, setR_new_at st⟩ fun s2 c mv hc hS => ?_
  obtain ⟨h2, g2, d2, t2, o2⟩ := s2
  obtain rfl : g2 = s.gens := mv.gens
  obtain rfl : d2 = s.drawn := mv.drawn
  obtain rfl : o2 = s.os := mv.os
  refine hq _ ⟨h2, t2, c, rfl, hS, n1 ▸ hc, fun b o e => ?_⟩
  have b1 : b < s.heap.objs.size := Heap.lt_size e
  exact mv.heap b o (fun q => (List.mem_cons.mp q).elim (fun e => Nat.ne_of_lt b1 e) fun q => Nat.ne_of_lt (Nat.lt_succ_of_lt b1) (List.mem_singleton.mp q)) (Heap.get?_push_of_some _ (Heap.get?_push_of_some _ e))
/-- set(l) -/
theorem set_of_list {Q : Value → Shared → Prop} (hh : A.handled = none) (hl : s.heap.IsList l items) (hi : IntsAre items.toList ns) (hb : ns.length + 1 < scanBound) (hq : ∀ s2, Filled w s ns s2 → Q (.ref s.heap.objs.size) s2) :
    wpAny (model P w) A (call (.type "set") [.ref l]) Q E s := by
  obtain ⟨hd, rest, mro⟩ := F.called_set.mro
  have made := F.called_set.made
  have sub := F.called_set.sub
  have nt := F.called_set.notType
  have cc := F.called_set.canCreate
  have ar := F.typeCall_set_1 (.ref l)
  refine wpAny_call (codeAny_of_tree ?tree)
  case tree =>
    show wpAny _ _ (callAny (.type "set") _) _ _ _
    refine wpAny_pure ⟨Code.quiet_builtin _ (by decide +kernel), codeAny_builtin F.entry_type_call ?run⟩
    case run =>
      rw [Around.under_plain (weight_type_call_type "set" [.ref l] []) rfl]
      repeat (any_goals (first | assumption | wp_step))
      refine codeAny_mono (code_set_led1 (.ref l) (E := E) (Q₁ := fun z s1 => z = .ref s.heap.objs.size ∧ s1 = { s with heap := s.heap.push (bare0 w) }) ⟨rfl, rfl⟩) fun r s1 hr => ?new
      case new =>
        match r, hr with
        | .error e, hr => exact hr
        | .ok (.ret z), hr =>
          obtain ⟨rfl, rfl⟩ := hr
          have at0 : (s.heap.push (bare0 w)).get? s.heap.objs.size = some (bare0 w) := Heap.get?_push_size _ rfl
          have ty0 : Shared.TypeIs { s with heap := s.heap.push (bare0 w) } (.ref s.heap.objs.size) "set" := ⟨_, at0, rfl⟩
          have look := F.called_set.init.lookup
          have bnd := F.called_set.init.bind (.ref s.heap.objs.size)
          repeat (any_goals (first | assumption | wp_step))
          refine codeAny_mono (codeAny_call_builtin (R := wants (fun z s2 => z = .none ∧ Filled w s ns s2) E) F.called_set.init.plain F.entry_set_init (check_set_init_1 ty0 ?ini)) fun r2 s2 hr2 => ?done
          case ini =>
            obtain ⟨⟨oc, od, odt, osl⟩, ho, hc, n, hdt⟩ := id hl
            simp only at hc hdt
            subst hc
            subst hdt
            have ho' := Heap.get?_push_of_some (bare0 w) ho
            have hl1 : (s.heap.push (bare0 w)).IsList l items := ⟨_, ho', rfl, n, rfl⟩
            have f1 := F.sub_list_set
            have f2 := F.sub_list_frozenset
            have f3 : (Value.type "list" == Value.type "dict") = false := by decide
            unfold Builtin.«set.__init__» noKeywords Builtin.Frozenset.updateFrom
            generalize hp : pyIter = PI
            wp_walk
            subst hp
            refine wpAny_pyIter_list hl1 ?_
            refine wpAny_bind (wpAny_runValue ?_)
            refine fill_list (A := A.in1.in1) (by simpa using hh) hl hi hb _ (fun s3 hf => ?_)
            exact wpAny_pure (wpAny_pure ⟨rfl, hf⟩)
          case done =>
            match r2, hr2 with
            | .error e, hr2 => exact hr2
            | .ok (.ret z), hr2 =>
              obtain ⟨rfl, hf⟩ := hr2
              repeat (any_goals (first | assumption | wp_step))
              exact hq _ hf
end
end Own

namespace Own
open PySem PySem.Spec PyProof.Rows L2
/-- set(l), l a list of ints or a tuple of ints -/
def rSetI (K : PySem.W.Frag) (w : World) : List V → Hp → VK → Prop := fun xs H Q => ∃ (l : Addr) (ns : List Int), xs = [.ref l] ∧ (SqL K H l (ns.map V.int) ∨ SqT K H l (ns.map V.int)) ∧ ns.length ≤ 60 ∧
  ∀ (a : Addr) (c : Nat), H a = none → c ≤ ns.length → Q (.ref a) (upd H a (SetO w a (fun j => decide (j ∈ ns)) c))
theorem call_setI {X : Cx} (hc : X.calm = true) : CallR X (.type "set") (rSetI X.K X.w) := by
  intro pins s σ H xs us Q I r h
  obtain ⟨l, ns, rfl, hs, hn, q⟩ := h
  obtain ⟨u, rfl, ru⟩ := vals1 r
  cases ru
  have hb : ns.length + 1 < scanBound := by unfold scanBound; omega
  have hf : H s.heap.objs.size = none := I.hok.fresh (Nat.le_refl _)
  have hd := I.ok.hd hc
  rcases hs with hs | hs
  · obtain ⟨its, rv, pl, hz⟩ := I.list hs
    refine set_of_list (ns := ns) (items := its.toArray) hd pl.isList (ints_of_vals rv) hb fun s2 hF => ?_
    obtain ⟨h2, tk, c, rfl, hS, hcn, hk⟩ := hF
    exact ⟨.ref _, _, I.laid hk (Nat.le_refl _) (setO_new hS), rfl, q _ c hf hcn⟩
  · obtain ⟨its, rv, pt, hz⟩ := I.tuple hs
    refine call_set_tupI ns hd (show s.heap.IsTuple l its.toArray from pt) (ints_of_vals rv) hb fun h2 tk c hS hcn hk => ?_
    exact ⟨.ref _, _, I.laid hk (Nat.le_refl _) (setO_new hS), rfl, q _ c hf hcn⟩
/-! ### ascending, each once -/
theorem asc_nodup {l : List Int} (h : Asc l) : l.Nodup := h.imp fun h => Int.ne_of_lt h
theorem asc_same : ∀ {l m : List Int}, Asc l → Asc m → (∀ x, x ∈ l ↔ x ∈ m) → l = m
  | [], [], _, _, _ => rfl
  | [], y :: m, _, _, h => by
    have := (h y).mpr List.mem_cons_self
    cases this
  | x :: l, [], _, _, h => by
    have := (h x).mp List.mem_cons_self
    cases this
  | x :: l, y :: m, hl, hm, h => by
    obtain ⟨h1, h2⟩ := List.pairwise_cons.mp hl
    obtain ⟨h3, h4⟩ := List.pairwise_cons.mp hm
    have e : x = y := by
      rcases List.mem_cons.mp ((h x).mp List.mem_cons_self) with e | e
      · exact e
      · rcases List.mem_cons.mp ((h y).mpr List.mem_cons_self) with e2 | e2
        · exact e2.symm
        · have := h1 y e2
          have := h3 x e
          omega
    subst e
    rw [asc_same h2 h4 fun z => ?_]
    constructor
    · intro hz
      rcases List.mem_cons.mp ((h z).mp (List.mem_cons_of_mem _ hz)) with e | e
      · have := h1 z hz
        omega
      · exact e
    · intro hz
      rcases List.mem_cons.mp ((h z).mpr (List.mem_cons_of_mem _ hz)) with e | e
      · have := h3 z hz
        omega
      · exact e
end Own

namespace Own
open PySem PySem.Spec PyProof.Rows L2
/-! ### ascending lists of what stands in a list -/
def insA (x : Int) : List Int → List Int
  | [] => [x]
  | y :: l => if x < y then x :: y :: l else if x = y then y :: l else y :: insA x l
def ascL (l : List Int) : List Int := l.foldr insA []
theorem mem_insA {x z : Int} : ∀ {l : List Int}, z ∈ insA x l ↔ z = x ∨ z ∈ l
  | [] => by simp [insA]
  | y :: l => by
    unfold insA
    split
    · simp only [List.mem_cons]
    · split
      · rename_i e
        subst e
        simp only [List.mem_cons]
        exact ⟨.inr, fun h => h.elim .inl id⟩
      · simp only [List.mem_cons, mem_insA (l := l)]
        exact ⟨fun h => h.elim (fun h => .inr (.inl h)) fun h => h.imp id .inr, fun h => h.elim (fun h => .inr (.inl h)) fun h => h.imp id .inr⟩
theorem insA_asc {x : Int} : ∀ {l : List Int}, Asc l → Asc (insA x l)
  | [], _ => List.pairwise_singleton ..
  | y :: l, h => by
    obtain ⟨h1, h2⟩ := List.pairwise_cons.mp h
    unfold insA
    split
    · rename_i hlt
      exact List.pairwise_cons.mpr ⟨fun z hz => by
        rcases List.mem_cons.mp hz with e | e
        · rw [e]; exact hlt
        · exact Int.lt_trans hlt (h1 z e), h⟩
    · split
      · exact h
      · rename_i n1 n2
        exact List.pairwise_cons.mpr ⟨fun z hz => by
          rcases mem_insA.mp hz with e | e
          · omega
          · exact h1 z e, insA_asc h2⟩
theorem ascL_asc : ∀ l : List Int, Asc (ascL l)
  | [] => List.Pairwise.nil
  | x :: l => insA_asc (ascL_asc l)
theorem mem_ascL {z : Int} : ∀ {l : List Int}, z ∈ ascL l ↔ z ∈ l
  | [] => Iff.rfl
  | x :: l => by
    show z ∈ insA x (ascL l) ↔ _
    rw [mem_insA, mem_ascL, List.mem_cons]
/-! ### the spots beside a row -/
def spotsL (ns r : List Int) : List Int := ascL (ns ++ (r ++ freeL ns r))
theorem mem_freeL {ns r : List Int} {x : Int} : x ∈ freeL ns r ↔ ∃ a b, (a, b) ∈ stretchL ns ((r.length : Int) + 1) ∧ freeIn a b r = some x := by
  unfold freeL
  rw [List.mem_filterMap]
  exact ⟨fun ⟨p, h1, h2⟩ => ⟨p.1, p.2, h1, h2⟩, fun ⟨a, b, h1, h2⟩ => ⟨(a, b), h1, h2⟩⟩
theorem mem_spotsL {ns r : List Int} {x : Int} : x ∈ spotsL ns r ↔ Spot ns r x := by
  unfold spotsL Spot
  rw [mem_ascL, List.mem_append, List.mem_append, mem_freeL]
theorem spotsL_asc (ns r : List Int) : Asc (spotsL ns r) := ascL_asc _
/-! ### the length of spots -/
theorem filterMap_len {α β : Type} (f : α → Option β) : ∀ l : List α, (l.filterMap f).length ≤ l.length
  | [] => Nat.le_refl _
  | x :: l => by
    have := filterMap_len f l
    rw [List.filterMap_cons]
    split
    · rw [List.length_cons]; omega
    · rw [List.length_cons, List.length_cons]; omega
theorem stretch_len (ns : List Int) (room : Int) : (stretchL ns room).length ≤ ns.length + 1 := by
  cases ns with
  | nil => exact Nat.le_refl _
  | cons n l =>
    show (pairsOf _).length ≤ _
    rw [pairsOf_len]
    simp only [List.length_append, List.length_cons, List.length_nil]
    omega
theorem freeL_len (ns r : List Int) : (freeL ns r).length ≤ ns.length + 1 := Nat.le_trans (filterMap_len _ _) (stretch_len _ _)
theorem spotsL_len (ns r : List Int) : (spotsL ns r).length ≤ ns.length + (r.length + (ns.length + 1)) := by
  have h := nodup_le (spotsL ns r) (ns ++ (r ++ freeL ns r)) (asc_nodup (spotsL_asc ns r)) fun x hx => mem_ascL.mp hx
  have := freeL_len ns r
  rw [List.length_append, List.length_append] at h
  omega
/-! ### a Kinds, and what its methods promise -/
/-- the numbers are there -/
def NumAt (H : Hp) (C k : Addr) (ns : List Int) : Prop := ∃ dx fs t, H k = some (.ins C dx fs) ∧ fs.lookup ("numbers" : Str) = some (.ref t) ∧ H t = some (.tup (ns.map V.int)) ∧ fs.lookup ("spots" : Str) = none
theorem NumAt.lsts {H H' : Hp} {C k : Addr} {ns : List Int} (h : NumAt H C k ns) (e : Lsts H H') : NumAt H' C k ns := by
  obtain ⟨dx, fs, t, h1, h2, h3, h4⟩ := h
  exact ⟨dx, fs, t, e _ _ h1 nofun, h2, e _ _ h3 nofun, h4⟩
structure KdAt (H : Hp) (C k : Addr) (ns : List Int) (rs : List (List Int)) (l : Addr) (xs : List V) : Prop where
  ob : ∃ dx t, H k = some (.ins C dx [("numbers", .ref t), ("_rows", .ref l)]) ∧ H t = some (.tup (ns.map V.int))
  hl : H l = some (.lst xs)
  hr : Rws H rs xs
theorem KdAt.num {H : Hp} {C k l : Addr} {ns : List Int} {rs : List (List Int)} {xs : List V} (h : KdAt H C k ns rs l xs) : NumAt H C k ns := by
  obtain ⟨dx, t, h1, h2⟩ := h.ob
  exact ⟨dx, _, t, h1, rfl, h2, rfl⟩
def spSpots (C : Addr) : Sp := fun vs H Q _ => ∃ (k : Addr) (v : V) (ns r : List Int), vs = [.ref k, v] ∧ NumAt H C k ns ∧ Asc ns ∧ ns.length ≤ 10 ∧ IntT H v r ∧ r.length ≤ 10 ∧
  ∀ (l : Addr) (H' : Hp), Same H H' → H l = none → H' l = some (.lst ((spotsL ns r).map V.int)) → Q (.ref l) H'
def spKinds (K : PySem.W.Frag) (CT C : Addr) : Sp := fun vs H Q _ => ∃ (k p a dx : Addr) (cs : List V) (ms : List Int), vs = [.ref k, .ref p, .ref a] ∧ H k = some (.ins C dx []) ∧ TabAt H CT p cs ∧ cs.length ≤ 3 ∧
  (SqL K H a (ms.map V.int) ∨ SqT K H a (ms.map V.int)) ∧ ms.length ≤ 10 ∧ ∀ (l : Addr) (xs : List V) (H' : Hp), But k H H' → H l = none → KdAt H' C k (ascL ms) (rowsOf (spotsL (ascL ms)) cs.length) l xs → Q .non H'
def spAlike (K : PySem.W.Frag) (C : Addr) : Sp := fun vs H Q _ => ∃ (k : Addr) (v : V) (ns r : List Int) (x y : Int), vs = [.ref k, v, .int x, .int y] ∧ NumAt H C k ns ∧ ns.length ≤ 10 ∧ IntT H v r ∧ r.length ≤ 10 ∧
  ∀ (H' : Hp) (b : Bool), Same H H' → (b = true ↔ Alike ns r x y) → Q (.bl b) H'
def spSame (K : PySem.W.Frag) (C : Addr) : Sp := fun vs H Q _ => ∃ (k : Addr) (v u : V) (ns r t : List Int), vs = [.ref k, v, u] ∧ NumAt H C k ns ∧ ns.length ≤ 10 ∧ IntT H v r ∧ r.length ≤ 10 ∧ IntT H u t ∧ t.length = r.length ∧
  ∀ (H' : Hp) (b : Bool), Same H H' → (b = true ↔ SameKind ns r t) → Q (.bl b) H'
/-- a method with arguments, by name -/
theorem pe_calM {X : Cx} {k : Nat} {C f : Addr} {m : Str} {fd : FuncData} {ps : List Str} {sp : Sp} {o e : Expr} {es : List Expr} {ta : TE} {t : TA} {apos pos : Pos} {pl : Sem Bool} (he : PE X o ta) (cl : Cls X.K C) (c : CalM X.prog X.w X.K X.mg X.base CX0 k C m f fd ps sp) (hr : Room k X.A) (ha : PA X (e :: es) t)
    (hst : starEach (e :: es) X.env = (false, eval e X.env) :: starEach es X.env := by rfl) (hpl : (backTo pos (starEach es X.env)).any (·.1) = false := by rfl)
    (ht : eval (.Call (.Attribute o m apos) (e :: es) [] pos) X.env = (do
      let ov ← eval o X.env
      standAt apos.atName
      let (f, first) ← holding [ov] (getMethod ov m pl)
      callWith pos f first (backTo pos (starEach (e :: es) X.env)) (backToKw pos (keywordEach [] X.env))) := by rfl) :
    PE X (.Call (.Attribute o m apos) (e :: es) [] pos) (tMeth C m sp [] E0 ta t) := pe_meth (pl := pl) he cl c.mt c.ok hr c.b .nil pass0 ha hst hpl ht
/-! ### views as data -/
def placeL (ns : List Int) (x : Int) : PyData := .list (ns.map (placeD x))
def equalsL (r : List Int) (x : Int) : PyData := .list (r.map fun n => .bool (decide (x = n)))
theorem eqvAll_iff : ∀ {ds es : List PyData}, PyData.eqvAll ds es = true ↔ ds.length = es.length ∧ ∀ p ∈ ds.zip es, PyData.eqv p.1 p.2 = true
  | [], [] => by simp [PyData.eqvAll]
  | [], _ :: _ => by simp [PyData.eqvAll]
  | _ :: _, [] => by simp [PyData.eqvAll]
  | d :: ds, e :: es => by
    simp only [PyData.eqvAll, Bool.and_eq_true, eqvAll_iff (ds := ds) (es := es), List.length_cons, List.zip_cons_cons, List.mem_cons, forall_eq_or_imp]
    constructor
    · rintro ⟨h1, h2, h3⟩
      exact ⟨by rw [h2], h1, h3⟩
    · rintro ⟨h2, h1, h3⟩
      exact ⟨h1, by omega, h3⟩
theorem zip_map2 {α β γ δ : Type} (f : α → γ) (g : β → δ) (l : List α) (m : List β) {P : γ × δ → Prop} : (∀ p ∈ (l.map f).zip (m.map g), P p) ↔ ∀ p ∈ l.zip m, P (f p.1, g p.2) := by
  rw [List.zip_map]
  constructor
  · intro h p hp
    exact h (f p.1, g p.2) (List.mem_map.mpr ⟨p, hp, rfl⟩)
  · intro h p hp
    obtain ⟨q, hq, rfl⟩ := List.mem_map.mp hp
    exact h q hq
theorem zip_self {α : Type} {l : List α} {P : α × α → Prop} : (∀ p ∈ l.zip l, P p) ↔ ∀ x ∈ l, P (x, x) := by
  induction l with
  | nil => simp
  | cons a l ih => simp only [List.zip_cons_cons, List.mem_cons, forall_eq_or_imp, ih]
theorem eqv_place (ns : List Int) (x y : Int) : PyData.eqv (placeL ns x) (placeL ns y) = true ↔ Side ns x y := by
  unfold placeL
  simp only [PyData.eqv]
  rw [eqvAll_iff, List.length_map, List.length_map, zip_map2, zip_self]
  unfold Side placeD
  simp only [PyData.eqv, PyData.eqvAll, Bool.and_true, Bool.and_eq_true, true_and, beq_iff_eq, decide_eq_decide]
theorem eqv_equals (r t : List Int) (x y : Int) : PyData.eqv (equalsL r x) (equalsL t y) = true ↔ r.length = t.length ∧ ∀ p ∈ r.zip t, (x = p.1 ↔ y = p.2) := by
  unfold equalsL
  simp only [PyData.eqv]
  rw [eqvAll_iff, List.length_map, List.length_map, zip_map2]
  simp only [PyData.eqv, beq_iff_eq, decide_eq_decide]
theorem eqv_places (ns r t : List Int) : PyData.eqv (.list (r.map (placeL ns))) (.list (t.map (placeL ns))) = true ↔ r.length = t.length ∧ ∀ p ∈ r.zip t, Side ns p.1 p.2 := by
  simp only [PyData.eqv]
  rw [eqvAll_iff, List.length_map, List.length_map, zip_map2]
  simp only [eqv_place]
theorem eqv_equalss (r t : List Int) : PyData.eqv (.list (r.map (equalsL r))) (.list (t.map (equalsL t))) = true ↔ r.length = t.length ∧ ∀ p ∈ r.zip t, ∀ q ∈ r.zip t, (p.1 = q.1 ↔ p.2 = q.2) := by
  simp only [PyData.eqv]
  rw [eqvAll_iff, List.length_map, List.length_map, zip_map2]
  simp only [eqv_equals]
  exact ⟨fun ⟨h1, h2⟩ => ⟨h1, fun p hp => (h2 p hp).2⟩, fun ⟨h1, h2⟩ => ⟨h1, fun p hp => ⟨h1, h2 p hp⟩⟩⟩
theorem same_iff {ns r t : List Int} (e : r.length = t.length) : SameKind ns r t ↔ PyData.eqv (.list (r.map (placeL ns))) (.list (t.map (placeL ns))) = true ∧ PyData.eqv (.list (r.map (equalsL r))) (.list (t.map (equalsL t))) = true := by
  rw [eqv_places, eqv_equalss]
  exact ⟨fun h => ⟨⟨e, h.side⟩, e, h.eqs⟩, fun ⟨⟨_, h1⟩, _, h2⟩ => ⟨e, h1, h2⟩⟩
theorem alike_iff {ns r : List Int} {x y : Int} : Alike ns r x y ↔ PyData.eqv (placeL ns x) (placeL ns y) = true ∧ PyData.eqv (equalsL r x) (equalsL r y) = true := by
  rw [eqv_place, eqv_equals, zip_self]
  exact ⟨fun h => ⟨h.1, rfl, h.2⟩, fun h => ⟨h.1, h.2.2⟩⟩
theorem lay_all {k : Nat} : ∀ {ds : List PyData}, (∀ d ∈ ds, d.canLay0 = true ∧ d.depth ≤ k) → PyData.canLayAll0 ds = true ∧ PyData.depthAll ds ≤ k
  | [], _ => by simp [PyData.canLayAll0, PyData.depthAll]
  | d :: ds, h => by
    obtain ⟨h1, h2⟩ := lay_all (ds := ds) fun e he => h e (List.mem_cons_of_mem _ he)
    obtain ⟨h3, h4⟩ := h d List.mem_cons_self
    simp only [PyData.canLayAll0, PyData.depthAll, h1, h3]
    exact ⟨rfl, by omega⟩
theorem lay_list {k : Nat} {ds : List PyData} (h : ∀ d ∈ ds, d.canLay0 = true ∧ d.depth ≤ k) : (PyData.list ds).canLay0 = true ∧ (PyData.list ds).depth ≤ k + 1 := by
  obtain ⟨h1, h2⟩ := lay_all h
  simp only [PyData.canLay0, PyData.depth]
  exact ⟨h1, by omega⟩
theorem lay_tup {k : Nat} {ds : List PyData} (h : ∀ d ∈ ds, d.canLay0 = true ∧ d.depth ≤ k) : (PyData.tuple ds).canLay0 = true ∧ (PyData.tuple ds).depth ≤ k + 1 := by
  obtain ⟨h1, h2⟩ := lay_all h
  simp only [PyData.canLay0, PyData.depth]
  exact ⟨h1, by omega⟩
theorem lay_shaped {k : Nat} {d : PyData} (h : d.canLay0 = true ∧ d.depth ≤ k) (hk : k ≤ 64) : SeqAt.shaped d = true := by
  unfold SeqAt.shaped
  rw [h.1, Bool.true_and, decide_eq_true_eq]
  omega
theorem lay_bool (b : Bool) : (PyData.bool b).canLay0 = true ∧ (PyData.bool b).depth ≤ 0 := by simp [PyData.canLay0, PyData.depth]
theorem lay_placeL (ns : List Int) (x : Int) : (placeL ns x).canLay0 = true ∧ (placeL ns x).depth ≤ 2 := lay_list fun d hd => by
  obtain ⟨n, _, rfl⟩ := List.mem_map.mp hd
  refine lay_tup fun e he => ?_
  simp only [List.mem_cons, List.not_mem_nil, or_false] at he
  rcases he with rfl | rfl <;> exact lay_bool _
theorem lay_equalsL (r : List Int) (x : Int) : (equalsL r x).canLay0 = true ∧ (equalsL r x).depth ≤ 1 := lay_list fun d hd => by
  obtain ⟨n, _, rfl⟩ := List.mem_map.mp hd
  exact lay_bool _
/-! ### a walk over a list that stands still, whatever a turn is -/
theorem walk_list {K : PySem.W.Frag} {a : Addr} {xs : List V} {H0 : Hp} {Qd : Hp → Prop} {Body : V → Hp → (Hp → Prop) → Prop} (Pv : Nat → Hp → Prop) (h0 : Pv 0 H0) (hl : ∀ i H, i ≤ xs.length → Pv i H → SqL K H a xs)
    (hs : ∀ i x H, xs[i]? = some x → Pv i H → Body x H (Pv (i + 1))) (hd : ∀ H, Pv xs.length H → Qd H) :
    ∃ W : Nat → Nat → Hp → Prop, (∃ m, W 0 m H0) ∧ ∀ i m H, W i m H → ((Itl K a).stop i H ∧ Qd H) ∨ ((Itl K a).go i H ∧ ∃ Nx : Hp → Prop, (∀ H', Nx H' → ∃ m', m' < m ∧ W (i + 1) m' H') ∧ ∀ x H', (Itl K a).yld i H x H' → Body x H' Nx) := by
  refine ⟨fun i m H => m = xs.length - i ∧ i ≤ xs.length ∧ Pv i H, ⟨_, rfl, Nat.zero_le _, h0⟩, ?_⟩
  rintro i m H ⟨rfl, hi, p⟩
  have st := hl i H hi p
  rcases Nat.lt_or_ge i xs.length with lt | ge
  · have at_ : xs[i]? = some xs[i] := List.getElem?_eq_getElem lt
    exact .inr ⟨⟨xs, xs[i], st, at_⟩, Pv (i + 1), fun H' p' => ⟨xs.length - (i + 1), by omega, rfl, lt, p'⟩, fun x H' ⟨e, y⟩ => by
      subst e
      exact hs i x _ (y xs st) p⟩
  · obtain rfl : i = xs.length := by omega
    exact .inl ⟨⟨xs, st, ge⟩, hd H p⟩
/-! ### how many rows there are -/
theorem rows_bound {ns : List Int} (hn : ns.length ≤ 10) : ∀ k, k ≤ 3 → (rowsOf (spotsL ns) k).length ≤ 24 ^ k
  | 0, _ => Nat.le_refl _
  | k + 1, hk => by
    have ih := rows_bound hn k (by omega)
    have one : ∀ l : List (List Int), (∀ r ∈ l, r.length ≤ 3) → (l.flatMap fun r => (spotsL ns r).map fun s => r ++ [s]).length ≤ l.length * 24 := by
      intro l
      induction l with
      | nil => intro _; exact Nat.le_refl _
      | cons r l ih =>
        intro h
        rw [List.flatMap_cons, List.length_append, List.length_map, List.length_cons]
        have h1 := ih fun x hx => h x (List.mem_cons_of_mem _ hx)
        have h2 := spotsL_len ns r
        have h3 := h r List.mem_cons_self
        omega
    show ((rowsOf (spotsL ns) k).flatMap fun r => (spotsL ns r).map fun s => r ++ [s]).length ≤ 24 ^ (k + 1)
    have h1 := one (rowsOf (spotsL ns) k) fun r hr => by
      have := rows_len hr
      omega
    rw [Nat.pow_succ]
    have h2 := Nat.mul_le_mul_right 24 ih
    omega
theorem rows_small {ns : List Int} (hn : ns.length ≤ 10) {k : Nat} (hk : k ≤ 3) : (rowsOf (spotsL ns) k).length < sizeLine := by
  have h1 := rows_bound hn k hk
  have h2 : 24 ^ k ≤ 24 ^ 3 := Nat.pow_le_pow_right (by decide) hk
  have h3 : 24 ^ 3 < sizeLine := by rw [sizeLine_eq]; decide
  omega
theorem rws_keep {H H' : Hp} (h : ∀ x xs, H x = some (.tup xs) → H' x = some (.tup xs)) : ∀ {rs : List (List Int)} {xs : List V}, Rws H rs xs → Rws H' rs xs
  | [], _, e => e
  | _ :: _, _, ⟨y, ys, e, ⟨t, h1, h2⟩, h3⟩ => ⟨y, ys, e, ⟨t, h1, h _ _ h2⟩, rws_keep h h3⟩
/-- the places of an integer stand on no list -/
theorem place_bs {H : Hp} {bs bs' : List Addr} (hA : AllLst H bs') {x : Int} : ∀ {ns : List Int} {acc : List V}, DqA H bs (ns.map (placeD x)) acc → DqA H bs' (ns.map (placeD x)) acc
  | [], acc, h => by simpa only [List.map_nil, DqA] using h
  | n :: ns, acc, h => by
    simp only [List.map_cons, DqA] at h ⊢
    obtain ⟨y, ys, rfl, h1, h2⟩ := h
    refine ⟨y, ys, rfl, ?_, place_bs hA h2⟩
    simp only [placeD, Dq, DqA] at h1 ⊢
    obtain ⟨a, xs, e1, _, e2, q⟩ := h1
    exact ⟨a, xs, e1, hA.tup e2, e2, q⟩
theorem place_dq {H : Hp} {l D : Addr} {acc : List V} {ns : List Int} {x : Int} (hl : H l = some (.lst acc)) (h : DqA H [l] (ns.map (placeD x)) acc) (n : l ≠ D) (hD : ∃ ys, H D = some (.lst ys)) : Dq H [D] (placeL ns x) (.ref l) := by
  unfold placeL
  simp only [Dq]
  exact ⟨l, acc, rfl, fun q => n (List.mem_singleton.mp q), hl, place_bs (fun y hy => by rw [List.mem_singleton.mp hy]; exact hD) h⟩
theorem bools_dq {H : Hp} {bs : List Addr} {x : Int} : ∀ {r : List Int}, DqA H bs (r.map fun n => PyData.bool (decide (x = n))) (r.map fun n => V.bl (decide (x = n)))
  | [] => by simp only [List.map_nil, DqA]
  | n :: r => by
    simp only [List.map_cons, DqA, Dq]
    exact ⟨_, _, rfl, rfl, bools_dq⟩
theorem equals_dq {H : Hp} {l D : Addr} {r : List Int} {x : Int} (hl : H l = some (.lst (r.map fun n => V.bl (decide (x = n))))) (n : l ≠ D) : Dq H [D] (equalsL r x) (.ref l) := by
  unfold equalsL
  simp only [Dq]
  exact ⟨l, _, rfl, fun q => n (List.mem_singleton.mp q), hl, bools_dq⟩
end Own

namespace Own
open PySem PySem.Spec PyProof.Rows L2
/-! ### views of rows: how each part stands to the numbers and to the parts ahead of it -/
def cmpI (x n : Int) : Int := if x < n then 0 else if x = n then 1 else 2
def eqI (x v : Int) : Int := if v = x then 3 else 4
def vw (ns : List Int) : List Int → List Int → List Int
  | _, [] => []
  | pre, x :: r => ns.map (cmpI x) ++ (pre.map (eqI x) ++ vw ns (pre ++ [x]) r)
def viewL (ns r : List Int) : List Int := vw ns [] r
theorem cmp_side (ns : List Int) (x y : Int) : ns.map (cmpI x) = ns.map (cmpI y) ↔ Side ns x y := by
  rw [List.map_inj_left]
  constructor
  · intro h n hn
    have q := h n hn
    unfold cmpI at q
    split at q <;> split at q <;> (try split at q) <;> (try split at q) <;> constructor <;> constructor <;> intro _ <;> omega
  · intro h n hn
    obtain ⟨h1, h2⟩ := h n hn
    unfold cmpI
    simp only [h1, h2]
theorem eq_zip {x y : Int} : ∀ {r t : List Int}, r.length = t.length → (r.map (eqI x) = t.map (eqI y) ↔ ∀ p ∈ r.zip t, (x = p.1 ↔ y = p.2))
  | [], [], _ => by simp
  | [], _ :: _, h => by cases h
  | _ :: _, [], h => by cases h
  | u :: r, v :: t, h => by
    have ih := eq_zip (x := x) (y := y) (r := r) (t := t) (Nat.succ.inj h)
    simp only [List.map_cons, List.cons.injEq, List.zip_cons_cons, List.mem_cons, forall_eq_or_imp, ih]
    have e : (eqI x u = eqI y v) ↔ (x = u ↔ y = v) := by
      unfold eqI
      constructor
      · intro q
        split at q <;> split at q <;> constructor <;> intro _ <;> omega
      · intro q
        split <;> split <;> omega
    rw [e]
theorem SameKind.pre {ns a a' b b' : List Int} (h : SameKind ns (a ++ b) (a' ++ b')) (e : a.length = a'.length) : SameKind ns a a' := by
  have z : (a ++ b).zip (a' ++ b') = a.zip a' ++ b.zip b' := List.zip_append e
  have s := h.side
  have q := h.eqs
  rw [z] at s q
  exact ⟨e, fun p hp => s p (List.mem_append_left _ hp), fun p hp r hr => q p (List.mem_append_left _ hp) r (List.mem_append_left _ hr)⟩
theorem vw_iff {ns : List Int} : ∀ {r t a a' : List Int}, r.length = t.length → SameKind ns a a' → (vw ns a r = vw ns a' t ↔ SameKind ns (a ++ r) (a' ++ t))
  | [], [], a, a', _, h => by
    rw [List.append_nil, List.append_nil]
    exact ⟨fun _ => h, fun _ => rfl⟩
  | [], _ :: _, _, _, e, _ => by cases e
  | _ :: _, [], _, _, e, _ => by cases e
  | x :: r, y :: t, a, a', e, h => by
    have e2 : r.length = t.length := Nat.succ.inj e
    have ea : (a ++ [x]) ++ r = a ++ x :: r := by rw [List.append_assoc]; rfl
    have eb : (a' ++ [y]) ++ t = a' ++ y :: t := by rw [List.append_assoc]; rfl
    unfold vw
    constructor
    · intro q
      obtain ⟨q1, q2⟩ := List.append_inj q (by rw [List.length_map, List.length_map])
      obtain ⟨q3, q4⟩ := List.append_inj q2 (by rw [List.length_map, List.length_map, h.len])
      have k := h.snoc ((cmp_side ns x y).mp q1) ((eq_zip h.len).mp q3)
      rw [← ea, ← eb]
      exact (vw_iff e2 k).mp q4
    · intro k
      rw [← ea, ← eb] at k
      have k1 := SameKind.pre k (by rw [List.length_append, List.length_append, h.len]; rfl)
      obtain ⟨_, k2, k3⟩ := k1.unsnoc
      rw [(cmp_side ns x y).mpr k2, (eq_zip h.len).mpr k3, (vw_iff e2 k1).mpr k]
theorem view_iff {ns r t : List Int} (e : r.length = t.length) : viewL ns r = viewL ns t ↔ SameKind ns r t := vw_iff e SameKind.nil
theorem SameKind.symm {ns r t : List Int} (h : SameKind ns r t) : SameKind ns t r := (view_iff h.len.symm).mp ((view_iff h.len).mpr h).symm
theorem SameKind.rfl' (ns r : List Int) : SameKind ns r r := (view_iff rfl).mp rfl
theorem vw_len {ns : List Int} : ∀ (r a : List Int), (vw ns a r).length ≤ r.length * (ns.length + (a.length + r.length))
  | [], _ => Nat.zero_le _
  | x :: r, a => by
    have ih := vw_len (ns := ns) r (a ++ [x])
    unfold vw
    rw [List.length_append, List.length_append, List.length_map, List.length_map]
    rw [List.length_append] at ih
    have e : [x].length = 1 := rfl
    rw [e] at ih
    rw [List.length_cons]
    have e2 : a.length + 1 + r.length = a.length + (r.length + 1) := by omega
    rw [e2] at ih
    rw [Nat.succ_mul]
    omega
/-- what stands behind the first parts -/
theorem vw_app {ns : List Int} : ∀ (r t a : List Int), vw ns a (r ++ t) = vw ns a r ++ vw ns (a ++ r) t
  | [], t, a => by rw [List.append_nil]; rfl
  | x :: r, t, a => by
    have e1 : ∀ (b : List Int) (y : Int) (l : List Int), vw ns b (y :: l) = ns.map (cmpI y) ++ (b.map (eqI y) ++ vw ns (b ++ [y]) l) := fun _ _ _ => rfl
    rw [List.cons_append, e1, e1, vw_app r t (a ++ [x]), List.append_assoc, List.append_assoc, List.append_assoc]
    rfl
theorem view_snoc (ns r : List Int) (x : Int) : viewL ns (r ++ [x]) = viewL ns r ++ (ns.map (cmpI x) ++ r.map (eqI x)) := by
  unfold viewL
  rw [vw_app, List.nil_append]
  show vw ns [] r ++ (ns.map (cmpI x) ++ (r.map (eqI x) ++ [])) = _
  rw [List.append_nil]
theorem pow10_cast : ∀ n : Nat, (10 : Int) ^ n = ((10 ^ n : Nat) : Int)
  | 0 => rfl
  | n + 1 => by
    rw [Int.pow_succ, pow10_cast n, Nat.pow_succ, Int.natCast_mul]
    rfl
theorem pow10_le {a b : Nat} (h : a ≤ b) : (10 : Int) ^ a ≤ 10 ^ b := by
  rw [pow10_cast, pow10_cast]
  exact Int.ofNat_le.mpr (Nat.pow_le_pow_right (by decide) h)
/-! ### what the laws' own defs promise -/
def spLongB : Sp := fun vs H Q _ => ∃ (b : Addr) (m : Int), vs = [.ref b, .int m] ∧ Bag H b ∧ 0 < m ∧ m ≤ 33 ∧ ∀ (n : Int) (H' : Hp), n.natAbs < 10 ^ 198 → But b H H' → Bag H' b → Q (.int n) H'
def spNums : Sp := fun vs H Q _ => ∃ b, vs = [.ref b] ∧ Bag H b ∧ ∀ (ns : List Int) (l : Addr) (H' : Hp), Asc ns → ns.length ≤ 4 → (∀ n ∈ ns, n.natAbs < 10 ^ 199) → H l = none → l ≠ b → H' l = some (.lst (ns.map V.int)) → But b H H' → Bag H' b → Q (.ref l) H'
def spRowN : Sp := fun vs H Q _ => ∃ (b l : Addr) (m : Nat) (ns : List Int), vs = [.ref b, .int m, .ref l] ∧ Bag H b ∧ 1 ≤ m ∧ m ≤ 3 ∧ H l = some (.lst (ns.map V.int)) ∧ l ≠ b ∧ ns.length ≤ 4 ∧ (∀ n ∈ ns, n.natAbs < 10 ^ 199) ∧
  ∀ (r : List Int) (t : Addr) (H' : Hp), r.length = m → (∀ n ∈ r, n.natAbs < 10 ^ 200) → H t = none → H' t = some (.tup (r.map V.int)) → But b H H' → Bag H' b → Q (.ref t) H'
def spView : Sp := fun vs H Q _ => ∃ (v : V) (l : Addr) (r ns : List Int), vs = [v, .ref l] ∧ IntT H v r ∧ H l = some (.lst (ns.map V.int)) ∧ r.length ≤ 3 ∧ ns.length ≤ 4 ∧
  ∀ (t : Addr) (H' : Hp), Same H H' → H t = none → H' t = some (.tup ((viewL ns r).map V.int)) → Q (.ref t) H'
theorem pickH {P : Hp → Prop} (R : Hp → Prop) {G : Prop} (main : (∀ H, R H → P H) → G) (rest : ∀ H, R H → P H) : G := main rest
theorem hu1 {k : Nat} {A : Around} (hr : Room k A) : A.units + 1 < cLine := by have := hr.un; omega
/-! ### rows by their views -/
def keyV (v : List Int) : List Key := v.map Sum.inl
theorem keyV_kV (v : List Int) : (keyV v).map kV = v.map V.int := by
  unfold keyV
  rw [List.map_map]
  rfl
theorem keyV_inj {u v : List Int} (h : keyV u = keyV v) : u = v := (List.map_inj_right fun _ _ h => Sum.inl.inj h).mp h
def kvsOf (ns : List Int) (rs : List (List Int)) (xs : List V) : List (List Key × V) := (rs.zip xs).map fun p => (keyV (viewL ns p.1), p.2)
theorem kvs_len {ns : List Int} {rs : List (List Int)} {xs : List V} (h : rs.length = xs.length) : (kvsOf ns rs xs).length = rs.length := by
  unfold kvsOf
  rw [List.length_map, List.length_zip]
  omega
theorem kvs_none {ns : List Int} {k : List Key} : ∀ {rs : List (List Int)} {xs : List V}, (∀ r ∈ rs, keyV (viewL ns r) ≠ k) → valV (kvsOf ns rs xs) k = none
  | [], _, _ => rfl
  | _ :: _, [], _ => rfl
  | r :: rs, x :: xs, h => by
    show valV ((keyV (viewL ns r), x) :: kvsOf ns rs xs) k = none
    rw [valV_neg (h r List.mem_cons_self)]
    exact kvs_none fun q hq => h q (List.mem_cons_of_mem _ hq)
theorem kvs_some {H : Hp} {ns : List Int} {t : List Int} : ∀ {rs : List (List Int)} {xs : List V}, Rws H rs xs → t ∈ rs → (∀ r ∈ rs, viewL ns r = viewL ns t → r = t) → ∃ v, valV (kvsOf ns rs xs) (keyV (viewL ns t)) = some v ∧ IntT H v t
  | [], _, _, h, _ => by cases h
  | r :: rs, xs, ⟨y, ys, e, h1, h2⟩, ht, hi => by
    rw [e]
    show ∃ v, valV ((keyV (viewL ns r), y) :: kvsOf ns rs ys) (keyV (viewL ns t)) = some v ∧ IntT H v t
    by_cases q : keyV (viewL ns r) = keyV (viewL ns t)
    · rw [valV_pos (p := (keyV (viewL ns r), y)) q]
      have := hi r List.mem_cons_self (keyV_inj q)
      exact ⟨y, rfl, this ▸ h1⟩
    · rw [valV_neg (p := (keyV (viewL ns r), y)) q]
      rcases List.mem_cons.mp ht with e2 | ht
      · rw [e2] at q
        exact absurd rfl q
      · exact kvs_some h2 ht fun s hs => hi s (List.mem_cons_of_mem _ hs)
theorem kvs_snoc {ns : List Int} : ∀ {rs : List (List Int)} {xs : List V} {r : List Int} {x : V}, rs.length = xs.length → kvsOf ns (rs ++ [r]) (xs ++ [x]) = kvsOf ns rs xs ++ [(keyV (viewL ns r), x)]
  | [], [], _, _, _ => rfl
  | [], _ :: _, _, _, h => by cases h
  | _ :: _, [], _, _, h => by cases h
  | r :: rs, x :: xs, s, y, h => by
    show (keyV (viewL ns r), x) :: kvsOf ns (rs ++ [s]) (xs ++ [y]) = (keyV (viewL ns r), x) :: (kvsOf ns rs xs ++ _)
    rw [kvs_snoc (Nat.succ.inj h)]
/-- the rows of all kinds have views of their own -/
theorem rows_views {ns : List Int} (h : Asc ns) {k : Nat} {r t : List Int} (hr : r ∈ rowsOf (spotsL ns) k) (ht : t ∈ rowsOf (spotsL ns) k) (e : viewL ns r = viewL ns t) : r = t := by
  have hl : r.length = t.length := by rw [rows_len hr, rows_len ht]
  obtain ⟨u, hu, hk, one⟩ := kind_one h (fun r s => mem_spotsL) k t (rows_len ht)
  have h1 := one r hr (SameKind.symm ((view_iff hl).mp e))
  have h2 := one t ht (SameKind.rfl' ns t)
  rw [h1, h2]
theorem rows_nd (ns : List Int) (k : Nat) : (rowsOf (spotsL ns) k).Nodup := rows_nodup (fun r => asc_nodup (spotsL_asc ns r)) k
/-- each row has one of its kind among them -/
theorem rows_has {ns : List Int} (h : Asc ns) {k : Nat} {v : List Int} (hv : v.length = k) : ∃ t ∈ rowsOf (spotsL ns) k, viewL ns v = viewL ns t := by
  obtain ⟨u, hu, hk, _⟩ := kind_one h (fun r s => mem_spotsL) k v hv
  exact ⟨u, hu, (view_iff hk.len).mpr hk⟩
theorem asc_self {l : List Int} (h : Asc l) : ascL l = l := asc_same (ascL_asc l) h fun _ => mem_ascL
end Own

namespace Own
open PySem PySem.Spec PyProof.Rows L2
/-! ### data that may be shown, with long integers -/
structure Shw (d : PyData) : Prop where
  lay : d.canLay0 = true
  dep : d.depth ≤ 3
  sh : d.showable = true
  nd : d.hasDict = false
  sz : d.shown.length ≤ 700
theorem shw_int {i : Int} (h : i.natAbs < 10 ^ 202) : Shw (.int i) := by
  refine ⟨by simp only [PyData.canLay0], by simp only [PyData.depth]; omega, ?_, by simp only [PyData.hasDict], ?_⟩
  · simp only [PyData.showable, decide_eq_true_eq]
    by_cases z : i.natAbs = 0
    · rw [z]
      decide
    · have e : (10 : Nat) ^ 202 ≤ 2 ^ 1920 := by decide +kernel
      exact (Nat.log2_lt z).mpr (Nat.lt_of_lt_of_le h e)
  · have e := int_text_length_le10 (k := 202) (by decide) h
    show (Str.ofString (toString i)).length ≤ 700
    rw [PySem.ofString_length]
    omega
theorem shw_nice {d : PyData} (h : Nice d) : Shw d := ⟨h.lay, h.dep, h.sh, h.nd, Nat.le_trans h.sz (by decide)⟩
theorem shw_all : ∀ {ds : List PyData}, (∀ d ∈ ds, Shw d) → PyData.canLayAll0 ds = true ∧ PyData.depthAll ds ≤ 3 ∧ PyData.showableAll ds = true ∧ PyData.hasDictAll ds = false ∧ ((PyData.shownAll ds).map (·.length)).sum ≤ 700 * ds.length ∧ (PyData.shownAll ds).length = ds.length
  | [], _ => ⟨by simp only [PyData.canLayAll0], by simp only [PyData.depthAll]; omega, by simp only [PyData.showableAll], by simp only [PyData.hasDictAll], by simp [PyData.shownAll], by simp [PyData.shownAll]⟩
  | d :: r, h => by
    have hd := h d List.mem_cons_self
    obtain ⟨g1, g2, g3, g4, g5, g6⟩ := shw_all (ds := r) fun x hx => h x (List.mem_cons_of_mem _ hx)
    have k1 := hd.dep
    have k2 := hd.sz
    refine ⟨by simp only [PyData.canLayAll0, hd.lay, g1, Bool.and_self], by simp only [PyData.depthAll]; omega, by simp only [PyData.showableAll, hd.sh, g3, Bool.and_self], by simp only [PyData.hasDictAll, hd.nd, g4, Bool.or_self], ?_, by simp only [PyData.shownAll, List.length_cons, g6]⟩
    simp only [PyData.shownAll, List.map_cons, List.sum_cons, List.length_cons]
    omega
theorem shw_list {ds : List PyData} (h : ∀ d ∈ ds, Shw d) (hl : ds.length ≤ 100) : SeqAt.shaped (.list ds) = true ∧ (PyData.list ds).showable = true ∧ (PyData.list ds).hasDict = false ∧ (PyData.list ds).depth ≤ 60 ∧ (PyData.list ds).shown.length ≤ sizeLine := by
  obtain ⟨g1, g2, g3, g4, g5, g6⟩ := shw_all h
  refine ⟨?_, by simp only [PyData.showable, g3], by simp only [PyData.hasDict, g4], by simp only [PyData.depth]; omega, ?_⟩
  · unfold SeqAt.shaped
    simp only [PyData.canLay0, PyData.depth, g1, Bool.true_and]
    exact decide_eq_true (by omega)
  · simp only [PyData.shown]
    have q := listText_len_le (PyData.shownAll ds)
    refine Nat.le_trans q ?_
    rw [sizeLine_eq, g6]
    omega
theorem ints_show {ns : List Int} (h : ∀ n ∈ ns, n.natAbs < 10 ^ 202) (hl : ns.length ≤ 100) : SeqAt.shaped (.list (ns.map PyData.int)) = true ∧ (PyData.list (ns.map PyData.int)).showable = true ∧ (PyData.list (ns.map PyData.int)).hasDict = false ∧ (PyData.list (ns.map PyData.int)).depth ≤ 60 ∧ (PyData.list (ns.map PyData.int)).shown.length ≤ sizeLine :=
  shw_list (fun d hd => by
    obtain ⟨n, hn, rfl⟩ := List.mem_map.mp hd
    exact shw_int (h n hn)) (by rw [List.length_map]; exact hl)
/-! ### the spots stay near -/
theorem freeL_near {ns r : List Int} (h : Asc ns) (hr : r.length ≤ 10) (hn : ∀ n ∈ ns, n.natAbs < 10 ^ 201) {x : Int} (hx : x ∈ freeL ns r) : x.natAbs < 10 ^ 202 := by
  obtain ⟨a, b, hp, hf⟩ := mem_freeL.mp hx
  obtain ⟨h1, h2, _⟩ := freeIn_some hf
  have e10 : (10 : Nat) ^ 202 = 10 ^ 201 * 10 := Nat.pow_succ ..
  have e11 : (1000 : Nat) ≤ 10 ^ 201 := by decide +kernel
  generalize (10 : Nat) ^ 201 = BB at *
  rw [e10]
  cases ns with
  | nil =>
    have e : (a, b) = ((0 : Int), (r.length : Int) + 1 + 1) := List.mem_singleton.mp hp
    cases e
    omega
  | cons n l =>
    have near : ∀ y ∈ ((n - ((r.length : Int) + 1) - 1) :: (n :: l) ++ [(n :: l).getLast (List.cons_ne_nil _ _) + ((r.length : Int) + 1) + 1]), y.natAbs < BB + 20 := fun y hy => by
      rcases List.mem_append.mp hy with hy | hy
      · rcases List.mem_cons.mp hy with e | hy
        · have := hn n List.mem_cons_self
          rw [e]
          omega
        · have := hn y hy
          omega
      · rw [List.mem_singleton.mp hy]
        have := hn _ (List.getLast_mem (List.cons_ne_nil n l))
        omega
    have pm : ∀ {L : List Int} {a b : Int}, (a, b) ∈ pairsOf L → a ∈ L ∧ b ∈ L := by
      intro L
      induction L with
      | nil => intro a b h; cases h
      | cons c L ih =>
        intro a b h
        cases L with
        | nil => cases h
        | cons d L =>
          rcases List.mem_cons.mp h with e | h
          · cases e
            exact ⟨List.mem_cons_self, List.mem_cons_of_mem _ List.mem_cons_self⟩
          · obtain ⟨q1, q2⟩ := ih h
            exact ⟨List.mem_cons_of_mem _ q1, List.mem_cons_of_mem _ q2⟩
    obtain ⟨q1, q2⟩ := pm (show (a, b) ∈ pairsOf ((n - ((r.length : Int) + 1) - 1) :: (n :: l) ++ [(n :: l).getLast (List.cons_ne_nil _ _) + ((r.length : Int) + 1) + 1]) from hp)
    have k1 := near a q1
    have k2 := near b q2
    omega
theorem spots_near {ns r : List Int} (h : Asc ns) (hr : r.length ≤ 10) (hn : ∀ n ∈ ns, n.natAbs < 10 ^ 201) (hrB : ∀ n ∈ r, n.natAbs < 10 ^ 201) : ∀ x ∈ spotsL ns r, x.natAbs < 10 ^ 202 := fun x hx => by
  have e : (10 : Nat) ^ 201 ≤ 10 ^ 202 := Nat.pow_le_pow_right (by decide) (by decide)
  unfold spotsL at hx
  rw [mem_ascL, List.mem_append, List.mem_append] at hx
  rcases hx with q | q | q
  · exact Nat.lt_of_lt_of_le (hn x q) e
  · exact Nat.lt_of_lt_of_le (hrB x q) e
  · exact freeL_near h hr hn q
/-! ### the view of one integer beside a row -/
def eqJ (x v : Int) : Int := if x = v then 3 else 4
def viewI (ns r : List Int) (x : Int) : List Int := ns.map (cmpI x) ++ r.map (eqJ x)
theorem viewI_iff (ns r : List Int) (x y : Int) : viewI ns r x = viewI ns r y ↔ Alike ns r x y := by
  unfold viewI
  constructor
  · intro q
    obtain ⟨q1, q2⟩ := List.append_inj q (by rw [List.length_map, List.length_map])
    refine ⟨(cmp_side ns x y).mp q1, fun p hp => ?_⟩
    have e : eqJ x p = eqJ y p := (List.map_inj_left.mp q2) p hp
    unfold eqJ at e
    constructor
    · intro h
      rw [if_pos h] at e
      exact Classical.byContradiction fun n => by rw [if_neg n] at e; cases e
    · intro h
      rw [if_pos h] at e
      exact Classical.byContradiction fun n => by rw [if_neg n] at e; cases e
  · intro h
    rw [(cmp_side ns x y).mpr h.1]
    congr 1
    refine List.map_inj_left.mpr fun p hp => ?_
    unfold eqJ
    simp only [h.2 p hp]
def spViewI (K : PySem.W.Frag) : Sp := fun vs H Q _ => ∃ (x : Int) (v : V) (l : Addr) (r ns : List Int), vs = [.int x, v, .ref l] ∧ IntT H v r ∧ H l = some (.lst (ns.map V.int)) ∧ r.length ≤ 3 ∧ ns.length ≤ 4 ∧
  ∀ (t : Addr) (H' : Hp), Same H H' → H t = none → H' t = some (.lst ((viewI ns r x).map V.int)) → Q (.ref t) H'
theorem eqv_intL (xs ys : List Int) : PyData.eqv (.list (xs.map PyData.int)) (.list (ys.map PyData.int)) = decide (xs = ys) := by
  rw [← eqvAll_ints]
  simp only [PyData.eqv]
theorem filter_none {p : Int → Bool} : ∀ {l : List Int}, (∀ y ∈ l, p y = false) → l.filter p = []
  | [], _ => rfl
  | y :: l, h => by
    rw [List.filter_cons_of_neg (by rw [h y List.mem_cons_self]; exact nofun)]
    exact filter_none fun z hz => h z (List.mem_cons_of_mem _ hz)
theorem filter_one {p : Int → Bool} {s : Int} : ∀ {l : List Int}, l.Nodup → s ∈ l → (∀ y ∈ l, p y = true ↔ y = s) → l.filter p = [s]
  | [], _, h, _ => by cases h
  | y :: l, nd, hs, h => by
    obtain ⟨n1, n2⟩ := List.nodup_cons.mp nd
    by_cases e : y = s
    · subst e
      rw [List.filter_cons_of_pos ((h y List.mem_cons_self).mpr rfl), filter_none fun z hz => ?_]
      rw [← Bool.not_eq_true]
      intro q
      have := (h z (List.mem_cons_of_mem _ hz)).mp q
      exact n1 (this ▸ hz)
    · rw [List.filter_cons_of_neg (fun q => e ((h y List.mem_cons_self).mp q))]
      exact filter_one n2 ((List.mem_cons.mp hs).resolve_left fun q => e q.symm) fun z hz => h z (List.mem_cons_of_mem _ hz)
/-- the spot that an integer is alike to -/
theorem spots_one {ns r : List Int} (h : Asc ns) (x : Int) : ∃ s, s ∈ spotsL ns r ∧ Alike ns r x s ∧ ∀ y ∈ spotsL ns r, Alike ns r x y → y = s := by
  obtain ⟨s, h1, h2, h3⟩ := spot_one h (r := r) x
  exact ⟨s, mem_spotsL.mpr h1, h2, fun y hy => h3 y (mem_spotsL.mp hy)⟩
theorem Alike.symm {ns r : List Int} {x y : Int} (h : Alike ns r x y) : Alike ns r y x := (viewI_iff ns r y x).mp ((viewI_iff ns r x y).mpr h).symm
end Own

namespace Own
open PySem PySem.Spec PyProof.Rows L2
/-- an error with one integer, of at most a hundred digits, in its field -/
def spErrInt (C : Addr) (fl : Str) : Sp := fun vs H Q _ => ∃ (a : Addr) (i : Int), vs = [.ref a, .int i] ∧ H a = some (exo a C none) ∧ i.natAbs < 10 ^ 100 ∧ ∀ d, H d = none → d ≠ a → Q .non (upd (upd H d (exd d [(fl, .int i)])) a (exo a C (some d)))
theorem int_fmt {i : Int} (h : i.natAbs < 10 ^ 100) {z : Str} (hz : z.length ≤ 100) : i.natAbs.log2 < 1920 ∧ (z ++ toString i : Str).length ≤ 1000 := by
  constructor
  · by_cases q : i.natAbs = 0
    · rw [q]
      decide
    · have e : (10 : Nat) ^ 100 ≤ 2 ^ 1920 := by decide +kernel
      exact (Nat.log2_lt q).mpr (Nat.lt_of_lt_of_le h e)
  · have e := int_text_length_le10 (k := 100) (by decide) h
    have e2 : (z ++ (toString i : Str) : Str).length = z.length + (Str.ofString (toString i)).length := by
      show (z.cps ++ _).size = _
      rw [Array.size_append]
      rfl
    rw [e2, PySem.ofString_length]
    omega
end Own

namespace K07
open PySem PySem.Spec PyProof.Rows L2 Own
def top (i : Nat) : Stmt := PySem.Challenge.pw_emptyfilters_k07_whole_conditions_by_row.main.body.getD i (.Pass ⟨0, 0, 0, 0⟩)
abbrev s_wall : Stmt := top 0
abbrev s_is_integer : Stmt := top 4
abbrev s_is_word : Stmt := top 5
abbrev s_copied : Stmt := top 6
abbrev s_BadTableinit : Stmt := inClass (top 9) 0
abbrev s_BadConditioninit : Stmt := inClass (top 10) 0
abbrev s_WrongTableinit : Stmt := inClass (top 11) 0
abbrev s_run_end : Stmt := top 15
abbrev s_token_end : Stmt := top 16
abbrev s_tokens : Stmt := top 17
abbrev s_is_number : Stmt := top 18
abbrev s_joined : Stmt := top 22
abbrev s_negated : Stmt := top 23
abbrev s_code_of : Stmt := top 24
abbrev s_with_signs_behind : Stmt := top 25
abbrev s_tree_of : Stmt := top 26
abbrev s_test_words : Stmt := top 27
abbrev s_words_within : Stmt := top 28
abbrev s_code_words : Stmt := top 29
abbrev s_after_atom_begins : Stmt := top 36
abbrev s_after_column : Stmt := top 37
abbrev s_after_atom_ends : Stmt := top 38
abbrev s_after : Stmt := top 39
abbrev s_wrong_place : Stmt := top 40
abbrev s_condition_words : Stmt := top 41
abbrev s_test_of : Stmt := top 42
abbrev s_condition_tree : Stmt := top 43
abbrev s_place : Stmt := top 45
abbrev s_equals : Stmt := top 46
abbrev s_stand : Stmt := top 47
abbrev s_stretches : Stmt := top 48
abbrev s_free_spots : Stmt := top 49
abbrev s_spots_beside : Stmt := top 50
abbrev s_Kindsinit : Stmt := inClass (top 51) 0
abbrev s_Kindslen : Stmt := inClass (top 51) 1
abbrev s_Kinds_each : Stmt := inClass (top 51) 2
abbrev s_Kinds_same : Stmt := inClass (top 51) 3
abbrev s_Kinds_alike : Stmt := inClass (top 51) 4
abbrev s_Kinds_spots : Stmt := inClass (top 51) 5
abbrev s_compares : Stmt := top 53
abbrev s_holds : Stmt := top 54
abbrev s_marks_from : Stmt := top 55
abbrev s_value_on : Stmt := top 56
abbrev s_is_taken : Stmt := top 57
abbrev s_tests_in : Stmt := top 58
abbrev s_numbers_in : Stmt := top 59
abbrev s_marks_on : Stmt := top 60
abbrev s_same_values : Stmt := top 61
abbrev s_with_tree : Stmt := top 63
abbrev s_is_operand : Stmt := top 64
abbrev s_tree_for : Stmt := top 65
abbrev s_Condinit : Stmt := inClass (top 66) 0
abbrev s_Cond_every : Stmt := inClass (top 66) 1
abbrev s_Cond_none : Stmt := inClass (top 66) 2
abbrev s_Cond_blank : Stmt := inClass (top 66) 3
abbrev s_Cond_any_of : Stmt := inClass (top 66) 4
abbrev s_Cond_all_of : Stmt := inClass (top 66) 5
abbrev s_Condand : Stmt := inClass (top 66) 6
abbrev s_Condor : Stmt := inClass (top 66) 7
abbrev s_Condrand : Stmt := inClass (top 66) 8
abbrev s_Condror : Stmt := inClass (top 66) 9
abbrev s_Condinvert : Stmt := inClass (top 66) 10
abbrev s_Condiand : Stmt := inClass (top 66) 11
abbrev s_Condior : Stmt := inClass (top 66) 12
abbrev s_Condbool : Stmt := inClass (top 66) 13
abbrev s_Cond_is_blank : Stmt := inClass (top 66) 14
abbrev s_Condcall : Stmt := inClass (top 66) 15
abbrev s_Condcontains : Stmt := inClass (top 66) 16
abbrev s_Condeq : Stmt := inClass (top 66) 17
abbrev s_Cond_row_beyond : Stmt := inClass (top 66) 18
abbrev s_Cond_shown : Stmt := inClass (top 66) 19
abbrev s_Cond_text_words : Stmt := inClass (top 66) 20
abbrev s_Condstr : Stmt := inClass (top 66) 21
abbrev s_Condrepr : Stmt := inClass (top 66) 22
abbrev s_first_bad : Stmt := top 69
abbrev s_Tableinit : Stmt := inClass (top 70) 0
abbrev s_Tablelen : Stmt := inClass (top 70) 1
abbrev s_Tablecontains : Stmt := inClass (top 70) 2
abbrev s_Tableeq : Stmt := inClass (top 70) 3
abbrev s_Tablerepr : Stmt := inClass (top 70) 4
abbrev s_law_bag : Stmt := top 72
abbrev s_law_take : Stmt := top 73
abbrev s_law_of : Stmt := top 74
abbrev s_law_long : Stmt := top 75
abbrev s_law_tree : Stmt := top 76
abbrev s_law_pieces : Stmt := top 77
abbrev s_law_text : Stmt := top 78
abbrev s_law_holds : Stmt := top 79
abbrev s_law_value : Stmt := top 80
abbrev s_law_row : Stmt := top 81
abbrev s_law : Stmt := top 82
abbrev FnP (K : PySem.W.Frag) (x : Str) (st : Stmt) (f : Addr) (fd : FuncData) : Prop := FunD K x x (defArgs st) (defBody st) (defScope st) [] [] f fd
abbrev FnM (K : PySem.W.Frag) (x q : Str) (st : Stmt) (f : Addr) (fd : FuncData) : Prop := FunD K x q (defArgs st) (defBody st) (defScope st) [] [] f fd
structure TxL (K : PySem.W.Frag) (mg : Str → Option Value) (aL : Addr) : Prop extends Free mg where
  g_LONG_SIGNS : mg "LONG_SIGNS" = some (.ref aL)
  s_LONG_SIGNS : ∀ H, SqT K H aL (longSigns.map fun l => V.str ⟨l.toArray⟩)
structure TxR (K : PySem.W.Frag) (mg : Str → Option Value) (aL : Addr) : Prop extends TxL K mg aL where
  g_ATOM : ∃ t, mg "ATOM" = some (.str sATOM t)
  g_SIGN : ∃ t, mg "SIGN" = some (.str sSIGN t)
  g_SIDE : ∃ t, mg "SIDE" = some (.str sSIDE t)
  g_NUMBER : ∃ t, mg "NUMBER" = some (.str sNUMBER t)
  g_BEHIND : ∃ t, mg "BEHIND" = some (.str sBEHIND t)
  g_MOST_DIGITS : ∃ t, mg "MOST_DIGITS" = some (.int 30 t)
section
variable {P : Program} {w : World} {K : PySem.W.Frag} {mg : Str → Option Value} {base : Heap} {f C : Addr} {fd : FuncData}
theorem sc_copied : FnScope ["thing", "part", "key"] ["thing"] (defScope s_copied) := ⟨rfl, rfl, rfl, by decide +kernel, rfl, by decide +kernel, by decide +kernel⟩
theorem ok_copied (F : FnP K "copied" s_copied f fd) (T : Free mg) : FnOk P w K mg base CX0 1 f fd ["thing"] spCopied := by
  refine F.ok sc_copied (fun vs H Q E h => ?_) (fun cdv A outer s H vs Q E hr h => ⟨_, PSs.nox (pss_cons (ps_if (pt_val (pe_callB call_isi (by rfl) T.isinstance boot_isinstance (pa_cons (pv 0) (pa_cons (pe_bltn (v := .ty "list") (by rfl) T.list boot_list rfl) pa_nil))))
 (pss_one ps_never)
 pss_nil)
 (pss_cons (ps_if (pt_val (pe_callB call_isi (by rfl) T.isinstance boot_isinstance (pa_cons (pv 0) (pa_cons (pe_bltn (v := .ty "tuple") (by rfl) T.tuple boot_tuple rfl) pa_nil))))
 (pss_one ps_never)
 pss_nil)
 (pss_cons (ps_if (pt_val (pe_callB call_isi (by rfl) T.isinstance boot_isinstance (pa_cons (pv 0) (pa_cons (pe_bltn (v := .ty "dict") (by rfl) T.dict boot_dict rfl) pa_nil))))
 (pss_one ps_never)
 pss_nil)
 (pss_one (ps_ret (pv 0)))))), ?_⟩)
  · obtain ⟨v, t, rfl, _⟩ := h
    rfl
  · obtain ⟨v, t, rfl, ht, n1, n2, k⟩ := h
    refine ⟨_, rfl, _, _, _, _, _, rfl, .ty _, kd_ok ht, kit_list t, _, rfl, ?_⟩
    rw [decide_eq_false n1]
    refine iteF ?_
    refine ⟨_, rfl, _, _, _, _, _, rfl, .ty _, kd_ok ht, kit_tuple t, _, rfl, ?_⟩
    rw [decide_eq_false n2]
    refine iteF ?_
    refine ⟨_, rfl, _, _, _, _, _, rfl, .ty _, kd_ok ht, kit_dict t, _, rfl, iteF ?_⟩
    exact ⟨_, rfl, k⟩
theorem sc_BadConditioninit : FnScope ["self", "at"] ["self", "at"] (defScope s_BadConditioninit) := ⟨rfl, rfl, rfl, by decide +kernel, rfl, by decide +kernel, by decide +kernel⟩
theorem ok_BadConditioninit {B fc : Addr} {fdc : FuncData} (F : FnM K "__init__" "BadCondition.__init__" s_BadConditioninit f fd) (T : Free mg) (BI : BaseI K B) (gE : mg "EmptyfiltersError" = some (.ref B)) (O : OexC K C) (nA : PySem.W.findIn K (.ref C) "at" = some none)
    (c_copied : Cal P w K mg base CX0 1 "copied" fc fdc ["thing"] spCopied) : FnOk P w K mg base CX0 2 f fd ["self", "at"] (spErrInt C "at") := by
  refine F.ok sc_BadConditioninit (fun vs H Q E h => ?_) (fun cdv A outer s H vs Q E hr h => ⟨_, PSs.nox (pss_cons (ps_expr (pe_binit BI (by rfl) gE (pa_cons (pv 0) (pa_cons (pe_joined (.cons pe_str (.cons (pe_fmt (pv 1)) .nil))) pa_nil))))
 (pss_one (ps_ost (pv 0) (pe_cal c_copied (hr.mono (by decide)) (pa_cons (pv 1) pa_nil))))), ?_⟩)
  · obtain ⟨a, i, rfl, _⟩ := h
    rfl
  · obtain ⟨a, i, rfl, ha, hi, k⟩ := h
    have h1 : i.natAbs.log2 < 1920 ∧ ((Str.empty ++ "no condition: at ") ++ toString i : Str).length ≤ 1000 := int_fmt hi (by decide +kernel)
    refine ⟨_, rfl, _, rfl, (by decide), _, rfl, .inr ⟨i, rfl, h1.1, _, rfl, Nat.le_of_lt (small1000 h1.2), a, C, [_], rfl, (by show 1 ≤ 1000; decide), O, ha, ?_⟩⟩
    exact ⟨_, rfl, _, .int, rfl, rfl, nofun, nofun, _, rfl, a, C, rfl, O, nA, .inl ⟨ha, k⟩⟩
theorem sc_run_end : FnScope ["text", "at", "low", "high", "end"] ["text", "at", "low", "high"] (defScope s_run_end) := ⟨rfl, rfl, rfl, by decide +kernel, rfl, by decide +kernel, by decide +kernel⟩
theorem ok_run_end (F : FnP K "run_end" s_run_end f fd) (T : Free mg) : FnOk P w K mg base CX0 1 f fd ["text", "at", "low", "high"] spRunEnd := by
  refine F.ok sc_run_end (fun vs H Q E h => ?_) (fun cdv A outer s H vs Q E hr h => ⟨_, PSs.nox (pss_cons (ps_set (i := 4) sc_run_end.nd rfl (Or.inl rfl) (pv 1))
 (pss_cons (ps_while PassesOwn.never (PW.pt (pw_and (pt_cmpR op_lt (pv 4) (pe_callB call_len_str (by rfl) T.len boot_len (pa_cons (pv 0) pa_nil)) (nomark _)) (pw_and1 (pt_chain op_le_str op_le_str (pv 2) (pe_ix ix_str (pv 0) (pv 4) (fun _ _ => rfl)) (pv 3)))))
 (pss_one (ps_aug (i := 4) sc_run_end.nd rfl (Or.inl rfl) pe_int ip_add)))
 (pss_one (ps_ret (pv 4))))), ?_⟩)
  · obtain ⟨z, i, lo, hi, rfl, _⟩ := h
    rfl
  · obtain ⟨z, i, lo, hi, rfl, hz, hi0, k⟩ := h
    have hzl : z.cps.toList.length = z.length := by rw [Array.length_toList]; rfl
    have hs : z.length ≤ sizeLine := by rw [sizeLine_eq]; omega
    refine ⟨_, rfl, ?_⟩
    refine ⟨fun m σ H' => H' = H ∧ ∃ j : Nat, σ = [some (.str z), some (.int i), some (.str ⟨#[lo]⟩), some (.str ⟨#[hi]⟩), some (.int (j : Int))] ∧ j ≤ z.length ∧ m = z.length - j ∧ runEnd z.cps.toList i lo hi = runEnd z.cps.toList j lo hi,
      ⟨_, rfl, i, rfl, hi0, rfl, rfl⟩, ?_⟩
    rintro m σ H1 ⟨rfl, j, rfl, hj, rfl, ej⟩
    have out : runEnd z.cps.toList j lo hi = j → Q (.int (j : Nat)) H1 := fun e => by
      rw [ej, e] at k
      exact k
    refine ⟨_, rfl, _, rfl, z, rfl, hs, _, _, rfl, rfl, _, rfl, ite2 (fun h1 => ?_) (fun h1 => ?_)⟩
    · have h1 : j < z.length := by
        have := of_decide_eq_true h1
        omega
      obtain ⟨c, hc⟩ : ∃ c, z.cps.toList[j]? = some c := ⟨_, List.getElem?_eq_getElem (by omega)⟩
      refine ⟨_, rfl, _, rfl, _, rfl, z, _, c, rfl, rfl, hs, atI_nat hc, _, _, rfl, rfl, _, rfl, ?_⟩
      rw [one_lt]
      refine ite2 (fun h2 => ?_) (fun h2 => ?_)
      · refine ⟨_, rfl, _, _, rfl, rfl, _, rfl, ?_⟩
        rw [one_lt]
        refine ite2 (fun h3 => ?_) (fun h3 => ?_)
        · have hin : inRun lo hi c = true := by
            unfold inRun
            simp at h2 h3 ⊢
            omega
          refine ⟨_, fun _ _ h => h, ?_⟩
          exact ⟨_, rfl, _, _, rfl, rfl, _, by omega, rfl, j + 1, rfl, by omega, rfl, by rw [ej, runEnd_in hc hin]⟩
        · refine ⟨_, rfl, out (runEnd_out hc ?_)⟩
          unfold inRun
          simp at h2 h3 ⊢
          omega
      · refine ⟨_, rfl, iteF ⟨_, rfl, out (runEnd_out hc ?_)⟩⟩
        unfold inRun
        simp at h2 ⊢
        omega
    · refine iteF ⟨_, rfl, out (runEnd_end ?_)⟩
      have : ¬ (j : Int) < (z.length : Int) := fun q => h1 (decide_eq_true q)
      omega
theorem sc_token_end : FnScope ["text", "at", "end", "digits"] ["text", "at"] (defScope s_token_end) := ⟨rfl, rfl, rfl, by decide +kernel, rfl, by decide +kernel, by decide +kernel⟩
theorem ok_token_end {aL fr : Addr} {fdr : FuncData} (F : FnP K "token_end" s_token_end f fd) (T : TxL K mg aL) (c_run_end : Cal P w K mg base CX0 1 "run_end" fr fdr ["text", "at", "low", "high"] spRunEnd) : FnOk P w K mg base CX0 2 f fd ["text", "at"] spTokEnd := by
  refine F.ok sc_token_end (fun vs H Q E h => ?_) (fun cdv A outer s H vs Q E hr h => ⟨_, PSs.nox (pss_cons (ps_set (i := 2) sc_token_end.nd rfl (Or.inl rfl) (pe_cal c_run_end (hr.mono (by decide)) (pa_cons (pv 0) (pa_cons (pv 1) (pa_cons pe_str (pa_cons pe_str pa_nil))))))
 (pss_cons (ps_if (pt_cmpR op_gt (pv 2) (pv 1) (nomark _))
 (pss_one (ps_ret (pv 2)))
 pss_nil)
 (pss_cons (ps_set (i := 3) sc_token_end.nd rfl (Or.inl rfl) (pe_ifExp (pt_cmpR op_eq (pe_ix ix_str (pv 0) (pv 1) (fun _ _ => rfl)) pe_str (nomark _)) (pe_op op_add (pv 1) pe_int) (pv 1)))
 (pss_cons (ps_set (i := 2) sc_token_end.nd rfl (Or.inl rfl) (pe_cal c_run_end (hr.mono (by decide)) (pa_cons (pv 0) (pa_cons (pv 3) (pa_cons pe_str (pa_cons pe_str pa_nil))))))
 (pss_cons (ps_if (pt_cmpR op_gt (pv 2) (pv 3) (nomark _))
 (pss_one (ps_ret (pv 2)))
 pss_nil)
 (pss_one (ps_ret (pe_ifExp (pt_cmpR op_in_seq (pe_slice sl_str (pv 0) (po_some (pv 1)) (po_some (pe_op op_add (pv 1) pe_int))) (pe_glob (v := .ref _) (by rfl) T.g_LONG_SIGNS rfl) (by rfl)) (pe_op op_add (pv 1) pe_int) (pe_op op_add (pv 1) pe_int))))))))), ?_⟩)
  · obtain ⟨z, i, rfl, _⟩ := h
    rfl
  · obtain ⟨z, i, rfl, hz, hi0, k⟩ := h
    have hzl : z.cps.toList.length = z.length := by rw [Array.length_toList]; rfl
    have hs : z.length ≤ sizeLine := by rw [sizeLine_eq]; omega
    obtain ⟨c, hc⟩ : ∃ c, z.cps.toList[i]? = some c := ⟨_, List.getElem?_eq_getElem (by omega)⟩
    have hd := digAt_ge z.cps.toList i
    refine ⟨_, rfl, _, rfl, z, i, 97, 122, rfl, hz, by omega, ?_⟩
    refine ⟨_, rfl, _, rfl, _, _, rfl, rfl, _, rfl, ite2 (fun h1 => ?_) (fun h1 => ?_)⟩
    · have h1 : i < runEnd z.cps.toList i 97 122 := by
        have := of_decide_eq_true h1
        omega
      refine ⟨_, rfl, ?_⟩
      unfold tokEnd at k
      rw [if_pos h1] at k
      exact k
    · have h1 : ¬ i < runEnd z.cps.toList i 97 122 := fun q => h1 (decide_eq_true (by omega))
      unfold tokEnd at k
      rw [if_neg h1] at k
      refine' pickIH (fun x H1 => x = ((digAt z.cps.toList i : Nat) : Int) ∧ H1 = H) ?main ?rest
      case main =>
        intro go
        refine ⟨_, rfl, _, rfl, z, _, c, rfl, rfl, hs, atI_nat hc, rfl, _, rfl, ?_⟩
        rw [show (Str.ofString "-" : Str) = ⟨#[45]⟩ by decide +kernel, str_eq1]
        refine ite2 (fun h2 => ?_) (fun h2 => ?_)
        · have h2 : c = 45 := of_decide_eq_true h2
          have e : (i : Int) + 1 = ((digAt z.cps.toList i : Nat) : Int) := by
            unfold digAt
            rw [hc, h2, if_pos rfl]
            omega
          refine ⟨_, rfl, _, _, rfl, rfl, ?_⟩
          dsimp only
          generalize (i : Int) + 1 = x at *
          exact go x H ⟨e, rfl⟩
        · have h2 : ¬ c = 45 := fun q => h2 (decide_eq_true q)
          exact ⟨_, rfl, go i H ⟨by unfold digAt; rw [hc, if_neg (fun q => h2 (Option.some.inj q))], rfl⟩⟩
      case rest =>
        rintro x H1 ⟨rfl, rfl⟩
        obtain ⟨d, hdd⟩ : ∃ d, d = digAt z.cps.toList i := ⟨_, rfl⟩
        rw [← hdd] at k hd ⊢
        refine ⟨_, rfl, _, rfl, z, d, 48, 57, rfl, hz, by omega, ?_⟩
        refine ⟨_, rfl, _, rfl, _, _, rfl, rfl, _, rfl, ite2 (fun h3 => ?_) (fun h3 => ?_)⟩
        · have h3 : d < runEnd z.cps.toList d 48 57 := by
            have := of_decide_eq_true h3
            omega
          rw [if_pos h3] at k
          exact ⟨_, rfl, k⟩
        · have h3 : ¬ d < runEnd z.cps.toList d 48 57 := fun q => h3 (decide_eq_true (by omega))
          rw [if_neg h3] at k
          refine ⟨_, rfl, _, rfl, _, rfl, _, rfl, _, _, rfl, rfl, _, rfl, z, rfl, hs, ?_⟩
          dsimp only
          rw [cut_two z i (by omega)]
          refine ⟨aL, _, rfl, .inr (T.s_LONG_SIGNS _), rfl, by decide +kernel, _, rfl, ?_⟩
          rw [inV_long]
          refine ite2 (fun h4 => ?_) (fun h4 => ?_)
          · have h4 := of_decide_eq_true h4
            rw [if_pos h4] at k
            exact ⟨_, rfl, _, _, rfl, rfl, k⟩
          · have h4 : ¬ _ := fun q => h4 (decide_eq_true q)
            rw [if_neg h4] at k
            exact ⟨_, rfl, _, _, rfl, rfl, k⟩
theorem sc_tokens : FnScope ["text", "found", "at", "end"] ["text"] (defScope s_tokens) := ⟨rfl, rfl, rfl, by decide +kernel, rfl, by decide +kernel, by decide +kernel⟩
theorem ok_tokens {fe : Addr} {fde : FuncData} (F : FnP K "tokens" s_tokens f fd) (T : Free mg) (c_token_end : Cal P w K mg base CX0 2 "token_end" fe fde ["text", "at"] spTokEnd) : FnOk P w K mg base CX0 3 f fd ["text"] spTokens := by
  refine F.ok sc_tokens (fun vs H Q E h => ?_) (fun cdv A outer s H vs Q E hr h => ⟨_, PSs.nox (pss_cons (ps_set (i := 1) sc_tokens.nd rfl (Or.inl rfl) (pe_lst pa_nil))
 (pss_cons (ps_set (i := 2) sc_tokens.nd rfl (Or.inl rfl) pe_int)
 (pss_cons (ps_while PassesOwn.never (pt_cmpR op_lt (pv 2) (pe_callB call_len_str (by rfl) T.len boot_len (pa_cons (pv 0) pa_nil)) (nomark _))
 (pss_cons (ps_set (i := 3) sc_tokens.nd rfl (Or.inl rfl) (pe_cal c_token_end (hr.mono (by decide)) (pa_cons (pv 0) (pa_cons (pv 2) pa_nil))))
 (pss_cons (ps_if (pt_cmpR op_ne (pe_ix ix_str (pv 0) (pv 2) (fun _ _ => rfl)) pe_str (nomark _))
 (pss_one (ps_expr (pe_bm PySem.F.plainAttrs_list PySem.F.slot_list_append PySem.F.type_list_append mt_append (pv 1) (pa_cons (pe_tup (pa_cons (pe_slice sl_str (pv 0) (po_some (pv 2)) (po_some (pv 3))) (pa_cons (pv 2) pa_nil))) pa_nil))))
 pss_nil)
 (pss_one (ps_set (i := 2) sc_tokens.nd rfl (Or.inl rfl) (pv 3))))))
 (pss_one (ps_ret (pv 1)))))), ?_⟩)
  · obtain ⟨z, rfl, _⟩ := h
    rfl
  · obtain ⟨z, rfl, hz, k⟩ := h
    have hzl : z.cps.toList.length = z.length := by rw [Array.length_toList]; rfl
    have hs : z.length ≤ sizeLine := by rw [sizeLine_eq]; omega
    refine ⟨Nat.zero_le _, fun l nl => ?_⟩
    refine ⟨fun m σ H' => ∃ (j : Nat) (xs : List V) (ps : List (List Nat × Nat)) (t3 : Option V), σ = [some (.str z), some (.ref l), some (.int (j : Int)), t3] ∧ m = z.length - j ∧ j ≤ z.length ∧ Same H H' ∧ H' l = some (.lst xs) ∧ Toks H' ps xs ∧ ps.length ≤ j ∧ toksL z.cps.toList = ps ++ toksF z.cps.toList z.cps.toList.length j,
      ⟨_, 0, [], [], _, rfl, rfl, Nat.zero_le _, same_newH nl, upd_same, rfl, Nat.le_refl _, rfl⟩, ?_⟩
    rintro m σ H1 ⟨j, xs, ps, t3, rfl, rfl, hj, S1, hl1, hT, hpj, ej⟩
    refine ⟨_, rfl, _, rfl, z, rfl, hs, _, _, rfl, rfl, _, rfl, ite2 (fun h1 => ?_) (fun h1 => ?_)⟩
    · have h1 : j < z.length := by
        have := of_decide_eq_true h1
        omega
      obtain ⟨c, hc⟩ : ∃ c, z.cps.toList[j]? = some c := ⟨_, List.getElem?_eq_getElem (by omega)⟩
      have g1 := tokEnd_gt z.cps.toList j
      have g2 := tokEnd_le (cs := z.cps.toList) (i := j) (by omega)
      rw [toksF_step (by omega)] at ej
      refine ⟨_, fun _ _ h => h, ?_⟩
      refine ⟨_, rfl, _, rfl, z, j, rfl, hz, h1, ?_⟩
      refine ⟨_, rfl, _, rfl, z, _, c, rfl, rfl, hs, atI_nat hc, rfl, _, rfl, ?_⟩
      have hpl := Toks.len hT
      rw [show (Str.ofString " " : Str) = ⟨#[32]⟩ by decide +kernel, str_eq1]
      by_cases h2 : c = 32
      · rw [decide_eq_true h2]
        refine iteF ?_
        rw [hc, h2, if_pos rfl, List.nil_append] at ej
        exact ⟨_, rfl, _, by omega, tokEnd z.cps.toList j, xs, ps, _, rfl, rfl, by omega, S1, hl1, hT, by omega, ej⟩
      · rw [decide_eq_false h2]
        refine iteT ?_
        rw [hc, if_neg (fun q => h2 (Option.some.inj q)), ← List.append_assoc] at ej
        refine ⟨_, rfl, .inl ⟨rfl, _, SqL.of hl1⟩, _, rfl, _, rfl, _, rfl, _, rfl, _, rfl, z, rfl, hs, ?_⟩
        rw [cut_mid z j _ (by omega) (by omega)]
        refine ⟨_, rfl, (by show 2 ≤ sizeLine; decide), fun t nt => ?_⟩
        have St := same_newH (o := .tup [V.str ⟨((z.cps.toList.drop j).take (tokEnd z.cps.toList j - j)).toArray⟩, V.int (j : Int)]) nt
        have ht : upd H1 t (.tup [V.str ⟨((z.cps.toList.drop j).take (tokEnd z.cps.toList j - j)).toArray⟩, V.int (j : Int)]) t = some (.tup [V.str ⟨((z.cps.toList.drop j).take (tokEnd z.cps.toList j - j)).toArray⟩, V.int (j : Int)]) := upd_same
        generalize upd H1 t (.tup [V.str ⟨((z.cps.toList.drop j).take (tokEnd z.cps.toList j - j)).toArray⟩, V.int (j : Int)]) = H2 at *
        have hl2 := St _ _ hl1
        have ntl : t ≠ l := (ne_of_none hl1 nt).symm
        refine ⟨l, _, _, rfl, rfl, hl2, (by rw [sizeLine_eq]; omega), ?_⟩
        have L := (Lsts.same St).trans (Lsts.put (o := .lst (xs ++ [V.ref t])) hl2)
        exact ⟨_, rfl, _, by omega, tokEnd z.cps.toList j, xs ++ [.ref t], ps ++ [_], _, rfl, rfl, by omega, put_same (S1.trans St) nl, upd_same, Toks.snoc (p := ((z.cps.toList.drop j).take (tokEnd z.cps.toList j - j), j)) (by rw [upd_ne ntl]; exact ht) (Toks.lsts L hT), by rw [List.length_append, List.length_singleton]; omega, ej⟩
    · have h1 : ¬ j < z.length := fun q => h1 (decide_eq_true (by omega))
      rw [toksF_done (by omega), List.append_nil] at ej
      refine ⟨_, rfl, ?_⟩
      exact k l xs H1 S1 nl hl1 (by rw [ej]; exact hT)

theorem sc_after_atom_begins : FnScope ["word", "columns"] ["word", "columns"] (defScope s_after_atom_begins) := ⟨rfl, rfl, rfl, by decide +kernel, rfl, by decide +kernel, by decide +kernel⟩
theorem ok_after_atom {aL : Addr} (F : FnP K "after_atom_begins" s_after_atom_begins f fd) (T : TxR K mg aL) : FnOk P w K mg base CX0 1 f fd ["word", "columns"] (spAftAtom K) := by
  refine F.ok sc_after_atom_begins (fun vs H Q E h => ?_) (fun cdv A outer s H vs Q E hr h => ⟨_, PSs.nox (pss_cons (ps_if (pt_cmpR op_in_seq (pv 0) (pe_tup (pa_cons pe_str (pa_cons pe_str pa_nil))) (by rfl))
 (pss_one (ps_ret (pe_gstr (by rfl) T.g_ATOM)))
 pss_nil)
 (pss_cons (ps_if (pt_cmpR op_in_seq (pv 0) (pe_tup (pa_cons pe_str (pa_cons pe_str (pa_cons pe_str pa_nil)))) (by rfl))
 (pss_one (ps_ret (pe_gstr (by rfl) T.g_BEHIND)))
 pss_nil)
 (pss_one (ps_ret (pe_ifExp (pt_cmpR op_in_seq (pv 0) (pv 1) (by rfl)) (pe_gstr (by rfl) T.g_SIGN) pe_non))))), ?_⟩)
  · obtain ⟨w, a, cols, rfl, _⟩ := h
    rfl
  · obtain ⟨w, a, cols, rfl, ha, k⟩ := h
    refine ⟨_, rfl, (by show 2 ≤ sizeLine; decide), fun t nt => ?_⟩
    have S1 := same_newH (o := .tup ((["~", "("] : List Str).map V.str)) nt
    refine ⟨t, (["~", "("] : List Str).map V.str, rfl, .inr (SqT.of upd_same), rfl, Own.flat_strs _, _, rfl, ?_⟩
    rw [inV_str]
    refine ite2 (fun h1 => ?_) (fun h1 => ?_)
    · have q := k _ S1
      unfold aftAtom at q
      rw [if_pos (of_decide_eq_true h1)] at q
      exact q
    · have h1 : ¬ _ := fun q => h1 (decide_eq_true q)
      refine ⟨_, rfl, (by show 3 ≤ sizeLine; decide), fun t2 nt2 => ?_⟩
      have S2 := S1.trans (same_newH (o := .tup ((["blank", "every", "none"] : List Str).map V.str)) nt2)
      refine ⟨t2, (["blank", "every", "none"] : List Str).map V.str, rfl, .inr (SqT.of upd_same), rfl, Own.flat_strs _, _, rfl, ?_⟩
      rw [inV_str]
      refine ite2 (fun h2 => ?_) (fun h2 => ?_)
      · have q := k _ S2
        unfold aftAtom at q
        rw [if_neg h1, if_pos (of_decide_eq_true h2)] at q
        exact q
      · have h2 : ¬ _ := fun q => h2 (decide_eq_true q)
        refine ⟨_, rfl, _, rfl, a, _, rfl, .inr (tup_same S2 ha), rfl, Own.flat_strs _, _, rfl, ?_⟩
        rw [inV_str]
        refine ite2 (fun h3 => ?_) (fun h3 => ?_)
        · have q := k _ S2
          unfold aftAtom at q
          rw [if_neg h1, if_neg h2, if_pos (of_decide_eq_true h3)] at q
          exact q
        · have h3 : ¬ _ := fun q => h3 (decide_eq_true q)
          have q := k _ S2
          unfold aftAtom at q
          rw [if_neg h1, if_neg h2, if_neg h3] at q
          exact q
theorem sc_after_column : FnScope ["word"] ["word"] (defScope s_after_column) := ⟨rfl, rfl, rfl, by decide +kernel, rfl, by decide +kernel, by decide +kernel⟩
theorem ok_after_column {aL : Addr} (F : FnP K "after_column" s_after_column f fd) (T : TxR K mg aL) : FnOk P w K mg base CX0 1 f fd ["word"] spAftCol := by
  refine F.ok sc_after_column (fun vs H Q E h => ?_) (fun cdv A outer s H vs Q E hr h => ⟨_, PSs.nox (pss_cons (ps_if (pt_cmpR op_in_seq (pv 0) (pe_tup (pa_cons pe_str (pa_cons pe_str pa_nil))) (by rfl))
 (pss_one (ps_ret (pe_gstr (by rfl) T.g_SIDE)))
 pss_nil)
 (pss_one (ps_ret (pe_ifExp (pt_cmpR op_in_seq (pv 0) (pe_tup (pa_cons pe_str (pa_cons pe_str (pa_cons pe_str (pa_cons pe_str pa_nil))))) (by rfl)) (pe_gstr (by rfl) T.g_NUMBER) pe_non)))), ?_⟩)
  · obtain ⟨w, rfl, _⟩ := h
    rfl
  · obtain ⟨w, rfl, k⟩ := h
    refine ⟨_, rfl, (by show 2 ≤ sizeLine; decide), fun t nt => ?_⟩
    have S1 := same_newH (o := .tup ((["=", "!="] : List Str).map V.str)) nt
    refine ⟨t, (["=", "!="] : List Str).map V.str, rfl, .inr (SqT.of upd_same), rfl, Own.flat_strs _, _, rfl, ?_⟩
    rw [inV_str]
    refine ite2 (fun h1 => ?_) (fun h1 => ?_)
    · have q := k _ S1
      unfold aftCol at q
      rw [if_pos (of_decide_eq_true h1)] at q
      exact q
    · have h1 : ¬ _ := fun q => h1 (decide_eq_true q)
      refine ⟨_, rfl, (by show 4 ≤ sizeLine; decide), fun t2 nt2 => ?_⟩
      have S2 := S1.trans (same_newH (o := .tup ((["<", "<=", ">", ">="] : List Str).map V.str)) nt2)
      refine ⟨t2, (["<", "<=", ">", ">="] : List Str).map V.str, rfl, .inr (SqT.of upd_same), rfl, Own.flat_strs _, _, rfl, ?_⟩
      rw [inV_str]
      refine ite2 (fun h2 => ?_) (fun h2 => ?_)
      · have q := k _ S2
        unfold aftCol at q
        rw [if_neg h1, if_pos (of_decide_eq_true h2)] at q
        exact q
      · have h2 : ¬ _ := fun q => h2 (decide_eq_true q)
        have q := k _ S2
        unfold aftCol at q
        rw [if_neg h1, if_neg h2] at q
        exact q
theorem sc_after_atom_ends : FnScope ["word", "depth"] ["word", "depth"] (defScope s_after_atom_ends) := ⟨rfl, rfl, rfl, by decide +kernel, rfl, by decide +kernel, by decide +kernel⟩
theorem ok_after_ends {aL : Addr} (F : FnP K "after_atom_ends" s_after_atom_ends f fd) (T : TxR K mg aL) : FnOk P w K mg base CX0 1 f fd ["word", "depth"] spAftEnds := by
  refine F.ok sc_after_atom_ends (fun vs H Q E h => ?_) (fun cdv A outer s H vs Q E hr h => ⟨_, PSs.nox (pss_cons (ps_if (pt_cmpR op_in_seq (pv 0) (pe_tup (pa_cons pe_str (pa_cons pe_str pa_nil))) (by rfl))
 (pss_one (ps_ret (pe_gstr (by rfl) T.g_ATOM)))
 pss_nil)
 (pss_one (ps_ret (pe_ifExp (PW.pt (pw_and (pt_cmpR op_eq (pv 0) pe_str (nomark _)) (pw_and1 (pt_cmpR op_gt (pv 1) pe_int (nomark _))))) (pe_gstr (by rfl) T.g_BEHIND) pe_non)))), ?_⟩)
  · obtain ⟨w, d, rfl, _⟩ := h
    rfl
  · obtain ⟨w, d, rfl, k⟩ := h
    refine ⟨_, rfl, (by show 2 ≤ sizeLine; decide), fun t nt => ?_⟩
    have S1 := same_newH (o := .tup ((["&", "|"] : List Str).map V.str)) nt
    refine ⟨t, (["&", "|"] : List Str).map V.str, rfl, .inr (SqT.of upd_same), rfl, Own.flat_strs _, _, rfl, ?_⟩
    rw [inV_str]
    refine ite2 (fun h1 => ?_) (fun h1 => ?_)
    · have q := k _ S1
      unfold aftEnds at q
      rw [if_pos (of_decide_eq_true h1)] at q
      exact q
    · have h1 : ¬ _ := fun q => h1 (decide_eq_true q)
      have q := k _ S1
      unfold aftEnds at q
      rw [if_neg h1] at q
      refine ⟨_, rfl, rfl, _, rfl, ite2 (fun h2 => ?_) (fun h2 => ?_)⟩
      · have h2 : w = ")" := V.str.inj (of_decide_eq_true h2)
        refine ⟨_, rfl, _, _, rfl, rfl, _, rfl, ite2 (fun h3 => ?_) (fun h3 => ?_)⟩
        · rw [if_pos ⟨h2, of_decide_eq_true h3⟩] at q
          exact q
        · rw [if_neg (fun z => h3 (decide_eq_true z.2))] at q
          exact q
      · rw [if_neg (fun z => h2 (decide_eq_true (by rw [z.1])))] at q
        exact iteF q
theorem sc_is_number : FnScope ["token", "digits"] ["token"] (defScope s_is_number) := ⟨rfl, rfl, rfl, by decide +kernel, rfl, by decide +kernel, by decide +kernel⟩
theorem ok_is_number {aL fr : Addr} {fdr : FuncData} (F : FnP K "is_number" s_is_number f fd) (T : TxR K mg aL) (c_run_end : Cal P w K mg base CX0 1 "run_end" fr fdr ["text", "at", "low", "high"] spRunEnd) : FnOk P w K mg base CX0 2 f fd ["token"] spIsNum := by
  refine F.ok sc_is_number (fun vs H Q E h => ?_) (fun cdv A outer s H vs Q E hr h => ⟨_, PSs.nox (pss_cons (ps_set (i := 1) sc_is_number.nd rfl (Or.inl rfl) (pe_bm PySem.F.plainAttrs_str PySem.F.slot_str_removeprefix PySem.F.type_str_removeprefix mt_removeprefix (pv 0) (pa_cons pe_str pa_nil)))
 (pss_cons (ps_if (PW.pt (pw_or (pt_not (pt_truth (pv 1) (fun _ => rfl))) (pw_or (pt_cmpR op_lt (pe_cal c_run_end (hr.mono (by decide)) (pa_cons (pv 1) (pa_cons pe_int (pa_cons pe_str (pa_cons pe_str pa_nil))))) (pe_callB call_len_str (by rfl) T.len boot_len (pa_cons (pv 1) pa_nil)) (nomark _)) (pw_or1 (pt_cmpR op_gt (pe_callB call_len_str (by rfl) T.len boot_len (pa_cons (pv 1) pa_nil)) (pe_gint (by rfl) T.g_MOST_DIGITS) (nomark _))))))
 (pss_one (ps_ret pe_bl))
 pss_nil)
 (pss_one (ps_ret (pe_or (pe_cmpR op_eq (pv 0) pe_str (nomark _)) (pe_one (pe_cmpR op_ne (pe_ix ix_str (pv 1) pe_int (fun _ _ => rfl)) pe_str (nomark _)))))))), ?_⟩)
  · obtain ⟨w, rfl, _⟩ := h
    rfl
  · obtain ⟨w, rfl, hw, k⟩ := h
    have hs : w.length ≤ sizeLine := by rw [sizeLine_eq]; omega
    have hd := rempre_len w "-"
    have q := k H (Same.refl _)
    unfold isNum at q
    dsimp only at q
    refine ⟨_, rfl, rfl, _, _, rfl, rfl, hs, ?_⟩
    rw [show (Str.ofString "-" : Str) = "-" from rfl]
    generalize Txt.removeprefix w "-" = d at *
    have hds : d.length ≤ sizeLine := by omega
    have hdl : d.cps.toList.length = d.length := by rw [Array.length_toList]; rfl
    refine ⟨_, rfl, _, ⟨hds, rfl⟩, ?_⟩
    by_cases h0 : d.length = 0
    · rw [h0] at q ⊢
      rw [if_pos (.inl rfl)] at q
      exact iteT q
    · rw [show ((d.length : Int) != 0) = true by simp; omega]
      refine iteF ?_
      refine ⟨_, rfl, d, 0, 48, 57, rfl, by omega, Nat.zero_le _, _, rfl, d, rfl, hds, _, _, rfl, rfl, _, rfl, ?_⟩
      by_cases h1 : runEnd d.cps.toList 0 48 57 < d.length
      · rw [decide_eq_true (by omega)]
        rw [if_pos (.inr (.inl h1))] at q
        exact iteT q
      · rw [decide_eq_false (by omega)]
        refine iteF ?_
        refine ⟨_, rfl, d, rfl, hds, _, _, rfl, rfl, _, rfl, ?_⟩
        by_cases h2 : 30 < d.length
        · rw [decide_eq_true (by omega)]
          rw [if_pos (.inr (.inr h2))] at q
          exact iteT q
        · rw [decide_eq_false (by omega)]
          refine iteF ?_
          rw [if_neg (by rintro (z | z | z) <;> contradiction)] at q
          obtain ⟨c, hc⟩ : ∃ c, d.cps.toList[0]? = some c := ⟨_, List.getElem?_eq_getElem (by omega)⟩
          refine ⟨_, rfl, rfl, _, rfl, ?_⟩
          have e1 : decide (V.str w = V.str (Str.ofString "0")) = decide (w = "0") := decide_eq_decide.mpr ⟨fun z => V.str.inj z, fun z => by rw [z]⟩
          rw [e1]
          by_cases h3 : w = "0"
          · rw [decide_eq_true h3] at q ⊢
            exact iteT q
          · rw [decide_eq_false h3] at q ⊢
            refine iteF ?_
            refine ⟨_, rfl, d, 0, c, rfl, rfl, hds, atI_nat (j := 0) hc, rfl, ?_⟩
            rw [show (Str.ofString "0" : Str) = ⟨#[48]⟩ by decide +kernel, str_eq1]
            rw [hc, Bool.false_or] at q
            have e2 : decide (some c ≠ some 48) = !decide (c = 48) := by
              rw [← decide_not, decide_eq_decide]
              exact ⟨fun z y => z (by rw [y]), fun z y => z (Option.some.inj y)⟩
            rw [e2] at q
            exact q
theorem sc_after : FnScope ["coming", "word", "depth", "columns"] ["coming", "word", "depth", "columns"] (defScope s_after) := ⟨rfl, rfl, rfl, by decide +kernel, rfl, by decide +kernel, by decide +kernel⟩
theorem ok_after {aL fa fc fe fi : Addr} {fda fdc fde fdi : FuncData} (F : FnP K "after" s_after f fd) (T : TxR K mg aL) (c_after_atom_begins : Cal P w K mg base CX0 1 "after_atom_begins" fa fda ["word", "columns"] (spAftAtom K)) (c_after_column : Cal P w K mg base CX0 1 "after_column" fc fdc ["word"] spAftCol)
    (c_after_atom_ends : Cal P w K mg base CX0 1 "after_atom_ends" fe fde ["word", "depth"] spAftEnds) (c_is_number : Cal P w K mg base CX0 2 "is_number" fi fdi ["token"] spIsNum) : FnOk P w K mg base CX0 3 f fd ["coming", "word", "depth", "columns"] (spAft K) := by
  refine F.ok sc_after (fun vs H Q E h => ?_) (fun cdv A outer s H vs Q E hr h => ⟨_, PSs.nox (pss_cons (ps_if (pt_cmpR op_eq (pv 0) (pe_gstr (by rfl) T.g_ATOM) (nomark _))
 (pss_one (ps_ret (pe_cal c_after_atom_begins (hr.mono (by decide)) (pa_cons (pv 1) (pa_cons (pv 3) pa_nil)))))
 pss_nil)
 (pss_cons (ps_if (pt_cmpR op_eq (pv 0) (pe_gstr (by rfl) T.g_SIGN) (nomark _))
 (pss_one (ps_ret (pe_cal c_after_column (hr.mono (by decide)) (pa_cons (pv 1) pa_nil))))
 pss_nil)
 (pss_cons (ps_if (pt_cmpR op_eq (pv 0) (pe_gstr (by rfl) T.g_BEHIND) (nomark _))
 (pss_one (ps_ret (pe_cal c_after_atom_ends (hr.mono (by decide)) (pa_cons (pv 1) (pa_cons (pv 2) pa_nil)))))
 pss_nil)
 (pss_one (ps_ret (pe_ifExp (PW.pt (pw_or (pt_val (pe_cal c_is_number (hr.mono (by decide)) (pa_cons (pv 1) pa_nil))) (pw_or1 (PW.pt (pw_and (pt_cmpR op_eq (pv 0) (pe_gstr (by rfl) T.g_SIDE) (nomark _)) (pw_and1 (pt_cmpR op_in_seq (pv 1) (pv 3) (by rfl)))))))) (pe_gstr (by rfl) T.g_BEHIND) pe_non)))))), ?_⟩)
  · obtain ⟨cm, w, d, a, cols, rfl, _⟩ := h
    rfl
  · obtain ⟨cm, w, d, a, cols, rfl, hw, ha, k⟩ := h
    unfold aft at k
    refine ⟨_, rfl, rfl, _, rfl, ite2 (fun h1 => ?_) (fun h1 => ?_)⟩
    · have h1 : cm = sATOM := V.str.inj (of_decide_eq_true h1)
      rw [if_pos h1] at k
      exact ⟨_, rfl, _, rfl, w, a, cols, rfl, ha, k⟩
    · have h1 : ¬ cm = sATOM := fun z => h1 (decide_eq_true (by rw [z]))
      rw [if_neg h1] at k
      refine ⟨_, rfl, rfl, _, rfl, ite2 (fun h2 => ?_) (fun h2 => ?_)⟩
      · have h2 : cm = sSIGN := V.str.inj (of_decide_eq_true h2)
        rw [if_pos h2] at k
        exact ⟨_, rfl, w, rfl, k⟩
      · have h2 : ¬ cm = sSIGN := fun z => h2 (decide_eq_true (by rw [z]))
        rw [if_neg h2] at k
        refine ⟨_, rfl, rfl, _, rfl, ite2 (fun h3 => ?_) (fun h3 => ?_)⟩
        · have h3 : cm = sBEHIND := V.str.inj (of_decide_eq_true h3)
          rw [if_pos h3] at k
          exact ⟨_, rfl, _, rfl, w, d, rfl, k⟩
        · have h3 : ¬ cm = sBEHIND := fun z => h3 (decide_eq_true (by rw [z]))
          rw [if_neg h3] at k
          refine ⟨_, rfl, w, rfl, hw, fun H1 S1 => ?_⟩
          have k1 := k H1 S1
          refine ⟨_, rfl, ?_⟩
          by_cases h4 : isNum w = true
          · rw [h4]
            rw [if_pos (.inl h4)] at k1
            exact iteT k1
          · rw [Bool.not_eq_true] at h4
            rw [h4]
            refine iteF ?_
            refine ⟨_, rfl, rfl, _, rfl, ite2 (fun h5 => ?_) (fun h5 => ?_)⟩
            · have h5 : cm = sSIDE := V.str.inj (of_decide_eq_true h5)
              refine ⟨_, rfl, _, rfl, a, _, rfl, .inr (tup_same S1 ha), rfl, Own.flat_strs _, _, rfl, ?_⟩
              rw [inV_str]
              refine ite2 (fun h6 => ?_) (fun h6 => ?_)
              · rw [if_pos (.inr ⟨h5, of_decide_eq_true h6⟩)] at k1
                exact k1
              · rw [if_neg (by rintro (z | z); exact absurd z (by rw [h4]; decide); exact h6 (decide_eq_true z.2))] at k1
                exact k1
            · have h5 : ¬ cm = sSIDE := fun z => h5 (decide_eq_true (by rw [z]))
              rw [if_neg (by rintro (z | z); exact absurd z (by rw [h4]; decide); exact h5 z.1)] at k1
              exact iteF k1
theorem sc_wrong_place : FnScope ["found", "length", "columns", "coming", "depth", "word", "at"] ["found", "length", "columns"] (defScope s_wrong_place) := ⟨rfl, rfl, rfl, by decide +kernel, rfl, by decide +kernel, by decide +kernel⟩
theorem ok_wrong {aL fa : Addr} {fda : FuncData} (F : FnP K "wrong_place" s_wrong_place f fd) (T : TxR K mg aL) (c_after : Cal P w K mg base CX0 3 "after" fa fda ["coming", "word", "depth", "columns"] (spAft K)) : FnOk P w K mg base CX0 4 f fd ["found", "length", "columns"] (spWrong K) := by
  refine F.ok sc_wrong_place (fun vs H Q E h => ?_) (fun cdv A outer s H vs Q E hr h => ⟨_, PSs.nox (pss_cons (ps_set (i := 3) sc_wrong_place.nd rfl (Or.inl rfl) (pe_gstr (by rfl) T.g_ATOM))
 (pss_cons (ps_set (i := 4) sc_wrong_place.nd rfl (Or.inl rfl) pe_int)
 (pss_cons (ps_for PassesOwn.never rfl (pi_list (pv 0)) (pg_tup rfl (pgs_cons (pg_name (i := 5) sc_wrong_place.nd rfl (Or.inl rfl)) (pgs_cons (pg_name (i := 6) sc_wrong_place.nd rfl (Or.inl rfl)) pgs_nil)))
 (pss_cons (ps_set (i := 3) sc_wrong_place.nd rfl (Or.inl rfl) (pe_cal c_after (hr.mono (by decide)) (pa_cons (pv 3) (pa_cons (pv 5) (pa_cons (pv 4) (pa_cons (pv 2) pa_nil))))))
 (pss_cons (ps_if (pt_cmpR op_isN (pv 3) pe_non (nomark _))
 (pss_one (ps_ret (pv 6)))
 pss_nil)
 (pss_one (ps_if (pt_cmpR op_eq (pv 5) pe_str (nomark _))
 (pss_one (ps_set (i := 4) sc_wrong_place.nd rfl (Or.inl rfl) (pe_op op_add (pv 4) pe_int)))
 (pss_one (ps_if (pt_cmpR op_eq (pv 5) pe_str (nomark _))
 (pss_one (ps_set (i := 4) sc_wrong_place.nd rfl (Or.inl rfl) (pe_op op_sub (pv 4) pe_int)))
 pss_nil)))))))
 (pss_one (ps_ret (pe_ifExp (PW.pt (pw_and (pt_cmpR op_eq (pv 3) (pe_gstr (by rfl) T.g_BEHIND) (nomark _)) (pw_and1 (pt_cmpR op_eq (pv 4) pe_int (nomark _))))) pe_non (pv 1))))))), ?_⟩)
  · obtain ⟨l, xs, ps, n, a, cols, rfl, _⟩ := h
    rfl
  · obtain ⟨l, xs, ps, n, a, cols, rfl, hl, hT, hw, ha, k⟩ := h
    have hpl := Toks.len hT
    refine ⟨_, rfl, l, rfl, ⟨_, SqL.of hl⟩, ?_⟩
    refine for_list (xs := xs) (fun i σ H' => ∃ (cm : Str) (d : Int) (t5 t6 : Option V), σ = [some (.ref l), some (.int n), some (.ref a), some (.str cm), some (.int d), t5, t6] ∧ Same H H' ∧ wrongAt isNum cols n ps sATOM 0 = wrongAt isNum cols n (ps.drop i) cm d)
      ⟨_, _, _, _, rfl, Same.refl _, rfl⟩ (fun i σ H' _ ⟨_, _, _, _, _, S, _⟩ => SqL.of (S _ _ hl)) ?_ ?_
    · rintro i v σ H1 hi ⟨cm, d, t5, t6, rfl, S1, ew⟩
      obtain ⟨p, t, hp, rfl, ht⟩ := toks_get hT hi
      have ht1 := S1 _ _ ht
      obtain ⟨hil, hpe⟩ := List.getElem?_eq_some_iff.mp hp
      rw [List.drop_eq_getElem_cons hil, hpe] at ew
      have hwp := hw p (List.mem_of_getElem? hp)
      refine ⟨t, _, rfl, .inl (.inl ht1), rfl, ?_⟩
      refine ⟨_, _, rfl, _, _, rfl, rfl, ?_⟩
      refine ⟨_, rfl, _, rfl, _, rfl, _, rfl, cm, ⟨p.1.toArray⟩, d, a, cols, rfl, (by show p.1.toArray.size ≤ 1000000; rw [List.size_toArray]; exact hwp), tup_same S1 ha, fun H2 S2 => ?_⟩
      have S02 := S1.trans S2
      rcases aft_cases isNum cm ⟨p.1.toArray⟩ d cols with ⟨c, ec⟩ | ec
      · rw [wrong_str ec] at ew
        rw [ec]
        refine ⟨_, rfl, rfl, _, rfl, ?_⟩
        rw [decide_eq_false nofun]
        refine iteF ?_
        unfold dep at ew
        refine ⟨_, rfl, rfl, _, rfl, ite2 (fun h1 => ?_) (fun h1 => ?_)⟩
        · have h1 : (⟨p.1.toArray⟩ : Str) = "(" := V.str.inj (of_decide_eq_true h1)
          rw [if_pos h1] at ew
          exact ⟨_, rfl, _, _, rfl, rfl, c, _, _, _, rfl, S02, ew⟩
        · rw [if_neg (fun z => h1 (decide_eq_true (by rw [z])))] at ew
          refine ⟨_, rfl, rfl, _, rfl, ite2 (fun h2 => ?_) (fun h2 => ?_)⟩
          · have h2 : (⟨p.1.toArray⟩ : Str) = ")" := V.str.inj (of_decide_eq_true h2)
            rw [if_pos h2] at ew
            exact ⟨_, rfl, _, _, rfl, rfl, c, _, _, _, rfl, S02, ew⟩
          · rw [if_neg (fun z => h2 (decide_eq_true (by rw [z])))] at ew
            exact ⟨c, _, _, _, rfl, S02, ew⟩
      · rw [ec]
        have q := k H2 S02
        rw [ew, wrong_non ec] at q
        refine ⟨_, rfl, rfl, _, rfl, ?_⟩
        rw [decide_eq_true rfl]
        refine iteT ?_
        exact ⟨_, rfl, q⟩
    · rintro σ H1 ⟨cm, d, t5, t6, rfl, S1, ew⟩
      rw [← hpl, List.drop_length] at ew
      have q := k H1 S1
      rw [ew] at q
      unfold wrongAt at q
      refine ⟨_, rfl, rfl, _, rfl, ite2 (fun h1 => ?_) (fun h1 => ?_)⟩
      · have h1 : cm = sBEHIND := V.str.inj (of_decide_eq_true h1)
        refine ⟨_, rfl, rfl, _, rfl, ite2 (fun h2 => ?_) (fun h2 => ?_)⟩
        · have h2 : d = 0 := V.int.inj (of_decide_eq_true h2)
          rw [if_pos ⟨h1, h2⟩] at q
          exact q
        · rw [if_neg (fun z => h2 (decide_eq_true (by rw [z.2])))] at q
          exact ⟨_, rfl, q⟩
      · rw [if_neg (fun z => h1 (decide_eq_true (by rw [z.1])))] at q
        exact iteF ⟨_, rfl, q⟩
theorem sc_condition_words : FnScope ["text", "columns", "found", "at", "word", "_"] ["text", "columns"] (defScope s_condition_words) := ⟨rfl, rfl, rfl, by decide +kernel, rfl, by decide +kernel, by decide +kernel⟩
theorem ok_words {aL ft fw : Addr} {fdt fdw : FuncData} (F : FnP K "condition_words" s_condition_words f fd) (T : TxR K mg aL) (c_tokens : Cal P w K mg base CX0 3 "tokens" ft fdt ["text"] spTokens) (c_wrong_place : Cal P w K mg base CX0 4 "wrong_place" fw fdw ["found", "length", "columns"] (spWrong K)) : FnOk P w K mg base CX0 5 f fd ["text", "columns"] (spWordsC K) := by
  refine F.ok sc_condition_words (fun vs H Q E h => ?_) (fun cdv A outer s H vs Q E hr h => ⟨_, PSs.nox (pss_cons (ps_if (pt_not (pt_val (pe_callB call_isi (by rfl) T.isinstance boot_isinstance (pa_cons (pv 0) (pa_cons (pe_bltn (v := .ty "str") (by rfl) T.str boot_str rfl) pa_nil)))))
 (pss_one ps_never)
 pss_nil)
 (pss_cons (ps_set (i := 2) sc_condition_words.nd rfl (Or.inl rfl) (pe_cal c_tokens (hr.mono (by decide)) (pa_cons (pv 0) pa_nil)))
 (pss_cons (ps_set (i := 3) sc_condition_words.nd rfl (Or.inl rfl) (pe_cal c_wrong_place (hr.mono (by decide)) (pa_cons (pv 2) (pa_cons (pe_callB call_len_str (by rfl) T.len boot_len (pa_cons (pv 0) pa_nil)) (pa_cons (pv 1) pa_nil)))))
 (pss_cons (ps_if (pt_cmpR op_notN (pv 3) pe_non (nomark _))
 (pss_one ps_never)
 pss_nil)
 (pss_one (ps_ret (pe_lc (own := [("word", 4), ("_", 5)]) rfl sc_condition_words.nd (pi_list (pv 2)) (blkOk_by (N := ["text", "columns", "found", "at", "word", "_"]) (sc := defScope s_condition_words) (by decide +kernel)) (fun _ _ _ _ _ => (show PG _ _ (gTup K 2 (gCons (gName 4) (gCons (gName 5) gNil))) from (pg_tup rfl (pgs_cons (pg_name (i := 4) sc_condition_words.nd rfl (Or.inl rfl)) (pgs_cons (pg_name (i := 5) sc_condition_words.nd rfl (Or.inl rfl)) pgs_nil))))) (fun _ _ _ _ _ => pts_nil) (fun _ _ _ _ _ => (pv 4))))))))), ?_⟩)
  · obtain ⟨z, a, cols, rfl, _⟩ := h
    rfl
  · obtain ⟨z, a, cols, rfl, hz, ha, hok, k⟩ := h
    have hs : z.length ≤ sizeLine := by rw [sizeLine_eq]; omega
    have hzl : z.cps.toList.length = z.length := by rw [Array.length_toList]; rfl
    refine ⟨_, rfl, _, _, _, _, _, rfl, .ty _, kd_ok (t := .str) rfl, kit_str .str, _, rfl, ?_⟩
    refine iteF ?_
    refine ⟨_, rfl, z, rfl, hz, fun l xs H1 S1 nl hl hT => ?_⟩
    refine ⟨_, rfl, _, rfl, z, rfl, hs, _, rfl, l, xs, _, z.length, a, cols, rfl, hl, hT, (fun p hp => by have := toks_small hp; omega), tup_same S1 ha, fun H2 S2 => ?_⟩
    rw [hok]
    refine ⟨_, rfl, rfl, _, rfl, ?_⟩
    rw [decide_eq_true rfl]
    refine iteF ?_
    have hl2 := S2 _ _ hl
    have hT2 := Toks.lsts (Lsts.same S2) hT
    have hpl := Toks.len hT
    have hpz : (toksL z.cps.toList).length ≤ 1000000 := Nat.le_trans (toks_count _ _) (by omega)
    refine ⟨_, rfl, l, rfl, ⟨_, SqL.of hl2⟩, fun D nD => ?_⟩
    have nlD : l ≠ D := ne_of_none hl2 nD
    refine lc_list (xs := xs) (fun i H' => H' = upd H2 D (.lst (((cwords z.cps.toList).take i).map V.str))) rfl (fun i H' _ e => by subst e; exact SqL.of (by rw [upd_ne nlD]; exact hl2)) (fun i v H' hi e => ?_) (fun H' e => ?_)
    · subst e
      obtain ⟨p, t, hp, rfl, ht⟩ := toks_get hT2 hi
      have ntD : t ≠ D := ne_of_none ht nD
      have ht1 : upd H2 D (.lst (((cwords z.cps.toList).take i).map V.str)) t = some (.tup [.str ⟨p.1.toArray⟩, .int (p.2 : Nat)]) := by rw [upd_ne ntD]; exact ht
      refine ⟨t, _, rfl, SqT.of ht1, rfl, ?_⟩
      refine ⟨_, _, rfl, _, _, rfl, rfl, rfl, ?_⟩
      refine ⟨_, rfl, _, upd_same, (by rw [List.length_map, List.length_take, sizeLine_eq]; unfold cwords; rw [List.length_map]; omega), ?_⟩
      have hw : (cwords z.cps.toList)[i]? = some ⟨p.1.toArray⟩ := by
        unfold cwords
        rw [List.getElem?_map, hp]
        rfl
      rw [upd_upd, take_snoc hw, List.map_append]
      rfl
    · subst e
      have e : (cwords z.cps.toList).take xs.length = cwords z.cps.toList := by
        rw [← hpl]
        unfold cwords
        rw [← List.map_take, List.take_length]
      rw [e]
      have SD := same_newH (o := .lst ((cwords z.cps.toList).map V.str)) nD
      exact k D _ ((S1.trans S2).trans SD) ((S1.trans S2).free nD) upd_same

end
end K07

namespace Own
open PySem PySem.Spec PyProof.Rows L2
theorem toks_places {cs : List Nat} : ∀ {n i : Nat} {p : List Nat × Nat}, p ∈ toksF cs n i → p.2 < cs.length
  | 0, _, _, h => by cases h
  | n + 1, i, p, h => by
    unfold toksF at h
    split at h
    · rcases List.mem_append.mp h with h | h
      · split at h
        · cases h
        · rw [List.mem_singleton.mp h]
          assumption
      · exact toks_places h
    · cases h
theorem wrong_bound {num : Str → Bool} {cols : List Str} {n : Nat} : ∀ {ps : List (List Nat × Nat)} {cm : Str} {d : Int}, (∀ p ∈ ps, p.2 < n) → wrongAt num cols n ps cm d = .non ∨ ∃ i : Nat, wrongAt num cols n ps cm d = .int i ∧ i ≤ n
  | [], cm, d, _ => by
    by_cases q : cm = sBEHIND ∧ d = 0
    · exact .inl (if_pos q)
    · exact .inr ⟨n, if_neg q, Nat.le_refl _⟩
  | p :: ps, cm, d, h => by
    rcases aft_cases num cm ⟨p.1.toArray⟩ d cols with ⟨c, ec⟩ | ec
    · rw [wrong_str ec]
      exact wrong_bound fun q hq => h q (List.mem_cons_of_mem _ hq)
    · rw [wrong_non ec]
      exact .inr ⟨p.2, rfl, Nat.le_of_lt (h p List.mem_cons_self)⟩
end Own

namespace K07
open PySem PySem.Spec PyProof.Rows L2 Own
/-- what condition_words promises of any value: words, or BadCondition with a place -/
def spWordsX (K : PySem.W.Frag) (CB : Addr) : Sp := fun vs H Q E => ∃ (v : V) (t : Kd) (a : Addr) (cols : List Str), vs = [v, .ref a] ∧ kd H v = some t ∧ SqT K H a (cols.map V.str) ∧ (∀ z, v = .str z → z.length ≤ 1000000) ∧
  (t ≠ .str → ∀ d H', Same H H' → H' d = some (.xd [("at", .int (-1))]) → E (.ref CB) (some d) H') ∧
  (∀ z, v = .str z → wrongAt isNum cols z.length (toksL z.cps.toList) sATOM 0 = .non → ∀ (l : Addr) (H' : Hp), Same H H' → H l = none → H' l = some (.lst ((cwords z.cps.toList).map V.str)) → Q (.ref l) H') ∧
  (∀ z (i : Int), v = .str z → wrongAt isNum cols z.length (toksL z.cps.toList) sATOM 0 = .int i → ∀ d H', Same H H' → H' d = some (.xd [("at", .int i)]) → E (.ref CB) (some d) H')
section
variable {P : Program} {w : World} {K : PySem.W.Frag} {mg : Str → Option Value} {base : Heap} {f C : Addr} {fd : FuncData}
theorem ok_wordsX {aL ft fw CB fe : Addr} {fdt fdw fde : FuncData} (F : FnP K "condition_words" s_condition_words f fd) (T : TxR K mg aL) (c_tokens : Cal P w K mg base CX0 3 "tokens" ft fdt ["text"] spTokens) (c_wrong_place : Cal P w K mg base CX0 4 "wrong_place" fw fdw ["found", "length", "columns"] (spWrong K))
    (c_BadCondition : CalE P w K mg base CX0 2 "BadCondition" CB fe fde ["self", "at"] (spErrInt CB "at")) : FnOk P w K mg base (L2.CX P w) 5 f fd ["text", "columns"] (spWordsX K CB) := by
  refine F.ok sc_condition_words (fun vs H Q E h => ?_) (fun cdv A outer s H vs Q E hr h => ⟨_, (pss_cons (ps_if (pt_not (pt_val (pe_callB call_isi (by rfl) T.isinstance boot_isinstance (pa_cons (pv 0) (pa_cons (pe_bltn (v := .ty "str") (by rfl) T.str boot_str rfl) pa_nil)))))
 (pss_one (ps_raiseE c_BadCondition (hr.mono (by decide)) rfl (takes_of rfl rfl rfl rfl) (pa_cons (pe_un un_neg pe_int) pa_nil)))
 pss_nil)
 (pss_cons (ps_set (i := 2) sc_condition_words.nd rfl (Or.inl rfl) (pe_cal c_tokens (hr.mono (by decide)) (pa_cons (pv 0) pa_nil)))
 (pss_cons (ps_set (i := 3) sc_condition_words.nd rfl (Or.inl rfl) (pe_cal c_wrong_place (hr.mono (by decide)) (pa_cons (pv 2) (pa_cons (pe_callB call_len_str (by rfl) T.len boot_len (pa_cons (pv 0) pa_nil)) (pa_cons (pv 1) pa_nil)))))
 (pss_cons (ps_if (pt_cmpR op_notN (pv 3) pe_non (nomark _))
 (pss_one (ps_raiseE c_BadCondition (hr.mono (by decide)) rfl (takes_of rfl rfl rfl rfl) (pa_cons (pv 3) pa_nil)))
 pss_nil)
 (pss_one (ps_ret (pe_lc (own := [("word", 4), ("_", 5)]) rfl sc_condition_words.nd (pi_list (pv 2)) (blkOk_by (N := ["text", "columns", "found", "at", "word", "_"]) (sc := defScope s_condition_words) (by decide +kernel)) (fun _ _ _ _ _ => (show PG _ _ (gTup K 2 (gCons (gName 4) (gCons (gName 5) gNil))) from (pg_tup rfl (pgs_cons (pg_name (i := 4) sc_condition_words.nd rfl (Or.inl rfl)) (pgs_cons (pg_name (i := 5) sc_condition_words.nd rfl (Or.inl rfl)) pgs_nil))))) (fun _ _ _ _ _ => pts_nil) (fun _ _ _ _ _ => (pv 4))))))))), ?_⟩)
  · obtain ⟨v, t, a, cols, rfl, _⟩ := h
    rfl
  · obtain ⟨v, t, a, cols, rfl, ht, ha, hz, kT, k, kE⟩ := h
    refine ⟨_, rfl, _, _, _, _, _, rfl, .ty _, kd_ok ht, kit_str t, _, rfl, ?_⟩
    by_cases e : t = .str
    · subst e
      obtain ⟨z, rfl⟩ := kd_str ht
      have hz := hz z rfl
      have hs : z.length ≤ sizeLine := by rw [sizeLine_eq]; omega
      have hzl : z.cps.toList.length = z.length := by rw [Array.length_toList]; rfl
      refine iteNS rfl ?_
      refine ⟨_, rfl, z, rfl, hz, fun l xs H1 S1 nl hl hT => ?_⟩
      refine ⟨_, rfl, _, rfl, z, rfl, hs, _, rfl, l, xs, _, z.length, a, cols, rfl, hl, hT, (fun p hp => by have := toks_small hp; omega), tup_same S1 ha, fun H2 S2 => ?_⟩
      rcases wrong_bound (num := isNum) (cols := cols) (n := z.length) (ps := toksL z.cps.toList) (cm := sATOM) (d := 0) (fun p hp => by have := toks_places hp; omega) with hok | ⟨i, hok, hi⟩
      · rw [hok]
        refine ⟨_, rfl, rfl, _, rfl, ?_⟩
        rw [decide_eq_true rfl]
        refine iteF ?_
        have hl2 := S2 _ _ hl
        have hT2 := Toks.lsts (Lsts.same S2) hT
        have hpl := Toks.len hT
        have hpz : (toksL z.cps.toList).length ≤ 1000000 := Nat.le_trans (toks_count _ _) (by omega)
        refine ⟨_, rfl, l, rfl, ⟨_, SqL.of hl2⟩, fun D nD => ?_⟩
        have nlD : l ≠ D := ne_of_none hl2 nD
        refine lc_list (xs := xs) (fun i H' => H' = upd H2 D (.lst (((cwords z.cps.toList).take i).map V.str))) rfl (fun i H' _ e => by subst e; exact SqL.of (by rw [upd_ne nlD]; exact hl2)) (fun i v H' hi e => ?_) (fun H' e => ?_)
        · subst e
          obtain ⟨p, t, hp, rfl, ht⟩ := toks_get hT2 hi
          have ntD : t ≠ D := ne_of_none ht nD
          have ht1 : upd H2 D (.lst (((cwords z.cps.toList).take i).map V.str)) t = some (.tup [.str ⟨p.1.toArray⟩, .int (p.2 : Nat)]) := by rw [upd_ne ntD]; exact ht
          refine ⟨t, _, rfl, SqT.of ht1, rfl, ?_⟩
          refine ⟨_, _, rfl, _, _, rfl, rfl, rfl, ?_⟩
          refine ⟨_, rfl, _, upd_same, (by rw [List.length_map, List.length_take, sizeLine_eq]; unfold cwords; rw [List.length_map]; omega), ?_⟩
          have hw : (cwords z.cps.toList)[i]? = some ⟨p.1.toArray⟩ := by
            unfold cwords
            rw [List.getElem?_map, hp]
            rfl
          rw [upd_upd, take_snoc hw, List.map_append]
          rfl
        · subst e
          have e : (cwords z.cps.toList).take xs.length = cwords z.cps.toList := by
            rw [← hpl]
            unfold cwords
            rw [← List.map_take, List.take_length]
          rw [e]
          have SD := same_newH (o := .lst ((cwords z.cps.toList).map V.str)) nD
          exact k z rfl hok D _ ((S1.trans S2).trans SD) ((S1.trans S2).free nD) upd_same
      · rw [hok]
        refine ⟨_, rfl, rfl, _, rfl, ?_⟩
        rw [decide_eq_false nofun]
        refine iteT ?_
        have S02 := S1.trans S2
        refine ⟨_, rfl, (by show 1 ≤ 1000; decide), fun x nx => ⟨x, i, rfl, upd_same, ?_, fun d' nd ndx => ?_⟩⟩
        · have e10 : (1000001 : Nat) ≤ 10 ^ 100 := by decide +kernel
          generalize (10 : Nat) ^ 100 = BB at *
          omega
        · rw [upd_ne ndx] at nd
          refine ⟨rfl, d', [("at", .int i)], upd_same, by rw [upd_ne ndx, upd_same], nd, kE z i rfl hok d' _ (fun q o e => ?_) upd_same⟩
          have e1 := S02 _ _ e
          rw [upd_ne (ne_of_none e1 nd), del_ne (ne_of_none e1 nx), upd_ne (ne_of_none e1 nx), upd_ne (ne_of_none e1 nd), upd_ne (ne_of_none e1 nx)]
          exact e1
    · rw [decide_eq_false e]
      refine iteT ?_
      refine ⟨_, rfl, (by show 1 ≤ 1000; decide), fun x nx => ⟨x, -1, rfl, upd_same, by decide +kernel, fun d' nd ndx => ?_⟩⟩
      rw [upd_ne ndx] at nd
      refine ⟨rfl, d', [("at", .int (-1))], upd_same, by rw [upd_ne ndx, upd_same], nd, kT e d' _ (fun q o e1 => ?_) upd_same⟩
      rw [upd_ne (ne_of_none e1 nd), del_ne (ne_of_none e1 nx), upd_ne (ne_of_none e1 nx), upd_ne (ne_of_none e1 nd), upd_ne (ne_of_none e1 nx)]
      exact e1
end
end K07

namespace Own
open PySem PySem.Spec PyProof.Rows L2
/-! ### lists of things that stand for values, one by one -/
def Al {α : Type} (R : α → V → Prop) (as : List α) (xs : List V) : Prop := as.length = xs.length ∧ ∀ (i : Nat) (a : α) (x : V), as[i]? = some a → xs[i]? = some x → R a x
section
variable {α : Type} {R S : α → V → Prop} {as bs : List α} {xs ys : List V}
theorem Al.nil : Al R [] [] := ⟨rfl, fun i a x h => by cases h⟩
theorem Al.mono (h : Al R as xs) (f : ∀ a x, R a x → S a x) : Al S as xs := ⟨h.1, fun i a x h1 h2 => f _ _ (h.2 i a x h1 h2)⟩
theorem Al.get {i : Nat} {x : V} (h : Al R as xs) (e : xs[i]? = some x) : ∃ a, as[i]? = some a ∧ R a x := by
  have hi := (List.getElem?_eq_some_iff.mp e).1
  have hj : i < as.length := by rw [h.1]; exact hi
  exact ⟨as[i], List.getElem?_eq_getElem hj, h.2 i _ _ (List.getElem?_eq_getElem hj) e⟩
theorem Al.get' {i : Nat} {a : α} (h : Al R as xs) (e : as[i]? = some a) : ∃ x, xs[i]? = some x ∧ R a x := by
  have hi := (List.getElem?_eq_some_iff.mp e).1
  have hj : i < xs.length := by rw [← h.1]; exact hi
  exact ⟨xs[i], List.getElem?_eq_getElem hj, h.2 i _ _ e (List.getElem?_eq_getElem hj)⟩
theorem Al.app (h : Al R as xs) (k : Al R bs ys) : Al R (as ++ bs) (xs ++ ys) := by
  refine ⟨by rw [List.length_append, List.length_append, h.1, k.1], fun i a x e1 e2 => ?_⟩
  by_cases q : i < as.length
  · rw [List.getElem?_append_left q] at e1
    rw [List.getElem?_append_left (by rw [← h.1]; exact q)] at e2
    exact h.2 i a x e1 e2
  · rw [List.getElem?_append_right (by omega)] at e1
    rw [List.getElem?_append_right (by rw [← h.1]; omega), ← h.1] at e2
    exact k.2 _ a x e1 e2
theorem Al.one {a : α} {x : V} (h : R a x) : Al R [a] [x] := ⟨rfl, fun i b y e1 e2 => by
  cases i with
  | zero => cases e1; cases e2; exact h
  | succ i => cases e1⟩
theorem Al.snoc {a : α} {x : V} (h : Al R as xs) (k : R a x) : Al R (as ++ [a]) (xs ++ [x]) := h.app (.one k)
theorem Al.dropLast (h : Al R as xs) : Al R as.dropLast xs.dropLast := by
  refine ⟨by rw [List.length_dropLast, List.length_dropLast, h.1], fun i a x e1 e2 => ?_⟩
  rw [List.getElem?_dropLast] at e1 e2
  split at e1
  · split at e2
    · exact h.2 i a x e1 e2
    · cases e2
  · cases e1
theorem Al.rev (h : Al R as xs) : Al R as.reverse xs.reverse := by
  refine ⟨by rw [List.length_reverse, List.length_reverse, h.1], fun i a x e1 e2 => ?_⟩
  have i1 := (List.getElem?_eq_some_iff.mp e1).1
  have i2 := (List.getElem?_eq_some_iff.mp e2).1
  rw [List.length_reverse] at i1 i2
  rw [List.getElem?_reverse i1] at e1
  rw [List.getElem?_reverse i2] at e2
  rw [h.1] at e1
  exact h.2 _ a x e1 e2
theorem Al.drop (n : Nat) (h : Al R as xs) : Al R (as.drop n) (xs.drop n) := by
  refine ⟨by rw [List.length_drop, List.length_drop, h.1], fun i a x e1 e2 => ?_⟩
  rw [List.getElem?_drop] at e1 e2
  exact h.2 _ a x e1 e2
end
/-! ### tests, the items of a text, trees -/
abbrev Tst := Nat × Str × (Nat ⊕ Int)
def tstV : Tst → List V
  | (a, sg, .inl j) => [.int (a : Nat), .str sg, .int (j : Nat), .non]
  | (a, sg, .inr n) => [.int (a : Nat), .str sg, .non, .int n]
def tstD : Tst → PyData
  | (a, sg, .inl j) => .tuple [.int (a : Nat), .str sg, .int (j : Nat), .none]
  | (a, sg, .inr n) => .tuple [.int (a : Nat), .str sg, .none, .int n]
inductive Itm where
  | wd (s : Str) | ts (t : Tst)
  deriving DecidableEq
def signL : List Str := ["=", "!=", "<", "<=", ">", ">="]
def ItmAt (H : Hp) : Itm → V → Prop
  | .wd s, v => v = .str s
  | .ts t, v => ∃ p, v = .ref p ∧ H p = some (.tup (tstV t)) ∧ t.2.1 ∈ signL
theorem ItmAt.lsts {H H' : Hp} (e : Lsts H H') : ∀ {i : Itm} {v : V}, ItmAt H i v → ItmAt H' i v
  | .wd _, _, h => h
  | .ts _, _, ⟨p, h1, h2, h3⟩ => ⟨p, h1, e _ _ h2 nofun, h3⟩
abbrev Itms (H : Hp) : List Itm → List V → Prop := Al (ItmAt H)
theorem Itms.lsts {H H' : Hp} (e : Lsts H H') {is : List Itm} {xs : List V} (h : Itms H is xs) : Itms H' is xs := Al.mono h fun _ _ q => q.lsts e
def itmD : Itm → PyData
  | .wd s => .str s
  | .ts t => tstD t
theorem tst_dp {K : PySem.W.Frag} {H : Hp} : ∀ t : Tst, DpAll K H (tstV t) (match t with
  | (a, sg, .inl j) => [.int (a : Nat), .str sg, .int (j : Nat), .none]
  | (a, sg, .inr n) => [.int (a : Nat), .str sg, .none, .int n])
  | (_, _, .inl _) => .cons (.int _) (.cons (.str _) (.cons (.int _) (.cons .non .nil)))
  | (_, _, .inr _) => .cons (.int _) (.cons (.str _) (.cons .non (.cons (.int _) .nil)))
theorem ItmAt.dp {K : PySem.W.Frag} {H : Hp} : ∀ {i : Itm} {v : V}, ItmAt H i v → Dp K H v (itmD i)
  | .wd s, _, h => by rw [show _ = V.str s from h]; exact .str s
  | .ts (a, sg, .inl j), _, ⟨p, h1, h2, _⟩ => by rw [h1]; exact .tup (SqT.of h2) (tst_dp (a, sg, .inl j))
  | .ts (a, sg, .inr n), _, ⟨p, h1, h2, _⟩ => by rw [h1]; exact .tup (SqT.of h2) (tst_dp (a, sg, .inr n))
theorem sign_ok {s : Str} (h : s ∈ signL) : PyData.strOk s = true := by
  have q : ∀ s ∈ signL, PyData.strOk s = true := by decide +kernel
  exact q s h
theorem tst_shaped {t : Tst} (h : t.2.1 ∈ signL) : SeqAt.shaped (tstD t) = true := by
  obtain ⟨a, sg, q⟩ := t
  have h := sign_ok h
  cases q <;>
  · unfold SeqAt.shaped tstD
    simp only [PyData.canLay0, PyData.canLayAll0, PyData.depth, PyData.depthAll]
    rw [show PyData.strOk sg = true from h]
    rfl
theorem eqv_strD (a b : Str) : PyData.eqv (.str a) (.str b) = decide (a = b) := by
  simp only [PyData.eqv]
  rw [Bool.eq_iff_iff]
  simp
/-- an item is one of some words -/
theorem any_words (ws : List Str) : ∀ i : Itm, ((ws.map PyData.str).any fun z => PyData.eqv z (itmD i)) = (match i with | .wd s => decide (s ∈ ws) | .ts _ => false)
  | .wd s => by
    rw [Bool.eq_iff_iff, List.any_map, List.any_eq_true, decide_eq_true_eq]
    constructor
    · rintro ⟨z, hz, e⟩
      have e : PyData.eqv (.str z) (.str s) = true := e
      rw [eqv_strD, decide_eq_true_eq] at e
      exact e ▸ hz
    · intro h
      exact ⟨s, h, by show PyData.eqv (.str s) (.str s) = true; rw [eqv_strD, decide_eq_true_eq]⟩
  | .ts (a, sg, .inl j) => by
    rw [List.any_map, List.any_eq_false]
    intro z _
    exact nofun
  | .ts (a, sg, .inr n) => by
    rw [List.any_map, List.any_eq_false]
    intro z _
    exact nofun
theorem eqv_word (w : Str) : ∀ i : Itm, PyData.eqv (itmD i) (.str w) = (match i with | .wd s => decide (s = w) | .ts _ => false)
  | .wd s => eqv_strD s w
  | .ts (a, sg, .inl j) => rfl
  | .ts (a, sg, .inr n) => rfl
theorem strs_shapedT {ws : List Str} (h : ws.all PyData.strOk = true) : SeqAt.shaped (.tuple (ws.map PyData.str)) = true := by
  have h : ∀ l : List Str, l.all PyData.strOk = true → PyData.canLayAll0 (l.map PyData.str) = true ∧ PyData.depthAll (l.map PyData.str) = 0 := fun l => by
    induction l with
    | nil => exact fun _ => ⟨rfl, rfl⟩
    | cons a l ih =>
      intro h
      rw [List.all_cons, Bool.and_eq_true] at h
      simp only [List.map_cons, PyData.canLayAll0, PyData.depthAll, PyData.canLay0, PyData.depth, (ih h.2).1, (ih h.2).2, h.1]
      exact ⟨rfl, rfl⟩
  unfold SeqAt.shaped
  simp only [PyData.canLay0, PyData.depth, (h ws ‹_›).1, (h ws ‹_›).2]
  rfl
inductive Tr where
  | lf (i : Itm) | neg (t : Tr) | bin (s : Str) (l r : Tr)
def TrAt (H : Hp) : Tr → V → Prop
  | .lf i, v => ∃ p x, v = .ref p ∧ H p = some (.tup [x]) ∧ ItmAt H i x
  | .neg t, v => ∃ p x, v = .ref p ∧ H p = some (.tup [.str "~", x]) ∧ TrAt H t x
  | .bin s l r, v => ∃ p x y, v = .ref p ∧ H p = some (.tup [.str s, x, y]) ∧ TrAt H l x ∧ TrAt H r y
theorem TrAt.lsts {H H' : Hp} (e : Lsts H H') : ∀ {t : Tr} {v : V}, TrAt H t v → TrAt H' t v
  | .lf i, _, ⟨p, x, h, h1, h2⟩ => ⟨p, x, h, e _ _ h1 nofun, h2.lsts e⟩
  | .neg t, _, ⟨p, x, h, h1, h2⟩ => ⟨p, x, h, e _ _ h1 nofun, TrAt.lsts e h2⟩
  | .bin s l r, _, ⟨p, x, y, h, h1, h2, h3⟩ => ⟨p, x, y, h, e _ _ h1 nofun, TrAt.lsts e h2, TrAt.lsts e h3⟩
def OTr (H : Hp) : Option Tr → V → Prop
  | none, v => v = .non
  | some t, v => TrAt H t v
theorem OTr.lsts {H H' : Hp} (e : Lsts H H') : ∀ {o : Option Tr} {v : V}, OTr H o v → OTr H' o v
  | none, _, h => h
  | some _, _, h => TrAt.lsts e h
theorem TrAt.ref {H : Hp} : ∀ {t : Tr} {v : V}, TrAt H t v → ∃ p, v = .ref p
  | .lf _, _, ⟨p, _, h, _⟩ => ⟨p, h⟩
  | .neg _, _, ⟨p, _, h, _⟩ => ⟨p, h⟩
  | .bin _ _ _, _, ⟨p, _, _, h, _⟩ => ⟨p, h⟩
theorem OTr.non {H : Hp} : ∀ {o : Option Tr} {v : V}, OTr H o v → decide (v = .non) = o.isNone
  | none, _, h => by rw [show _ = V.non from h]; rfl
  | some t, _, h => by
    obtain ⟨p, rfl⟩ := TrAt.ref h
    rfl
abbrev OTrs (H : Hp) : List (Option Tr) → List V → Prop := Al (OTr H)
theorem OTrs.lsts {H H' : Hp} (e : Lsts H H') {is : List (Option Tr)} {xs : List V} (h : OTrs H is xs) : OTrs H' is xs := Al.mono h fun _ _ q => q.lsts e
/-! ### what with_signs_behind and tree_of do -/
def rank (w : Str) : Nat := if w = "(" then 0 else if w = "|" then 1 else if w = "&" then 2 else 3
def popTo (pl : List Itm) : List Str → Option (List Itm × List Str)
  | [] => none
  | w :: W => if w = "(" then some (pl, W) else popTo (pl ++ [.wd w]) W
def popRank (r : Nat) (pl : List Itm) : List Str → List Itm × List Str
  | [] => (pl, [])
  | w :: W => if r ≤ rank w then popRank r (pl ++ [.wd w]) W else (pl, w :: W)
theorem popRank_cons (r : Nat) (pl : List Itm) (w : Str) (W : List Str) : popRank r pl (w :: W) = if r ≤ rank w then popRank r (pl ++ [.wd w]) W else (pl, w :: W) := rfl
def shStep (pl : List Itm) (W : List Str) : Itm → Option (List Itm × List Str)
  | .ts t => some (pl ++ [.ts t], W)
  | .wd w => if w ∈ (["(", "~"] : List Str) then some (pl, w :: W) else if w = ")" then popTo pl W
    else if w ∈ (["&", "|"] : List Str) then some ((popRank (rank w) pl W).1, w :: (popRank (rank w) pl W).2) else some (pl ++ [.wd w], W)
theorem shStep_wd (pl : List Itm) (W : List Str) (w : Str) : shStep pl W (.wd w) = if w ∈ (["(", "~"] : List Str) then some (pl, w :: W) else if w = ")" then popTo pl W
    else if w ∈ (["&", "|"] : List Str) then some ((popRank (rank w) pl W).1, w :: (popRank (rank w) pl W).2) else some (pl ++ [.wd w], W) := rfl
def shRun : List Itm → List Itm → List Str → Option (List Itm × List Str)
  | [], pl, W => some (pl, W)
  | i :: r, pl, W => (shStep pl W i).bind fun q => shRun r q.1 q.2
def shunt (its : List Itm) : Option (List Itm) := (shRun its [] []).map fun q => q.1 ++ q.2.map .wd
def tJoin (s : Str) : Option Tr → Option Tr → Option Tr
  | none, r => r
  | some l, none => some l
  | some l, some r => some (.bin s l r)
def tNeg (o : Option Tr) : Option Tr := o.map .neg
def tStep (st : List (Option Tr)) : Itm → Option (List (Option Tr))
  | .ts t => some (st ++ [some (.lf (.ts t))])
  | .wd w => if w = "~" then st.getLast?.map fun t => st.dropLast ++ [tNeg t]
    else if w ∈ (["&", "|"] : List Str) then st.getLast?.bind fun r => st.dropLast.getLast?.map fun l => st.dropLast.dropLast ++ [tJoin w l r]
    else some (st ++ [if w = "blank" then none else some (.lf (.wd w))])
theorem tStep_wd (st : List (Option Tr)) (w : Str) : tStep st (.wd w) = if w = "~" then st.getLast?.map fun t => st.dropLast ++ [tNeg t]
    else if w ∈ (["&", "|"] : List Str) then st.getLast?.bind fun r => st.dropLast.getLast?.map fun l => st.dropLast.dropLast ++ [tJoin w l r]
    else some (st ++ [if w = "blank" then none else some (.lf (.wd w))]) := rfl
def tRun : List Itm → List (Option Tr) → Option (List (Option Tr))
  | [], st => some st
  | i :: r, st => (tStep st i).bind (tRun r)
def treeOf (its : List Itm) : Option (Option Tr) := (shunt its).bind fun c => (tRun c []).bind fun st => st[0]?
theorem shRun_app : ∀ (a b pl : List Itm) (W : List Str), shRun (a ++ b) pl W = (shRun a pl W).bind fun q => shRun b q.1 q.2
  | [], b, pl, W => rfl
  | x :: a, b, pl, W => by
    show (shStep pl W x).bind (fun q => shRun (a ++ b) q.1 q.2) = ((shStep pl W x).bind fun q => shRun a q.1 q.2).bind _
    rw [Option.bind_assoc]
    congr 1
    funext q
    exact shRun_app a b q.1 q.2
theorem tRun_app : ∀ (a b : List Itm) (st : List (Option Tr)), tRun (a ++ b) st = (tRun a st).bind (tRun b)
  | [], b, st => rfl
  | x :: a, b, st => by
    show (tStep st x).bind (tRun (a ++ b)) = ((tStep st x).bind (tRun a)).bind _
    rw [Option.bind_assoc]
    congr 1
    funext q
    exact tRun_app a b q
/-! ### the words of a text as items -/
def numV (w : Str) : Int := (intText? w).getD 0
def tstOf (cols : List Str) (w s x : Str) : Tst := (cols.idxOf w, s, if x ∈ cols then .inl (cols.idxOf x) else .inr (numV x))
inductive Items (cols : List Str) : List Str → List Itm → Prop
  | nil : Items cols [] []
  | wd {w : Str} {r : List Str} {q : List Itm} (h : w ∉ cols) (t : Items cols r q) : Items cols (w :: r) (.wd w :: q)
  | ts {w s x : Str} {r : List Str} {q : List Itm} (h : w ∈ cols) (hs : s ∈ signL) (hx : x ∈ cols ∨ isNum x = true) (t : Items cols r q) : Items cols (w :: s :: x :: r) (.ts (tstOf cols w s x) :: q)
theorem Items.app {cols : List Str} {a : List Str} {p : List Itm} {b : List Str} {q : List Itm} (h : Items cols a p) (k : Items cols b q) : Items cols (a ++ b) (p ++ q) := by
  induction h with
  | nil => exact k
  | wd h t ih => exact .wd h ih
  | ts h hs hx t ih => exact .ts h hs hx ih
/-! ### numbers in texts -/
theorem rempre_minus (w : Str) : (Txt.removeprefix w "-").cps.toList = if w.cps.toList.head? = some 45 then w.cps.toList.tail else w.cps.toList := by
  have e45 : (("-" : Str)).cps.toList = [45] := by decide +kernel
  have l45 : ("-" : Str).length = 1 := by decide +kernel
  have hl : w.cps.toList.length = w.length := Array.length_toList
  unfold Txt.removeprefix
  rw [PySem.StrLaws.subAt_eq, l45, e45, List.drop_zero]
  cases h : w.cps.toList with
  | nil => exact h
  | cons c r =>
    rw [h] at hl
    rw [List.length_cons] at hl
    by_cases q : c = 45
    · rw [if_pos (by rw [q]; rfl), if_pos (by rw [q]; rfl)]
      by_cases z : w.length - 1 = w.length
      · omega
      · show (if (w.length - 1 == w.length) = true then w else Builtin.Str.strSub w 1 w.length).cps.toList = _
        rw [if_neg (by rw [beq_iff_eq]; exact z)]
        rw [PySem.StrLaws.strSub_toList, h, ← hl]
        show ((c :: r).drop 1).take _ = r
        rw [List.drop_one, List.tail_cons]
        exact List.take_of_length_le (by omega)
    · rw [if_neg (by simpa using q), if_neg (by simpa using q)]
      exact h
theorem run_digits : ∀ (cs : List Nat), ¬ runEnd cs 0 48 57 < cs.length → NumText.AllDigits cs := fun cs h c hc => by
  unfold runEnd at h
  rw [List.drop_zero, Nat.zero_add] at h
  have p := List.takeWhile_prefix (inRun 48 57) (l := cs)
  have e := p.eq_of_length_le (by omega)
  rw [← e] at hc
  have q := List.all_eq_true.mp (List.all_takeWhile (p := inRun 48 57) (l := cs)) c hc
  unfold inRun at q
  simpa using q
theorem num_int {w : Str} (h : isNum w = true) : intText? w = some (numV w) ∧ w.length ≤ 640 := by
  unfold isNum at h
  dsimp only at h
  have e := rempre_minus w
  have l := rempre_len w "-"
  have hwl : w.cps.toList.length = w.length := Array.length_toList
  generalize Txt.removeprefix w "-" = d at *
  have hdl : d.cps.toList.length = d.length := Array.length_toList
  split at h
  · cases h
  · rename_i n
    have n1 : ¬ d.length = 0 := fun z => n (.inl z)
    have n2 : ¬ runEnd d.cps.toList 0 48 57 < d.cps.toList.length := fun z => n (.inr (.inl (by omega)))
    have n3 : ¬ 30 < d.length := fun z => n (.inr (.inr z))
    have ad := run_digits _ n2
    have hne : d.cps.toList ≠ [] := fun z => by rw [z] at hdl; exact n1 hdl.symm
    by_cases q : w.cps.toList.head? = some 45
    · rw [if_pos q] at e
      cases hw : w.cps.toList with
      | nil => rw [hw] at q; cases q
      | cons c r =>
        rw [hw] at q e hwl
        cases q
        rw [List.tail_cons] at e
        rw [List.length_cons] at hwl
        rw [e] at ad hne hdl
        have k := PySem.intText_neg hw ad hne (by omega)
        unfold numV
        rw [k]
        exact ⟨rfl, by omega⟩
    · rw [if_neg q] at e
      rw [e] at ad hne hdl
      have k := PySem.intText_digits ad hne (by omega)
      unfold numV
      rw [k]
      exact ⟨rfl, by omega⟩
end Own

namespace Own
open PySem PySem.Spec PyProof.Rows L2
/-! ### a tuple that is known to its object: its methods may be called -/
def FzT (H : Hp) (a : Addr) (xs : List V) : Prop := ∃ o : Obj, H a = some (.frz o (.tup xs)) ∧ o.cls = .type "tuple" ∧ o.dict = none
theorem FzT.seq {K : PySem.W.Frag} {H : Hp} {a : Addr} {xs : List V} : FzT H a xs → SqT K H a xs
  | ⟨_, h, _⟩ => .inl (.inr ⟨_, h⟩)
theorem FzT.lsts {H H' : Hp} {a : Addr} {xs : List V} (e : Lsts H H') : FzT H a xs → FzT H' a xs
  | ⟨o, h, h1⟩ => ⟨o, e _ _ h nofun, h1⟩
theorem FzT.ne {H : Hp} {a b : Addr} {xs : List V} (h : FzT H a xs) (n : H b = none) : a ≠ b := by
  obtain ⟨o, h, _⟩ := h
  exact ne_of_none h n
/-- a heap with a new tuple that is known -/
def FzN (H : Hp) (p : Addr) (xs : List V) (H' : Hp) : Prop := H p = none ∧ ∃ o : Obj, o.cls = .type "tuple" ∧ o.dict = none ∧ H' = upd H p (.frz o (.tup xs))
theorem FzN.same {H H' : Hp} {p : Addr} {xs : List V} : FzN H p xs H' → Same H H'
  | ⟨n, o, _, _, e⟩ => by
    rw [e]
    exact same_newH n
theorem FzN.at_ {H H' : Hp} {p : Addr} {xs : List V} : FzN H p xs H' → FzT H' p xs
  | ⟨n, o, h1, h2, e⟩ => by
    rw [e]
    exact ⟨o, upd_same, h1, h2⟩
theorem call_tupleF {X : Cx} : CallR X (.type "tuple") (fun vs H Q => ∃ a xs, vs = [.ref a] ∧ SqL X.K H a xs ∧ ∀ p H', FzN H p xs H' → Q (.ref p) H') := by
  rintro pins s σ H vs us Q I r ⟨a, xs, rfl, ha, k⟩
  obtain ⟨u, rfl, ru⟩ := vals1 r
  cases ru
  obtain ⟨its, rel, pl, hz⟩ := I.list ha
  have hn := rel.length
  refine call_tuple_list pl.isList (fun g kp => ?_) (by rw [List.size_toArray]; omega)
  have J : Inv X pins σ H { s with heap := g } := I.kept (t' := s.toks) kp
  have hget : (g.push { cls := .type "tuple", data := .seq its.toArray }).get? g.objs.size = some { cls := .type "tuple", data := .seq its.toArray } := Heap.get?_push_size _ rfl
  have J2 := J.laid (a := g.objs.size) (o := .frz { cls := .type "tuple", data := .seq its.toArray } (.tup xs)) (t' := s.toks) (fun b o e => Heap.get?_push_of_some _ e) (Nat.le_refl _)
    ⟨hget, hz, its, rel, IsTup.new _ _⟩
  exact ⟨.ref g.objs.size, _, J2, rfl, k _ _ ⟨J.hok.fresh (Nat.le_refl _), _, rfl, rfl, rfl⟩⟩
/-- o.m(e, ..), o a known tuple -/
def tBMF (r : V → List V → Hp → VK → Prop) (to : TE) (t : TA) : TE := fun σ H Q => to σ H fun x H1 => (∃ a xs, x = .ref a ∧ FzT H1 a xs) ∧ t σ H1 fun vs H2 => r x vs H2 Q
section
variable {X : Cx} {o e : Expr} {es : List Expr} {to : TE} {t : TA} {name : Str} {apos cpos : Pos} {id : String} {r : V → List V → Hp → VK → Prop}
theorem pe_bmF (pa : PlainAttrs "tuple") (slot : Slot "tuple" name id) (hty : typeOf (.builtin id) = pure (.type "method_descriptor")) (hm : MtR X id r) (ho : PE X o to) (ha : PA X (e :: es) t)
    (h1 : attributeBase o name X.env (eval o X.env) = eval o X.env := by rfl)
    (h2 : ((backTo cpos (starEach (e :: es) X.env)).all (fun x => !x.1) && (backToKw cpos (keywordEach [] X.env)).all (fun x => x.1.isSome)
      && decide ((e :: es).length + ([] : List Keyword).length + (if ([] : List Keyword).isEmpty then 0 else 1) < 30)) = true := by rfl)
    (h3 : (apos.endLine == cpos.line) = true := by rfl) (h4 : starEach (e :: es) X.env = (false, eval e X.env) :: starEach es X.env := by rfl) (h5 : (backTo cpos (starEach es X.env)).any (·.1) = false := by rfl) :
    PE X (.Call (.Attribute o name apos) (e :: es) [] cpos) (tBMF r to t) := by
  constructor
  intro pins s σ H Q I h
  refine wpAny_Call_method_late h1 h2 h3 rfl (thn (ho.run pins s σ H _ I h) fun v s1 ⟨x, H1, I1, r1, ⟨a, xs, ex, oo, hf, hc, hd⟩, q⟩ => ?_)
  subst ex
  cases r1
  obtain ⟨hg, _⟩ := (show ObjOk X.prog X.w H1 s1.heap a (.frz oo (.tup xs)) from I1.hok a _ hf)
  refine ⟨"tuple", id, pa, slot, hty, ⟨oo, hg, hc⟩, fun b eb => ?_, ?_⟩
  · cases eb
    exact ⟨oo, hg, hd⟩
  · have hA := ha.run cpos pins s1 σ H1 _ I1 q
    rw [h4] at hA ⊢
    refine Calls.callWith_builtin (by show (false || (backTo cpos (starEach es X.env)).any (·.1)) = false; rw [h5] <;> rfl) (Calls.evalArgs_plain ?_)
    exact thn hA fun us s2 ⟨vs, H2, I2, r2, q2⟩ => hm pins s2 σ H2 (.ref a) vs (.ref a) us Q I2 rfl r2 q2
end
/-! ### tables whose columns are so -/
def TabF (H : Hp) (C p : Addr) (cols : List Str) : Prop := ∃ dx t, H p = some (.ins C dx [("columns", .ref t)]) ∧ FzT H t (cols.map V.str)
theorem TabF.lsts {H H' : Hp} {C p : Addr} {cols : List Str} (e : Lsts H H') : TabF H C p cols → TabF H' C p cols
  | ⟨dx, t, h1, h2⟩ => ⟨dx, t, e _ _ h1 nofun, h2.lsts e⟩
/-- Table(list), a right one -/
def spTableF (K : PySem.W.Frag) (C : Addr) : Sp := fun vs H Q _ => ∃ (p a dx : Addr) (cols : List Str), vs = [.ref p, .ref a] ∧ H p = some (.ins C dx []) ∧ SqL K H a (cols.map V.str) ∧ cols.length ≤ 1000 ∧ (∀ c ∈ cols, c.length ≤ 1000) ∧ dueV (cols.map V.str) = .non ∧
  ∀ H', But p H H' → TabF H' C p cols → Q .non H'
/-! ### either of two rules -/
theorem op_alt {X : Cx} {f : Value → Value → Sem Value} {r1 r2 : R2} (h1 : OpR X f r1) (h2 : OpR X f r2) : OpR X f (fun x y H Q => r1 x y H Q ∨ r2 x y H Q) :=
  fun pins s σ H x y v u Q I rx ry h => h.elim (h1 pins s σ H x y v u Q I rx ry) (h2 pins s σ H x y v u Q I rx ry)
theorem idx_ok {α : Type} [DecidableEq α] {x : α} : ∀ {l : List α}, x ∈ l → l[l.idxOf x]? = some x ∧ ∀ m, m < l.idxOf x → l[m]? ≠ some x
  | [], h => by cases h
  | y :: l, h => by
    by_cases e : y = x
    · rw [List.idxOf_cons, show (y == x) = true from beq_iff_eq.mpr e]
      exact ⟨by rw [e]; rfl, fun m hm => absurd hm (Nat.not_lt_zero m)⟩
    · rw [List.idxOf_cons, show (y == x) = false from beq_eq_false_iff_ne.mpr e]
      have h2 : x ∈ l := by
        rcases List.mem_cons.mp h with q | q
        · exact absurd q.symm e
        · exact q
      obtain ⟨q1, q2⟩ := idx_ok h2
      refine ⟨q1, fun m hm => ?_⟩
      cases m with
      | zero => exact fun z => e (Option.some.inj z)
      | succ m => exact q2 m (by simp only [cond_false] at hm; omega)
theorem cut_three {α : Type} (xs : List α) (i : Nat) : (xs.drop (HT.sIx xs.length 0 (some (i : Int)))).take (HT.sIx xs.length xs.length (some ((i : Int) + 3)) - HT.sIx xs.length 0 (some (i : Int))) = (xs.drop i).take 3 := by
  rw [show (i : Int) + 3 = ((i + 3 : Nat) : Int) by omega, HT.sIx_nat, HT.sIx_nat]
  by_cases q : i ≤ xs.length
  · rw [Nat.min_eq_left q]
    by_cases z : i + 3 ≤ xs.length
    · rw [Nat.min_eq_left z]
      congr 1
      omega
    · rw [Nat.min_eq_right (by omega)]
      have hl : (xs.drop i).length = xs.length - i := List.length_drop
      rw [List.take_of_length_le (by omega), List.take_of_length_le (by omega)]
  · rw [Nat.min_eq_right (by omega), Nat.min_eq_right (by omega), List.drop_eq_nil_of_le (Nat.le_refl _), List.drop_eq_nil_of_le (by omega), List.take_nil, List.take_nil]
/-! ### the promises of trees.py and of the reading of words -/
def spTestOf (K : PySem.W.Frag) : Sp := fun vs H Q _ => ∃ (l a : Addr) (w s x : Str) (cols : List Str), vs = [.ref l, .ref a] ∧ H l = some (.lst [.str w, .str s, .str x]) ∧ FzT H a (cols.map V.str) ∧ w ∈ cols ∧ (x ∈ cols ∨ isNum x = true) ∧
  ∀ p H', Same H H' → H p = none → H' p = some (.tup (tstV (tstOf cols w s x))) → Q (.ref p) H'
def spShunt : Sp := fun vs H Q _ => ∃ (l : Addr) (xs : List V) (its c : List Itm), vs = [.ref l] ∧ H l = some (.lst xs) ∧ Itms H its xs ∧ its.length ≤ 100000 ∧ shunt its = some c ∧
  ∀ l' ys H', Same H H' → H l' = none → H' l' = some (.lst ys) → Itms H' c ys → c.length ≤ 100000 → Q (.ref l') H'
def spNeg : Sp := fun vs H Q _ => ∃ (v : V) (o : Option Tr), vs = [v] ∧ OTr H o v ∧ ∀ v' H', Same H H' → OTr H' (tNeg o) v' → Q v' H'
def spJoin : Sp := fun vs H Q _ => ∃ (s : Str) (v u : V) (o r : Option Tr), vs = [.str s, v, u] ∧ OTr H o v ∧ OTr H r u ∧ ∀ v' H', Same H H' → OTr H' (tJoin s o r) v' → Q v' H'
def spTreeOf : Sp := fun vs H Q _ => ∃ (l : Addr) (xs : List V) (its : List Itm) (o : Option Tr), vs = [.ref l] ∧ H l = some (.lst xs) ∧ Itms H its xs ∧ its.length ≤ 100000 ∧ treeOf its = some o ∧ ∀ v H', Same H H' → OTr H' o v → Q v H'
def spCTree (K : PySem.W.Frag) : Sp := fun vs H Q _ => ∃ (l a : Addr) (words cols : List Str) (its : List Itm) (o : Option Tr), vs = [.ref l, .ref a] ∧ H l = some (.lst (words.map V.str)) ∧ FzT H a (cols.map V.str) ∧ Items cols words its ∧ words.length ≤ 100000 ∧ treeOf its = some o ∧
  ∀ v H', Same H H' → OTr H' o v → Q v H'
end Own

namespace Own
open PySem PySem.Spec PyProof.Rows L2
theorem dropG {α : Type} {l : List α} {i : Nat} {c : α} (h : l[i]? = some c) : l.drop i = c :: l.drop (i + 1) := by
  obtain ⟨h1, h2⟩ := List.getElem?_eq_some_iff.mp h
  rw [List.drop_eq_getElem_cons h1, h2]
theorem last_snoc (ys : List V) (y : V) : (ys ++ [y])[(ys ++ [y]).length - 1]? = some y := by
  rw [List.length_append, List.length_singleton, Nat.add_sub_cancel, List.getElem?_append_right (Nat.le_refl _), Nat.sub_self]
  rfl
theorem rev_cons (w : Str) (W : List Str) : (w :: W).reverse.map V.str = W.reverse.map V.str ++ [V.str w] := by
  rw [List.reverse_cons, List.map_append]
  rfl
def isWd (ws : List Str) : Itm → Bool
  | .wd s => decide (s ∈ ws)
  | .ts _ => false
theorem isWd_wd (ws : List Str) (s : Str) : isWd ws (.wd s) = decide (s ∈ ws) := rfl
theorem in_words {K : PySem.W.Frag} {H : Hp} {it : Itm} {v : V} {ws : List Str} {z : Addr} {Q : VK} (hv : ItmAt H it v) (hz : H z = some (.tup (ws.map V.str))) (hok : ws.all PyData.strOk = true) (q : Q (.bl (isWd ws it)) H) :
    rIn K false v (.ref z) H Q ∨ rInDT K v (.ref z) H Q := by
  cases it with
  | wd s =>
    cases (show v = V.str s from hv)
    refine .inl ⟨z, _, rfl, .inr (SqT.of hz), rfl, Own.flat_strs _, ?_⟩
    rw [inV_str]
    exact q
  | ts t =>
    have h3 : t.2.1 ∈ signL := by
      obtain ⟨_, _, _, h⟩ := hv
      exact h
    refine .inr ⟨tstD t, ws.map PyData.str, ItmAt.dp (i := .ts t) hv, .tup (SqT.of hz) (dp_strs ws), tst_shaped h3, strs_shapedT hok, ?_⟩
    have e := any_words ws (.ts t)
    have e : ((ws.map PyData.str).any fun z => PyData.eqv z (tstD t)) = false := e
    rw [e]
    exact q
theorem eq_word {K : PySem.W.Frag} {H : Hp} {it : Itm} {v : V} {w : Str} {Q : VK} (hv : ItmAt H it v) (hok : PyData.strOk w = true) (q : Q (.bl (isWd [w] it)) H) : rEq v (.str w) H Q ∨ rEqD K v (.str w) H Q := by
  cases it with
  | wd s =>
    cases (show v = V.str s from hv)
    refine .inl ⟨rfl, ?_⟩
    have e : decide (V.str s = V.str w) = isWd [w] (.wd s) := decide_eq_decide.mpr ⟨fun z => by rw [V.str.inj z]; exact List.mem_singleton.mpr rfl, fun z => by rw [List.mem_singleton.mp z]⟩
    rw [e]
    exact q
  | ts t =>
    have h3 : t.2.1 ∈ signL := by
      obtain ⟨_, _, _, h⟩ := hv
      exact h
    refine .inr ⟨tstD t, .str w, ItmAt.dp (i := .ts t) hv, .str w, tst_shaped h3, ?_, ?_⟩
    · unfold SeqAt.shaped
      simp only [PyData.canLay0, PyData.depth, hok]
      rfl
    · have e := eqv_word w (.ts t)
      have e : PyData.eqv (tstD t) (.str w) = false := e
      rw [e]
      exact q
def opL : List Str := ["(", "|", "&", "~"]
/-- the two lists of with_signs_behind -/
structure ShS (H : Hp) (p q : Addr) (pl : List Itm) (W : List Str) (n : Nat) (H' : Hp) : Prop where
  same : Same H H'
  np : H p = none
  nq : H q = none
  pq : p ≠ q
  hp : ∃ ps, H' p = some (.lst ps) ∧ Itms H' pl ps
  hq : H' q = some (.lst (W.reverse.map V.str))
  len : pl.length + W.length ≤ n
  ops : ∀ w ∈ W, w ∈ opL
section
variable {H H' : Hp} {p q z : Addr} {pl : List Itm} {W : List Str} {n : Nat} {w : Str} {o : HO} {i : Itm} {v : V} {ps : List V}
theorem ShS.new (S : ShS H p q pl W n H') (nz : H' z = none) : ShS H p q pl W n (upd H' z o) := by
  obtain ⟨same, np, nq, pq, ⟨ps, hp, hi⟩, hq, len, ops⟩ := S
  have S1 := same_newH (o := o) nz
  exact ⟨same.trans S1, np, nq, pq, ⟨ps, S1 _ _ hp, hi.lsts (.same S1)⟩, S1 _ _ hq, len, ops⟩
theorem ShS.push (S : ShS H p q pl W n H') (hw : w ∈ opL) : ShS H p q pl (w :: W) (n + 1) (upd H' q (.lst (W.reverse.map V.str ++ [V.str w]))) := by
  obtain ⟨same, np, nq, pq, ⟨ps, hp, hi⟩, hq, len, ops⟩ := S
  have L := Lsts.put (o := .lst (W.reverse.map V.str ++ [V.str w])) hq
  refine ⟨put_same same nq, np, nq, pq, ⟨ps, by rw [upd_ne pq]; exact hp, hi.lsts L⟩, by rw [upd_same, rev_cons], by rw [List.length_cons]; omega, fun x hx => ?_⟩
  rcases List.mem_cons.mp hx with e | e
  · rw [e]; exact hw
  · exact ops x e
theorem ShS.put (S : ShS H p q pl W n H') (h1 : H' p = some (.lst ps)) (h2 : Itms H' pl ps) (hv : ItmAt H' i v) : ShS H p q (pl ++ [i]) W (n + 1) (upd H' p (.lst (ps ++ [v]))) := by
  obtain ⟨same, np, nq, pq, _, hq, len, ops⟩ := S
  have L := Lsts.put (o := .lst (ps ++ [v])) h1
  exact ⟨put_same same np, np, nq, pq, ⟨_, upd_same, (h2.lsts L).snoc (hv.lsts L)⟩, by rw [upd_ne pq.symm]; exact hq, by rw [List.length_append, List.length_singleton]; omega, ops⟩
theorem ShS.drop (S : ShS H p q pl (w :: W) n H') : ShS H p q pl W n (upd H' q (.lst (W.reverse.map V.str ++ [V.str w]).dropLast)) := by
  obtain ⟨same, np, nq, pq, ⟨ps, hp, hi⟩, hq, len, ops⟩ := S
  have L := Lsts.put (o := .lst (W.reverse.map V.str ++ [V.str w]).dropLast) hq
  rw [List.length_cons] at len
  refine ⟨put_same same nq, np, nq, pq, ⟨ps, by rw [upd_ne pq]; exact hp, hi.lsts L⟩, by rw [upd_same, List.dropLast_concat], by omega, fun x hx => ops x (List.mem_cons_of_mem _ hx)⟩
theorem ShS.move (S : ShS H p q pl (w :: W) n H') (h1 : H' p = some (.lst ps)) (h2 : Itms H' pl ps) : ShS H p q (pl ++ [.wd w]) W n (upd (upd H' q (.lst (W.reverse.map V.str ++ [V.str w]).dropLast)) p (.lst (ps ++ [.str w]))) := by
  obtain ⟨same, np, nq, pq, _, hq, len, ops⟩ := S
  have L1 := Lsts.put (o := .lst (W.reverse.map V.str ++ [V.str w]).dropLast) hq
  have hp' : upd H' q (.lst (W.reverse.map V.str ++ [V.str w]).dropLast) p = some (.lst ps) := by rw [upd_ne pq]; exact h1
  have L := L1.trans (Lsts.put (o := .lst (ps ++ [.str w])) hp')
  rw [List.length_cons] at len
  exact ⟨put_same (put_same same nq) np, np, nq, pq, ⟨_, upd_same, (h2.lsts L).snoc (show ItmAt _ (.wd w) (V.str w) from rfl)⟩, by rw [upd_ne pq.symm, upd_same, List.dropLast_concat], by rw [List.length_append, List.length_singleton]; omega,
    fun x hx => ops x (List.mem_cons_of_mem _ hx)⟩
theorem ShS.init (n1 : H p = none) (n2 : upd H p (.lst []) q = none) : ShS H p q [] [] 0 (upd (upd H p (.lst [])) q (.lst [])) := by
  have pq : p ≠ q := ne_of_none upd_same n2
  have nq : H q = none := by rw [upd_ne pq.symm] at n2; exact n2
  exact ⟨(same_newH n1).trans (same_newH n2), n1, nq, pq, ⟨[], by rw [upd_ne pq, upd_same], .nil⟩, upd_same, Nat.le_refl _, fun _ h => by cases h⟩
end
theorem rank_le (w : Str) : rank w ≤ 3 := by
  unfold rank
  repeat (first | split | omega)
/-- the list of tree_of -/
structure TrS (H : Hp) (q : Addr) (st : List (Option Tr)) (n : Nat) (H' : Hp) : Prop where
  same : Same H H'
  nq : H q = none
  hq : ∃ xs, H' q = some (.lst xs) ∧ OTrs H' st xs
  len : st.length ≤ n
section
variable {H H' H2 : Hp} {q z : Addr} {st : List (Option Tr)} {n : Nat} {o : HO} {t : Option Tr} {v : V} {xs : List V}
theorem TrS.on (S : TrS H q st n H') (S1 : Same H' H2) : TrS H q st n H2 := by
  obtain ⟨same, nq, ⟨xs, hq, hi⟩, len⟩ := S
  exact ⟨same.trans S1, nq, ⟨xs, S1 _ _ hq, hi.lsts (.same S1)⟩, len⟩
theorem TrS.put (S : TrS H q st n H') (h1 : H' q = some (.lst xs)) (h2 : OTrs H' st xs) (hv : OTr H' t v) : TrS H q (st ++ [t]) (n + 1) (upd H' q (.lst (xs ++ [v]))) := by
  obtain ⟨same, nq, _, len⟩ := S
  have L := Lsts.put (o := .lst (xs ++ [v])) h1
  exact ⟨put_same same nq, nq, ⟨_, upd_same, (h2.lsts L).snoc (hv.lsts L)⟩, by rw [List.length_append, List.length_singleton]; omega⟩
/-- the last one is taken -/
theorem TrS.pop (S : TrS H q st n H') (e : st.getLast? = some t) : ∃ xs v, H' q = some (.lst xs) ∧ xs[xs.length - 1]? = some v ∧ OTr H' t v ∧ OTr (upd H' q (.lst xs.dropLast)) t v ∧ TrS H q st.dropLast n (upd H' q (.lst xs.dropLast)) := by
  obtain ⟨same, nq, ⟨xs, hq, hi⟩, len⟩ := S
  rw [List.getLast?_eq_getElem?] at e
  obtain ⟨v, h1, h2⟩ := hi.get' e
  rw [hi.1] at h1
  have L := Lsts.put (o := .lst xs.dropLast) hq
  exact ⟨xs, v, hq, h1, h2, h2.lsts L, put_same same nq, nq, ⟨_, upd_same, OTrs.lsts L hi.dropLast⟩, by rw [List.length_dropLast]; omega⟩
end
end Own

namespace Own
open PySem PySem.Spec PyProof.Rows L2
/-! ### right texts have trees -/
def szStep (n : Nat) : Itm → Option Nat
  | .ts _ => some (n + 1)
  | .wd w => if w = "~" then (if 1 ≤ n then some n else none) else if w ∈ (["&", "|"] : List Str) then (if 2 ≤ n then some (n - 1) else none) else some (n + 1)
def szF : List Itm → Nat → Option Nat
  | [], n => some n
  | i :: r, n => (szStep n i).bind (szF r)
theorem szF_app : ∀ (a b : List Itm) (n : Nat), szF (a ++ b) n = (szF a n).bind (szF b)
  | [], b, n => rfl
  | x :: a, b, n => by
    show (szStep n x).bind (szF (a ++ b)) = ((szStep n x).bind (szF a)).bind _
    rw [Option.bind_assoc]
    congr 1
    funext q
    exact szF_app a b q
theorem szF_snoc {a : List Itm} {i : Itm} {n m k : Nat} (h : szF a n = some m) (e : szStep m i = some k) : szF (a ++ [i]) n = some k := by
  rw [szF_app, h]
  show (szStep m i).bind (szF []) = _
  rw [e]
  rfl
theorem szStep_wd (n : Nat) (w : Str) : szStep n (.wd w) = if w = "~" then (if 1 ≤ n then some n else none) else if w ∈ (["&", "|"] : List Str) then (if 2 ≤ n then some (n - 1) else none) else some (n + 1) := rfl
theorem tStep_sz {i : Itm} {st : List (Option Tr)} {m : Nat} (h : szStep st.length i = some m) : ∃ st', tStep st i = some st' ∧ st'.length = m := by
  cases i with
  | ts t =>
    cases h
    exact ⟨_, rfl, by rw [List.length_append]; rfl⟩
  | wd w =>
    rw [szStep_wd] at h
    rw [tStep_wd]
    split at h
    · rename_i e
      rw [if_pos e]
      split at h
      · rename_i l
        cases h
        obtain ⟨t, ht⟩ : ∃ t, st.getLast? = some t := ⟨_, List.getLast?_eq_some_getLast (fun z => by rw [z] at l; cases l)⟩
        rw [ht]
        exact ⟨_, rfl, by rw [List.length_append, List.length_dropLast, List.length_singleton]; omega⟩
      · cases h
    · rename_i e
      rw [if_neg e]
      split at h
      · rename_i e2
        rw [if_pos e2]
        split at h
        · rename_i l
          cases h
          obtain ⟨t, ht⟩ : ∃ t, st.getLast? = some t := ⟨_, List.getLast?_eq_some_getLast (fun z => by rw [z] at l; cases l)⟩
          have l2 : st.dropLast.length = st.length - 1 := List.length_dropLast
          obtain ⟨t2, ht2⟩ : ∃ t, st.dropLast.getLast? = some t := ⟨_, List.getLast?_eq_some_getLast (fun z => by rw [z, List.length_nil] at l2; omega)⟩
          rw [ht]
          show ∃ st', (st.dropLast.getLast?.map _) = some st' ∧ _
          rw [ht2]
          exact ⟨_, rfl, by rw [List.length_append, List.length_dropLast, List.length_dropLast, List.length_singleton]; omega⟩
        · cases h
      · rename_i e2
        rw [if_neg e2]
        cases h
        exact ⟨_, rfl, by rw [List.length_append]; rfl⟩
theorem tRun_sz : ∀ {c : List Itm} {st : List (Option Tr)} {m : Nat}, szF c st.length = some m → ∃ st', tRun c st = some st' ∧ st'.length = m
  | [], st, m, h => by cases h; exact ⟨st, rfl, rfl⟩
  | i :: r, st, m, h => by
    obtain ⟨k, h1, h2⟩ := Option.bind_eq_some_iff.mp (show (szStep st.length i).bind (szF r) = some m from h)
    obtain ⟨st1, e1, l1⟩ := tStep_sz h1
    rw [← l1] at h2
    obtain ⟨st2, e2, l2⟩ := tRun_sz h2
    exact ⟨st2, by show (tStep st i).bind (tRun r) = _; rw [e1]; exact e2, l2⟩
def lps : List Str → Nat
  | [] => 0
  | w :: W => (if w = "(" then 1 else 0) + lps W
def bins : List Str → Nat
  | [] => 0
  | w :: W => (if w ∈ (["&", "|"] : List Str) then 1 else 0) + bins W
/-- the state of with_signs_behind: how many operands are placed, how deep -/
structure InvS (pl : List Itm) (W : List Str) (k d : Nat) : Prop where
  sz : szF pl 0 = some k
  ops : ∀ w ∈ W, w ∈ opL
  dep : lps W = d
theorem op_cases {w : Str} (h : w ∈ opL) : w = "(" ∨ (w ≠ "(" ∧ w ≠ "~" ∧ w ∈ (["&", "|"] : List Str)) ∨ w = "~" := by
  unfold opL at h
  simp only [List.mem_cons, List.not_mem_nil, or_false] at h
  rcases h with rfl | rfl | rfl | rfl
  · exact .inl rfl
  · exact .inr (.inl ⟨by decide, by decide, by decide⟩)
  · exact .inr (.inl ⟨by decide, by decide, by decide⟩)
  · exact .inr (.inr rfl)
/-- one sign that is no bracket goes over -/
theorem InvS.move {pl : List Itm} {W : List Str} {w : Str} {d : Nat} (I : InvS pl (w :: W) (bins (w :: W) + 1) d) (n : w ≠ "(") : InvS (pl ++ [.wd w]) W (bins W + 1) d := by
  obtain ⟨sz, ops, dep⟩ := I
  have dep : (if w = "(" then 1 else 0) + lps W = d := dep
  rw [if_neg n, Nat.zero_add] at dep
  rcases op_cases (ops w List.mem_cons_self) with e | ⟨_, e1, e2⟩ | e
  · exact absurd e n
  · have eb : bins (w :: W) = 1 + bins W := by show (if _ then _ else _) + _ = _; rw [if_pos e2]
    rw [eb] at sz
    refine ⟨szF_snoc sz ?_, fun x hx => ops x (List.mem_cons_of_mem _ hx), dep⟩
    rw [szStep_wd, if_neg e1, if_pos e2, if_pos (by omega)]
    congr 1
    omega
  · have eb : bins (w :: W) = bins W := by
      show (if _ then _ else _) + _ = _
      rw [if_neg (by rw [e]; decide), Nat.zero_add]
    rw [eb] at sz
    refine ⟨szF_snoc sz ?_, fun x hx => ops x (List.mem_cons_of_mem _ hx), dep⟩
    rw [szStep_wd, if_pos e, if_pos (by omega)]
theorem popTo_ok : ∀ {W : List Str} {pl : List Itm} {d : Nat}, InvS pl W (bins W + 1) (d + 1) → ∃ pl' W', popTo pl W = some (pl', W') ∧ InvS pl' W' (bins W' + 1) d
  | [], pl, d, I => by have e : 0 = d + 1 := I.dep; omega
  | w :: W, pl, d, I => by
    by_cases n : w = "("
    · refine ⟨pl, W, by unfold popTo; rw [if_pos n], ?_⟩
      obtain ⟨sz, ops, dep⟩ := I
      have eb : bins (w :: W) = bins W := by
        show (if _ then _ else _) + _ = _
        rw [if_neg (by rw [n]; decide), Nat.zero_add]
      rw [eb] at sz
      have dep : (if w = "(" then 1 else 0) + lps W = d + 1 := dep
      rw [if_pos n] at dep
      exact ⟨sz, fun x hx => ops x (List.mem_cons_of_mem _ hx), by omega⟩
    · obtain ⟨pl', W', h1, h2⟩ := popTo_ok (I.move n)
      exact ⟨pl', W', by unfold popTo; rw [if_neg n]; exact h1, h2⟩
theorem popRank_ok {r : Nat} (hr : 1 ≤ r) : ∀ {W : List Str} {pl : List Itm} {d : Nat}, InvS pl W (bins W + 1) d → InvS (popRank r pl W).1 (popRank r pl W).2 (bins (popRank r pl W).2 + 1) d
  | [], pl, d, I => I
  | w :: W, pl, d, I => by
    rw [popRank_cons]
    split
    · rename_i h
      exact popRank_ok hr (I.move (fun e => by
        rw [e] at h
        have : rank "(" = 0 := by decide
        omega))
    · exact I
theorem finS : ∀ {W : List Str} {pl : List Itm}, InvS pl W (bins W + 1) 0 → szF (pl ++ W.map .wd) 0 = some 1
  | [], pl, I => by rw [List.map_nil, List.append_nil]; exact I.sz
  | w :: W, pl, I => by
    have n : w ≠ "(" := fun e => by
      have dep : (if w = "(" then 1 else 0) + lps W = 0 := I.dep
      rw [if_pos e] at dep
      omega
    have q := finS (I.move n)
    rw [List.append_assoc] at q
    exact q
def wordL : List Str := ["(", ")", "~", "&", "|", "blank", "every", "none"]
theorem atom_str {w c : Str} {cols : List Str} (h : aftAtom w cols = .str c) : (w ∈ (["~", "("] : List Str) ∧ c = sATOM) ∨ (w ∈ (["blank", "every", "none"] : List Str) ∧ c = sBEHIND) ∨ (w ∉ (["~", "("] : List Str) ∧ w ∈ cols ∧ c = sSIGN) := by
  unfold aftAtom at h
  split at h
  · exact .inl ⟨‹_›, (V.str.inj h).symm⟩
  · split at h
    · exact .inr (.inl ⟨‹_›, (V.str.inj h).symm⟩)
    · split at h
      · exact .inr (.inr ⟨‹_›, ‹_›, (V.str.inj h).symm⟩)
      · cases h
theorem ends_str {w c : Str} {d : Int} (h : aftEnds w d = .str c) : (w ∈ (["&", "|"] : List Str) ∧ c = sATOM) ∨ (w = ")" ∧ 0 < d ∧ c = sBEHIND) := by
  unfold aftEnds at h
  split at h
  · exact .inl ⟨‹_›, (V.str.inj h).symm⟩
  · split at h
    · rename_i q
      exact .inr ⟨q.1, q.2, (V.str.inj h).symm⟩
    · cases h
theorem col_str {w c : Str} (h : aftCol w = .str c) : w ∈ signL ∧ (c = sSIDE ∨ c = sNUMBER) := by
  unfold aftCol at h
  split at h
  · rename_i q
    refine ⟨?_, .inl (V.str.inj h).symm⟩
    simp only [List.mem_cons, List.not_mem_nil, or_false] at q
    unfold signL
    rcases q with rfl | rfl <;> decide
  · split at h
    · rename_i q
      refine ⟨?_, .inr (V.str.inj h).symm⟩
      simp only [List.mem_cons, List.not_mem_nil, or_false] at q
      unfold signL
      rcases q with rfl | rfl | rfl | rfl <;> decide
    · cases h
theorem aft_atom (num : Str → Bool) (w : Str) (d : Int) (cols : List Str) : aft num sATOM w d cols = aftAtom w cols := by unfold aft; rw [if_pos rfl]
theorem aft_sign (num : Str → Bool) (w : Str) (d : Int) (cols : List Str) : aft num sSIGN w d cols = aftCol w := by unfold aft; rw [if_neg (by decide), if_pos rfl]
theorem aft_behind (num : Str → Bool) (w : Str) (d : Int) (cols : List Str) : aft num sBEHIND w d cols = aftEnds w d := by unfold aft; rw [if_neg (by decide), if_neg (by decide), if_pos rfl]
theorem aft_side {num : Str → Bool} {w c cm : Str} {d : Int} {cols : List Str} (hc : cm = sSIDE ∨ cm = sNUMBER) (h : aft num cm w d cols = .str c) : (w ∈ cols ∨ num w = true) ∧ c = sBEHIND := by
  unfold aft at h
  rw [if_neg (by rcases hc with rfl | rfl <;> decide), if_neg (by rcases hc with rfl | rfl <;> decide), if_neg (by rcases hc with rfl | rfl <;> decide)] at h
  split at h
  · rename_i q
    refine ⟨?_, (V.str.inj h).symm⟩
    rcases q with q | q
    · exact .inr q
    · exact .inl q.2
  · cases h
/-- the step of wrongAt, when nothing is wrong -/
theorem wrong_step {num : Str → Bool} {cols : List Str} {n : Nat} {p : List Nat × Nat} {ps : List (List Nat × Nat)} {cm : Str} {d : Int} (h : wrongAt num cols n (p :: ps) cm d = .non) :
    ∃ c, aft num cm ⟨p.1.toArray⟩ d cols = .str c ∧ wrongAt num cols n ps c (dep ⟨p.1.toArray⟩ d) = .non := by
  rcases aft_cases num cm ⟨p.1.toArray⟩ d cols with ⟨c, e⟩ | e
  · rw [wrong_str e] at h
    exact ⟨c, e, h⟩
  · rw [wrong_non e] at h
    cases h
theorem wrong_end {num : Str → Bool} {cols : List Str} {n : Nat} {cm : Str} {d : Int} (h : wrongAt num cols n [] cm d = .non) : cm = sBEHIND ∧ d = 0 := by
  unfold wrongAt at h
  split at h
  · assumption
  · cases h
abbrev pw (ps : List (List Nat × Nat)) : List Str := ps.map fun p => ⟨p.1.toArray⟩
theorem dep_of {w : Str} {d : Int} (h1 : w ≠ "(") (h2 : w ≠ ")") : dep w d = d := by unfold dep; rw [if_neg h1, if_neg h2]
theorem sign_dep {w : Str} {d : Int} (h : w ∈ signL) : dep w d = d := by
  unfold signL at h
  simp only [List.mem_cons, List.not_mem_nil, or_false] at h
  rcases h with rfl | rfl | rfl | rfl | rfl | rfl <;> exact dep_of (by decide) (by decide)
theorem num_dep {w : Str} {d : Int} (h : isNum w = true) : dep w d = d := by
  refine dep_of (fun e => ?_) (fun e => ?_)
  · rw [e] at h; revert h; decide +kernel
  · rw [e] at h; revert h; decide +kernel
theorem accept {cols : List Str} (hc : ∀ c ∈ cols, c ∉ wordL) {N : Nat} : ∀ (n : Nat) (ps : List (List Nat × Nat)), ps.length ≤ n → ∀ (d : Nat) (pl : List Itm) (W : List Str),
    (wrongAt isNum cols N ps sATOM d = .non → InvS pl W (bins W) d → ∃ its pl' W', Items cols (pw ps) its ∧ shRun its pl W = some (pl', W') ∧ InvS pl' W' (bins W' + 1) 0) ∧
    (wrongAt isNum cols N ps sBEHIND d = .non → InvS pl W (bins W + 1) d → ∃ its pl' W', Items cols (pw ps) its ∧ shRun its pl W = some (pl', W') ∧ InvS pl' W' (bins W' + 1) 0)
  | n, [], _, d, pl, W => by
    constructor
    · intro h _
      exact absurd (wrong_end h).1 (by decide)
    · intro h I
      have e := (wrong_end h).2
      have e : d = 0 := by omega
      exact ⟨[], pl, W, .nil, rfl, e ▸ I⟩
  | 0, p :: ps, h, d, pl, W => absurd h (Nat.not_succ_le_zero _)
  | n + 1, p :: ps, hn, d, pl, W => by
    have hn : ps.length ≤ n := Nat.le_of_succ_le_succ hn
    have nc : ∀ {w : Str}, w ∈ wordL → w ∉ cols := fun hw z => hc _ z hw
    constructor
    · intro h I
      obtain ⟨c, e, h⟩ := wrong_step h
      rw [aft_atom] at e
      generalize hw : (⟨p.1.toArray⟩ : Str) = w0 at *
      have epw : pw (p :: ps) = w0 :: pw ps := by show (⟨p.1.toArray⟩ : Str) :: _ = _; rw [hw]
      rw [epw]
      rcases atom_str e with ⟨h1, rfl⟩ | ⟨h1, rfl⟩ | ⟨h0, h1, rfl⟩
      · -- a sign ahead
        have hop : w0 ∈ opL := by
          simp only [List.mem_cons, List.not_mem_nil, or_false] at h1
          rcases h1 with rfl | rfl <;> decide
        have hwl : w0 ∈ wordL := by
          simp only [List.mem_cons, List.not_mem_nil, or_false] at h1
          rcases h1 with rfl | rfl <;> decide
        have eb : bins (w0 :: W) = bins W := by
          show (if _ then _ else _) + _ = _
          rw [if_neg (by simp only [List.mem_cons, List.not_mem_nil, or_false] at h1; rcases h1 with rfl | rfl <;> decide), Nat.zero_add]
        have ed : dep w0 (d : Int) = ((lps (w0 :: W) : Nat) : Int) := by
          have q : lps (w0 :: W) = (if w0 = "(" then 1 else 0) + lps W := rfl
          rw [q, I.dep]
          simp only [List.mem_cons, List.not_mem_nil, or_false] at h1
          rcases h1 with rfl | rfl
          · rw [if_neg (by decide), dep_of (by decide) (by decide)]; omega
          · rw [if_pos rfl]; unfold dep; rw [if_pos rfl]; omega
        rw [ed] at h
        obtain ⟨its, pl', W', q1, q2, q3⟩ := (accept hc n ps hn _ pl (w0 :: W)).1 h ⟨by rw [eb]; exact I.sz, fun x hx => by
          rcases List.mem_cons.mp hx with z | z
          · rw [z]; exact hop
          · exact I.ops x z, rfl⟩
        have h1' : w0 ∈ (["(", "~"] : List Str) := by
          simp only [List.mem_cons, List.not_mem_nil, or_false] at h1 ⊢
          exact h1.symm
        exact ⟨.wd w0 :: its, pl', W', .wd (nc hwl) q1, by show (shStep pl W (.wd w0)).bind _ = _; rw [shStep_wd, if_pos h1']; exact q2, q3⟩
      · have hwl : w0 ∈ wordL ∧ w0 ∉ (["(", "~"] : List Str) ∧ w0 ≠ "(" ∧ w0 ≠ ")" ∧ w0 ≠ "~" ∧ w0 ∉ (["&", "|"] : List Str) := by
          simp only [List.mem_cons, List.not_mem_nil, or_false] at h1
          rcases h1 with rfl | rfl | rfl <;> decide
        obtain ⟨g1, g2, g3, g4, g5, g6⟩ := hwl
        rw [dep_of g3 g4] at h
        obtain ⟨its, pl', W', q1, q2, q3⟩ := (accept hc n ps hn d (pl ++ [.wd w0]) W).2 h ⟨szF_snoc I.sz (by rw [szStep_wd, if_neg g5, if_neg g6]), I.ops, I.dep⟩
        exact ⟨.wd w0 :: its, pl', W', .wd (nc g1) q1, by show (shStep pl W (.wd w0)).bind _ = _; rw [shStep_wd, if_neg g2, if_neg g4, if_neg g6]; exact q2, q3⟩
      · -- a test
        have g : w0 ≠ "(" ∧ w0 ≠ ")" := ⟨fun z => hc _ h1 (by rw [z]; decide), fun z => hc _ h1 (by rw [z]; decide)⟩
        rw [dep_of g.1 g.2] at h
        cases ps with
        | nil =>
          exact absurd (wrong_end h).1 (by decide)
        | cons p2 ps =>
          obtain ⟨c2, e2, h⟩ := wrong_step h
          rw [aft_sign] at e2
          obtain ⟨hs, hc2⟩ := col_str e2
          rw [sign_dep hs] at h
          cases ps with
          | nil =>
            exact absurd (wrong_end h).1 (by rcases hc2 with rfl | rfl <;> decide)
          | cons p3 ps =>
            obtain ⟨c3, e3, h⟩ := wrong_step h
            obtain ⟨hx, rfl⟩ := aft_side hc2 e3
            have ed : dep (⟨p3.1.toArray⟩ : Str) (d : Int) = d := by
              rcases hx with hx | hx
              · exact dep_of (fun z => hc _ hx (by rw [z]; decide)) (fun z => hc _ hx (by rw [z]; decide))
              · exact num_dep hx
            rw [ed] at h
            rw [List.length_cons, List.length_cons] at hn
            obtain ⟨its, pl', W', q1, q2, q3⟩ := (accept hc n ps (by omega) d (pl ++ [.ts (tstOf cols w0 ⟨p2.1.toArray⟩ ⟨p3.1.toArray⟩)]) W).2 h ⟨szF_snoc I.sz rfl, I.ops, I.dep⟩
            exact ⟨.ts (tstOf cols w0 ⟨p2.1.toArray⟩ ⟨p3.1.toArray⟩) :: its, pl', W', .ts h1 hs hx q1, q2, q3⟩
    · intro h I
      obtain ⟨c, e, h⟩ := wrong_step h
      rw [aft_behind] at e
      generalize hw : (⟨p.1.toArray⟩ : Str) = w0 at *
      have epw : pw (p :: ps) = w0 :: pw ps := by show (⟨p.1.toArray⟩ : Str) :: _ = _; rw [hw]
      rw [epw]
      rcases ends_str e with ⟨h1, rfl⟩ | ⟨h1, h2, rfl⟩
      · have g : w0 ∈ wordL ∧ w0 ∈ opL ∧ w0 ∉ (["(", "~"] : List Str) ∧ w0 ≠ ")" ∧ w0 ≠ "(" ∧ 1 ≤ rank w0 := by
          simp only [List.mem_cons, List.not_mem_nil, or_false] at h1
          rcases h1 with rfl | rfl <;> decide
        obtain ⟨g1, g2, g3, g4, g5, g6⟩ := g
        rw [dep_of g5 g4] at h
        have J := popRank_ok g6 I
        obtain ⟨q, hq⟩ : ∃ q, q = popRank (rank w0) pl W := ⟨_, rfl⟩
        rw [← hq] at J
        obtain ⟨its, pl', W', q1, q2, q3⟩ := (accept hc n ps hn d q.1 (w0 :: q.2)).1 h ⟨by
          have eb : bins (w0 :: q.2) = 1 + bins q.2 := by show (if _ then _ else _) + _ = _; rw [if_pos h1]
          rw [eb, Nat.add_comm]
          exact J.sz, fun x hx => by
          rcases List.mem_cons.mp hx with z | z
          · rw [z]; exact g2
          · exact J.ops x z, by
          show (if w0 = "(" then 1 else 0) + lps q.2 = d
          rw [if_neg g5, Nat.zero_add]
          exact J.dep⟩
        exact ⟨.wd w0 :: its, pl', W', .wd (nc g1) q1, by show (shStep pl W (.wd w0)).bind _ = _; rw [shStep_wd, if_neg g3, if_neg g4, if_pos h1, ← hq]; exact q2, q3⟩
      · have g : w0 ∈ wordL ∧ w0 ∉ (["(", "~"] : List Str) := by rw [h1]; decide
        obtain ⟨m, rfl⟩ : ∃ m, d = m + 1 := ⟨d - 1, by omega⟩
        have ed : dep w0 ((m + 1 : Nat) : Int) = (m : Nat) := by
          unfold dep
          rw [if_neg (by rw [h1]; decide), if_pos h1]
          omega
        rw [ed] at h
        obtain ⟨pl1, W1, r1, J⟩ := popTo_ok I
        obtain ⟨its, pl', W', q1, q2, q3⟩ := (accept hc n ps hn m pl1 W1).2 h J
        exact ⟨.wd w0 :: its, pl', W', .wd (nc g.1) q1, by show (shStep pl W (.wd w0)).bind _ = _; rw [shStep_wd, if_neg g.2, if_pos h1, r1]; exact q2, q3⟩
theorem accepted {cols : List Str} (hc : ∀ c ∈ cols, c ∉ wordL) {N : Nat} {ps : List (List Nat × Nat)} (h : wrongAt isNum cols N ps sATOM 0 = .non) : ∃ its o, Items cols (pw ps) its ∧ treeOf its = some o := by
  obtain ⟨its, pl, W, h1, h2, h3⟩ := (accept hc ps.length ps (Nat.le_refl _) 0 [] []).1 h ⟨rfl, (fun _ h => by cases h), rfl⟩
  have q := finS h3
  obtain ⟨st, e1, e2⟩ := tRun_sz (st := []) q
  obtain ⟨o, ho⟩ : ∃ o, st[0]? = some o := ⟨_, List.getElem?_eq_getElem (by omega)⟩
  refine ⟨its, o, h1, ?_⟩
  unfold treeOf shunt
  rw [h2]
  show (tRun (pl ++ W.map .wd) []).bind _ = _
  rw [e1]
  exact ho
end Own

namespace Own
open PySem PySem.Spec PyProof.Rows L2
/-- a call of a def that may raise, in one that lets it out (or catches it) -/
theorem pe_calX {X : Cx} {W : WX} {k : Nat} {x : Str} {f : Addr} {fd : FuncData} {ps : List Str} {sp : Sp} {e : Expr} {es : List Expr} {t : TA} {p pos : Pos} (c : Cal X.prog X.w X.K X.mg X.base (L2.CX X.prog X.w) k x f fd ps sp) (hr : Room k X.A) (tk : Takes X W) (ha : PA X (e :: es) t)
    (hg : Gl X x := by rfl) (hdb : (x == ("__debug__" : Str)) = false := by decide) (he : starEach (e :: es) X.env = (false, eval e X.env) :: starEach es X.env := by rfl) (hpl : (backTo pos (starEach es X.env)).any (·.1) = false := by rfl) :
    PE X (.Call (.Name x p) (e :: es) [] pos) (tCallS sp (fun σ cls d H => W cls d σ H) t) := pe_callS c.ok hr hg c.at_ c.kp c.b (fun σ => passAt tk σ) ha hdb he hpl
/-- all but what stands at p stays -/
def Lsts' (p : Addr) (H H' : Hp) : Prop := ∀ a o, a ≠ p → H a = some o → H' a = some o
theorem Lsts'.put {p : Addr} {H : Hp} {o : HO} : Lsts' p H (upd H p o) := fun a u n e => by rw [upd_ne n]; exact e
theorem FzT.lsts' {p : Addr} {H H' : Hp} {a : Addr} {xs : List V} (h : FzT H a xs) (e : Lsts' p H H') (n : a ≠ p) : FzT H' a xs := by
  obtain ⟨o, h1, h2⟩ := h
  exact ⟨o, e _ _ n h1, h2⟩
theorem ItmAt.lsts' {p C dx : Addr} {fs : List (Str × V)} {H H' : Hp} (hp : H p = some (.ins C dx fs)) (e : Lsts' p H H') : ∀ {i : Itm} {v : V}, ItmAt H i v → ItmAt H' i v
  | .wd _, _, h => h
  | .ts _, _, ⟨q, h1, h2, h3⟩ => ⟨q, h1, e _ _ (ne_of h2 hp nofun) h2, h3⟩
theorem TrAt.lsts' {p C dx : Addr} {fs : List (Str × V)} {H H' : Hp} (hp : H p = some (.ins C dx fs)) (e : Lsts' p H H') : ∀ {t : Tr} {v : V}, TrAt H t v → TrAt H' t v
  | .lf i, _, ⟨q, x, h, h1, h2⟩ => ⟨q, x, h, e _ _ (ne_of h1 hp nofun) h1, h2.lsts' hp e⟩
  | .neg t, _, ⟨q, x, h, h1, h2⟩ => ⟨q, x, h, e _ _ (ne_of h1 hp nofun) h1, TrAt.lsts' hp e h2⟩
  | .bin s l r, _, ⟨q, x, y, h, h1, h2, h3⟩ => ⟨q, x, y, h, e _ _ (ne_of h1 hp nofun) h1, TrAt.lsts' hp e h2, TrAt.lsts' hp e h3⟩
theorem OTr.lsts' {p C dx : Addr} {fs : List (Str × V)} {H H' : Hp} {o : Option Tr} {v : V} (h : OTr H o v) (hp : H p = some (.ins C dx fs)) (e : Lsts' p H H') : OTr H' o v := by
  cases o with
  | none => exact h
  | some t => exact TrAt.lsts' hp e h
/-- a condition at p: of the table at tb, with a tree, and its words, if it is made from a text -/
def CondAt (H : Hp) (C p tb : Addr) (o : Option Tr) (ws : Option (List Str)) : Prop := ∃ (dx : Addr) (tv wv : V), H p = some (.ins C dx [("table", .ref tb), ("_tree", tv), ("_words", wv)]) ∧ OTr H o tv ∧
  (match ws with | none => wv = .non | some l => ∃ t, wv = .ref t ∧ H t = some (.tup (l.map V.str)))
theorem CondAt.lsts {H H' : Hp} {C p tb : Addr} {o : Option Tr} {ws : Option (List Str)} (e : Lsts H H') (h : CondAt H C p tb o ws) : CondAt H' C p tb o ws := by
  obtain ⟨dx, tv, wv, h1, h2, h3⟩ := h
  refine ⟨dx, tv, wv, e _ _ h1 nofun, h2.lsts e, ?_⟩
  cases ws with
  | none => exact h3
  | some l =>
    obtain ⟨t, q1, q2⟩ := h3
    exact ⟨t, q1, e _ _ q2 nofun⟩
/-- Cond(text, table), any value as the text -/
def spCondX (K : PySem.W.Frag) (CT C CB : Addr) : Sp := fun vs H Q E => ∃ (p tb dx : Addr) (v : V) (t : Kd) (cols : List Str), vs = [.ref p, v, .ref tb] ∧ H p = some (.ins C dx []) ∧ TabF H CT tb cols ∧ (∀ c ∈ cols, c ∉ wordL) ∧ kd H v = some t ∧ (∀ z, v = .str z → z.length ≤ 100000) ∧
  (t ≠ .str → ∀ d H', Same H H' → H' d = some (.xd [("at", .int (-1))]) → E (.ref CB) (some d) H') ∧
  (∀ z its o, v = .str z → wrongAt isNum cols z.length (toksL z.cps.toList) sATOM 0 = .non → Items cols (cwords z.cps.toList) its → treeOf its = some o → ∀ H', But p H H' → CondAt H' C p tb o (some (cwords z.cps.toList)) → Q .non H') ∧
  (∀ z (i : Int), v = .str z → wrongAt isNum cols z.length (toksL z.cps.toList) sATOM 0 = .int i → ∀ d H', Same H H' → H' d = some (.xd [("at", .int i)]) → E (.ref CB) (some d) H')
end Own

namespace K07
open PySem PySem.Spec PyProof.Rows L2 Own
structure TxT (K : PySem.W.Frag) (w : World) (mg : Str → Option Value) (aL aR : Addr) : Prop extends TxR K mg aL where
  g_RANKS : mg "RANKS" = some (.ref aR)
  r_lp : KDct K w aR "(" (.int 0)
  r_or : KDct K w aR "|" (.int 1)
  r_and : KDct K w aR "&" (.int 2)
  r_neg : KDct K w aR "~" (.int 3)
theorem TxT.rank {K : PySem.W.Frag} {w : World} {mg : Str → Option Value} {aL aR : Addr} (T : TxT K w mg aL aR) {x : Str} (h : x ∈ opL) : KDct K w aR x (.int (rank x : Nat)) := by
  unfold opL at h
  simp only [List.mem_cons, List.not_mem_nil, or_false] at h
  rcases h with rfl | rfl | rfl | rfl
  · exact T.r_lp
  · exact T.r_or
  · exact T.r_and
  · exact T.r_neg
section
variable {P : Program} {w : World} {K : PySem.W.Frag} {mg : Str → Option Value} {base : Heap} {f C : Addr} {fd : FuncData}
theorem sc_test_of : FnScope ["words", "columns", "column", "sign", "side"] ["words", "columns"] (defScope s_test_of) := ⟨rfl, rfl, rfl, by decide +kernel, rfl, by decide +kernel, by decide +kernel⟩
theorem ok_test_of {aL aR : Addr} (F : FnP K "test_of" s_test_of f fd) (T : TxT K w mg aL aR) : FnOk P w K mg base CX0 1 f fd ["words", "columns"] (spTestOf K) := by
  refine F.ok sc_test_of (fun vs H Q E h => ?_) (fun cdv A outer s H vs Q E hr h => ⟨_, PSs.nox (pss_cons (ps_asg (pv 0) (pg_lst rfl (pgs_cons (pg_name (i := 2) sc_test_of.nd rfl (Or.inl rfl)) (pgs_cons (pg_name (i := 3) sc_test_of.nd rfl (Or.inl rfl)) (pgs_cons (pg_name (i := 4) sc_test_of.nd rfl (Or.inl rfl)) pgs_nil)))))
 (pss_cons (ps_if (pt_cmpR op_in_seq (pv 4) (pv 1) (by rfl))
 (pss_one (ps_ret (pe_tup (pa_cons (pe_bmF PySem.F.plainAttrs_tuple PySem.F.slot_tuple_index PySem.F.type_tuple_index mt_tup_index (pv 1) (pa_cons (pv 2) pa_nil)) (pa_cons (pv 3) (pa_cons (pe_bmF PySem.F.plainAttrs_tuple PySem.F.slot_tuple_index PySem.F.type_tuple_index mt_tup_index (pv 1) (pa_cons (pv 4) pa_nil)) (pa_cons pe_non pa_nil)))))))
 pss_nil)
 (pss_one (ps_ret (pe_tup (pa_cons (pe_bmF PySem.F.plainAttrs_tuple PySem.F.slot_tuple_index PySem.F.type_tuple_index mt_tup_index (pv 1) (pa_cons (pv 2) pa_nil)) (pa_cons (pv 3) (pa_cons pe_non (pa_cons (pe_callTy call_int_str (by rfl) T.int boot_int (pa_cons (pv 4) pa_nil)) pa_nil))))))))), ?_⟩)
  · obtain ⟨l, a, w0, s0, x, cols, rfl, _⟩ := h
    rfl
  · obtain ⟨l, a, w0, s0, x, cols, rfl, hl, ha, hw, hx, k⟩ := h
    have iw := idx_ok hw
    refine ⟨_, rfl, l, _, rfl, SqL.of hl, rfl, _, _, rfl, _, _, rfl, _, _, rfl, rfl, ?_⟩
    refine ⟨_, rfl, _, rfl, a, _, rfl, .inr ha.seq, rfl, Own.flat_strs _, _, rfl, ?_⟩
    rw [inV_str]
    refine ite2 (fun h1 => ?_) (fun h1 => ?_)
    · have h1 := of_decide_eq_true h1
      have ix := idx_ok h1
      refine ⟨_, rfl, ⟨a, _, rfl, ha⟩, _, rfl, a, cols, w0, _, rfl, rfl, ha.seq, iw.1, iw.2, ?_⟩
      refine ⟨_, rfl, _, rfl, ⟨a, _, rfl, ha⟩, _, rfl, a, cols, x, _, rfl, rfl, ha.seq, ix.1, ix.2, ?_⟩
      refine ⟨(by show 4 ≤ sizeLine; decide), fun t nt => ?_⟩
      exact k t _ (same_newH nt) nt (by rw [upd_same]; unfold tstOf; rw [if_pos h1]; rfl)
    · have h1 : ¬ x ∈ cols := fun z => h1 (decide_eq_true z)
      have hn := num_int (hx.resolve_left h1)
      refine ⟨_, rfl, ⟨a, _, rfl, ha⟩, _, rfl, a, cols, w0, _, rfl, rfl, ha.seq, iw.1, iw.2, ?_⟩
      refine ⟨_, rfl, _, rfl, x, _, rfl, hn.1, hn.2, ?_⟩
      refine ⟨(by show 4 ≤ sizeLine; decide), fun t nt => ?_⟩
      exact k t _ (same_newH nt) nt (by rw [upd_same]; unfold tstOf; rw [if_neg h1]; rfl)
theorem sc_joined : FnScope ["sign", "left", "right"] ["sign", "left", "right"] (defScope s_joined) := ⟨rfl, rfl, rfl, by decide +kernel, rfl, by decide +kernel, by decide +kernel⟩
theorem ok_joined {aL aR : Addr} (F : FnP K "joined" s_joined f fd) (T : TxT K w mg aL aR) : FnOk P w K mg base CX0 1 f fd ["sign", "left", "right"] spJoin := by
  refine F.ok sc_joined (fun vs H Q E h => ?_) (fun cdv A outer s H vs Q E hr h => ⟨_, PSs.nox (pss_cons (ps_if (pt_cmpR op_isN (pv 1) pe_non (nomark _))
 (pss_one (ps_ret (pv 2)))
 pss_nil)
 (pss_cons (ps_if (pt_cmpR op_isN (pv 2) pe_non (nomark _))
 (pss_one (ps_ret (pv 1)))
 pss_nil)
 (pss_one (ps_ret (pe_tup (pa_cons (pv 0) (pa_cons (pv 1) (pa_cons (pv 2) pa_nil)))))))), ?_⟩)
  · obtain ⟨s0, v, u, o, r, rfl, _⟩ := h
    rfl
  · obtain ⟨s0, v, u, o, r, rfl, hv, hu, k⟩ := h
    refine ⟨_, rfl, rfl, _, rfl, ?_⟩
    rw [OTr.non hv]
    cases o with
    | none => exact iteT ⟨_, rfl, k _ _ (Same.refl _) hu⟩
    | some o =>
      refine iteF ?_
      refine ⟨_, rfl, rfl, _, rfl, ?_⟩
      rw [OTr.non hu]
      cases r with
      | none => exact iteT ⟨_, rfl, k _ _ (Same.refl _) hv⟩
      | some r =>
        refine iteF ?_
        refine ⟨_, rfl, _, rfl, _, rfl, (by show 3 ≤ sizeLine; decide), fun t nt => ?_⟩
        have S := same_newH (o := .tup [.str s0, v, u]) nt
        exact k _ _ S ⟨t, v, u, rfl, upd_same, TrAt.lsts (.same S) hv, TrAt.lsts (.same S) hu⟩
theorem sc_negated : FnScope ["tree"] ["tree"] (defScope s_negated) := ⟨rfl, rfl, rfl, by decide +kernel, rfl, by decide +kernel, by decide +kernel⟩
theorem ok_negated {aL aR : Addr} (F : FnP K "negated" s_negated f fd) (T : TxT K w mg aL aR) : FnOk P w K mg base CX0 1 f fd ["tree"] spNeg := by
  refine F.ok sc_negated (fun vs H Q E h => ?_) (fun cdv A outer s H vs Q E hr h => ⟨_, PSs.nox (pss_one (ps_ret (pe_ifExp (pt_cmpR op_isN (pv 0) pe_non (nomark _)) pe_non (pe_tup (pa_cons pe_str (pa_cons (pv 0) pa_nil)))))), ?_⟩)
  · obtain ⟨v, o, rfl, _⟩ := h
    rfl
  · obtain ⟨v, o, rfl, hv, k⟩ := h
    refine ⟨_, rfl, rfl, _, rfl, ?_⟩
    rw [OTr.non hv]
    cases o with
    | none => exact iteT (k _ _ (Same.refl _) rfl)
    | some o =>
      refine iteF ?_
      refine ⟨_, rfl, (by show 2 ≤ sizeLine; decide), fun t nt => ?_⟩
      have S := same_newH (o := .tup [.str "~", v]) nt
      exact k _ _ S ⟨t, v, rfl, upd_same, TrAt.lsts (.same S) hv⟩

theorem sc_with_signs_behind : FnScope ["items", "placed", "waiting", "item"] ["items"] (defScope s_with_signs_behind) := ⟨rfl, rfl, rfl, by decide +kernel, rfl, by decide +kernel, by decide +kernel⟩
theorem ok_shunt {aL aR : Addr} (F : FnP K "with_signs_behind" s_with_signs_behind f fd) (T : TxT K w mg aL aR) : FnOk P w K mg base CX0 1 f fd ["items"] spShunt := by
  refine F.ok sc_with_signs_behind (fun vs H Q E h => ?_) (fun cdv A outer s H vs Q E hr h => ⟨_, PSs.nox (pss_cons (ps_set (i := 1) sc_with_signs_behind.nd rfl (Or.inl rfl) (pe_lst pa_nil))
 (pss_cons (ps_set (i := 2) sc_with_signs_behind.nd rfl (Or.inl rfl) (pe_lst pa_nil))
 (pss_cons (ps_for PassesOwn.never rfl (pi_list (pv 0)) (pg_name (i := 3) sc_with_signs_behind.nd rfl (Or.inl rfl))
 (pss_one (ps_if (pt_cmpR (op_alt op_in_seq (op_inDT (hu65 hr))) (pv 3) (pe_tup (pa_cons pe_str (pa_cons pe_str pa_nil))) (by rfl))
 (pss_one (ps_expr (pe_bm PySem.F.plainAttrs_list PySem.F.slot_list_append PySem.F.type_list_append mt_append (pv 2) (pa_cons (pv 3) pa_nil))))
 (pss_one (ps_if (pt_cmpR (op_alt op_eq (op_eqD (hu_of' hr))) (pv 3) pe_str (nomark _))
 (pss_cons (ps_while PassesOwn.never (pt_cmpR op_ne (pe_ix ix_list (pv 2) (pe_un un_neg pe_int) (fun _ _ => rfl)) pe_str (nomark _))
 (pss_one (ps_expr (pe_bm PySem.F.plainAttrs_list PySem.F.slot_list_append PySem.F.type_list_append mt_append (pv 1) (pa_cons (pe_bm0 PySem.F.plainAttrs_list PySem.F.slot_list_pop PySem.F.type_list_pop mt_pop (pv 2)) pa_nil)))))
 (pss_one (ps_expr (pe_bm0 PySem.F.plainAttrs_list PySem.F.slot_list_pop PySem.F.type_list_pop mt_pop (pv 2)))))
 (pss_one (ps_if (pt_cmpR (op_alt op_in_seq (op_inDT (hu65 hr))) (pv 3) (pe_tup (pa_cons pe_str (pa_cons pe_str pa_nil))) (by rfl))
 (pss_cons (ps_while PassesOwn.never (PW.pt (pw_and (pt_truth (pv 2) (fun _ => rfl)) (pw_and1 (pt_cmpR op_ge (pe_ix ix_kdict (pe_glob (v := .ref _) (by rfl) T.g_RANKS rfl) (pe_ix ix_list (pv 2) (pe_un un_neg pe_int) (fun _ _ => rfl)) (fun _ _ => rfl)) (pe_ix ix_kdict (pe_glob (v := .ref _) (by rfl) T.g_RANKS rfl) (pv 3) (fun _ _ => rfl)) (nomark _)))))
 (pss_one (ps_expr (pe_bm PySem.F.plainAttrs_list PySem.F.slot_list_append PySem.F.type_list_append mt_append (pv 1) (pa_cons (pe_bm0 PySem.F.plainAttrs_list PySem.F.slot_list_pop PySem.F.type_list_pop mt_pop (pv 2)) pa_nil)))))
 (pss_one (ps_expr (pe_bm PySem.F.plainAttrs_list PySem.F.slot_list_append PySem.F.type_list_append mt_append (pv 2) (pa_cons (pv 3) pa_nil)))))
 (pss_one (ps_expr (pe_bm PySem.F.plainAttrs_list PySem.F.slot_list_append PySem.F.type_list_append mt_append (pv 1) (pa_cons (pv 3) pa_nil)))))))))))
 (pss_one (ps_ret (pe_lst (StX.pa_star (pv 1) (StX.pa_star (pe_revL (pv 2)) pa_nil)))))))), ?_⟩)
  · obtain ⟨l, xs, its, c, rfl, _⟩ := h
    rfl
  · obtain ⟨l, xs, its, c, rfl, hl, hT, hn, hs0, k⟩ := h
    unfold shunt at hs0
    obtain ⟨⟨pl', W'⟩, hs, rfl⟩ := Option.map_eq_some_iff.mp hs0
    have hlen := hT.1
    have hsl : (100000 : Nat) < sizeLine := by rw [sizeLine_eq]; omega
    refine ⟨Nat.zero_le _, fun p np => ?_⟩
    refine ⟨Nat.zero_le _, fun q nq => ?_⟩
    have S0 := ShS.init np nq
    generalize upd (upd H p (.lst [])) q (.lst []) = H0 at *
    refine ⟨_, rfl, l, rfl, ⟨xs, SqL.of (S0.same _ _ hl)⟩, ?_⟩
    refine for_list (xs := xs) (fun i σ H' => ∃ (pl : List Itm) (W : List Str) (t3 : Option V), σ = [some (.ref l), some (.ref p), some (.ref q), t3] ∧ ShS H p q pl W i H' ∧ shRun (its.drop i) pl W = some (pl', W'))
      ⟨[], [], none, rfl, S0, hs⟩ (fun i σ H' _ ⟨_, _, _, _, S, _⟩ => SqL.of (S.same _ _ hl)) ?_ ?_
    · rintro i v σ H1 hi ⟨pl, W, t3, rfl, S, hrn⟩
      obtain ⟨it, hit, hv⟩ := hT.get hi
      have hv1 : ItmAt H1 it v := hv.lsts (.same S.same)
      have hil : i < its.length := (List.getElem?_eq_some_iff.mp hit).1
      rw [dropG hit] at hrn
      obtain ⟨⟨pl1, W1⟩, hst, hrn⟩ := Option.bind_eq_some_iff.mp (show (shStep pl W it).bind (fun q => shRun (its.drop (i + 1)) q.1 q.2) = _ from hrn)
      have next : ∀ {H' : Hp}, ShS H p q pl1 W1 (i + 1) H' → ∃ (pl : List Itm) (W : List Str) (t3 : Option V), [some (V.ref l), some (.ref p), some (.ref q), some v] = [some (.ref l), some (.ref p), some (.ref q), t3] ∧ ShS H p q pl W (i + 1) H' ∧ shRun (its.drop (i + 1)) pl W = some (pl', W') :=
        fun S => ⟨_, _, _, rfl, S, hrn⟩
      refine ⟨_, rfl, (by show 2 ≤ sizeLine; decide), fun z1 nz1 => ?_⟩
      have Sa := S.new (o := .tup [V.str "(", V.str "~"]) nz1
      have hza : upd H1 z1 (.tup [V.str "(", V.str "~"]) z1 = some (.tup ((["(", "~"] : List Str).map V.str)) := upd_same
      have hva : ItmAt (upd H1 z1 (.tup [V.str "(", V.str "~"])) it v := hv1.lsts (.same (same_newH nz1))
      generalize upd H1 z1 (.tup [V.str "(", V.str "~"]) = Ha at *
      refine in_words (ws := ["(", "~"]) hva hza (by decide +kernel) ⟨_, rfl, ?_⟩
      cases it with
      | ts t =>
        obtain ⟨rfl, rfl⟩ : pl1 = pl ++ [.ts t] ∧ W1 = W := by
          have e : some (pl ++ [Itm.ts t], W) = some (pl1, W1) := hst
          cases e
          exact ⟨rfl, rfl⟩
        refine iteF ⟨_, rfl, ?_⟩
        refine eq_word hva (by decide +kernel) ⟨_, rfl, ?_⟩
        refine iteF ⟨_, rfl, (by show 2 ≤ sizeLine; decide), fun z2 nz2 => ?_⟩
        have Sb := Sa.new (o := .tup [V.str "&", V.str "|"]) nz2
        have hzb : upd Ha z2 (.tup [V.str "&", V.str "|"]) z2 = some (.tup ((["&", "|"] : List Str).map V.str)) := upd_same
        have hvb : ItmAt (upd Ha z2 (.tup [V.str "&", V.str "|"])) (.ts t) v := hva.lsts (.same (same_newH nz2))
        generalize upd Ha z2 (.tup [V.str "&", V.str "|"]) = Hb at *
        refine in_words (ws := ["&", "|"]) hvb hzb (by decide +kernel) ⟨_, rfl, ?_⟩
        obtain ⟨ps, hp, hi2⟩ := Sb.hp
        have hpl := hi2.1
        have := Sb.len
        refine iteF ⟨_, rfl, .inl ⟨rfl, _, SqL.of hp⟩, _, rfl, p, ps, _, rfl, rfl, hp, by omega, next (Sb.put hp hi2 hvb)⟩
      | wd w0 =>
        cases (show v = V.str w0 from hv)
        rw [shStep_wd] at hst
        rw [isWd_wd]
        by_cases h1 : w0 ∈ (["(", "~"] : List Str)
        · rw [decide_eq_true h1]
          rw [if_pos h1] at hst
          cases hst
          refine iteT ⟨_, rfl, .inl ⟨rfl, _, SqL.of Sa.hq⟩, _, rfl, q, _, _, rfl, rfl, Sa.hq, (by have := Sa.len; rw [List.length_map, List.length_reverse]; omega), ?_⟩
          refine next (Sa.push (show w0 ∈ opL from ?_))
          rcases List.mem_cons.mp h1 with e | e
          · rw [e]; decide
          · rw [List.mem_singleton.mp e]; decide
        · rw [decide_eq_false h1]
          rw [if_neg h1] at hst
          refine iteF ⟨_, rfl, ?_⟩
          refine eq_word hva (by decide +kernel) ⟨_, rfl, ?_⟩
          rw [isWd_wd]
          by_cases h2 : w0 = ")"
          · rw [decide_eq_true (show w0 ∈ ([")"] : List Str) from List.mem_singleton.mpr h2)]
            rw [if_pos h2] at hst
            refine iteT ?_
            refine ⟨fun m σ H' => ∃ (pl2 : List Itm) (W2 : List Str), σ = [some (V.ref l), some (.ref p), some (.ref q), some (.str w0)] ∧ m = W2.length ∧ ShS H p q pl2 W2 i H' ∧ popTo pl2 W2 = some (pl1, W1), ⟨_, pl, W, rfl, rfl, Sa, hst⟩, ?_⟩
            rintro m σ H2 ⟨pl2, W2, rfl, rfl, S2, h3⟩
            cases W2 with
            | nil => cases h3
            | cons w2 W2 =>
              have hq2 := S2.hq
              rw [rev_cons] at hq2
              refine ⟨_, rfl, _, rfl, q, _, _, _, rfl, rfl, SqL.of hq2, atI_last (last_snoc _ _), rfl, _, rfl, ?_⟩
              unfold popTo at h3
              by_cases h4 : w2 = "("
              · rw [if_pos h4] at h3
                cases h3
                rw [decide_eq_true (show V.str w2 = V.str "(" by rw [h4])]
                refine iteF ?_
                refine ⟨_, rfl, .inl ⟨rfl, _, SqL.of hq2⟩, q, _, _, rfl, rfl, hq2, last_snoc _ _, ?_⟩
                exact next (ShS.drop (w := w2) ⟨S2.same, S2.np, S2.nq, S2.pq, S2.hp, S2.hq, Nat.le_succ_of_le S2.len, S2.ops⟩)
              · rw [if_neg h4] at h3
                rw [decide_eq_false (fun z => h4 (V.str.inj z))]
                obtain ⟨ps, hp, hi2⟩ := S2.hp
                have hpl := hi2.1
                have hln := S2.len
                rw [List.length_cons] at hln
                refine iteT ⟨_, fun _ _ h => h, ?_⟩
                refine ⟨_, rfl, .inl ⟨rfl, _, SqL.of hp⟩, _, rfl, .inl ⟨rfl, _, SqL.of hq2⟩, q, _, _, rfl, rfl, hq2, last_snoc _ _, ?_⟩
                refine ⟨p, ps, _, rfl, rfl, (by rw [upd_ne S2.pq]; exact hp), by omega, ?_⟩
                exact ⟨_, by rw [List.length_cons]; omega, _, _, rfl, rfl, S2.move hp hi2, h3⟩
          · rw [decide_eq_false (fun z => h2 (List.mem_singleton.mp z))]
            rw [if_neg h2] at hst
            refine iteF ⟨_, rfl, (by show 2 ≤ sizeLine; decide), fun z2 nz2 => ?_⟩
            have Sb := Sa.new (o := .tup [V.str "&", V.str "|"]) nz2
            have hzb : upd Ha z2 (.tup [V.str "&", V.str "|"]) z2 = some (.tup ((["&", "|"] : List Str).map V.str)) := upd_same
            have hvb : ItmAt (upd Ha z2 (.tup [V.str "&", V.str "|"])) (.wd w0) (.str w0) := rfl
            generalize upd Ha z2 (.tup [V.str "&", V.str "|"]) = Hb at *
            refine in_words (ws := ["&", "|"]) hvb hzb (by decide +kernel) ⟨_, rfl, ?_⟩
            rw [isWd_wd]
            by_cases h5 : w0 ∈ (["&", "|"] : List Str)
            · rw [decide_eq_true h5]
              rw [if_pos h5] at hst
              have hop : w0 ∈ opL := by
                rcases List.mem_cons.mp h5 with e | e
                · rw [e]; decide
                · rw [List.mem_singleton.mp e]; decide
              obtain ⟨rfl, rfl⟩ := Prod.mk.inj (Option.some.inj hst)
              refine iteT ?_
              refine ⟨fun m σ H' => ∃ (pl2 : List Itm) (W2 : List Str), σ = [some (V.ref l), some (.ref p), some (.ref q), some (.str w0)] ∧ m = W2.length ∧ ShS H p q pl2 W2 i H' ∧ popRank (rank w0) pl2 W2 = popRank (rank w0) pl W, ⟨_, pl, W, rfl, rfl, Sb, rfl⟩, ?_⟩
              rintro m σ H2 ⟨pl2, W2, rfl, rfl, S2, h3⟩
              cases W2 with
              | nil =>
                refine ⟨_, rfl, _, .inl ⟨_, SqL.of S2.hq, rfl⟩, ?_⟩
                refine iteF ?_
                have e : popRank (rank w0) pl W = (pl2, []) := h3.symm
                rw [e] at next
                refine ⟨_, rfl, .inl ⟨rfl, _, SqL.of S2.hq⟩, _, rfl, q, _, _, rfl, rfl, S2.hq, (by show 0 < sizeLine; decide), ?_⟩
                exact next (S2.push hop)
              | cons w2 W2 =>
                have hq2 := S2.hq
                have hw2 : w2 ∈ opL := S2.ops w2 List.mem_cons_self
                rw [rev_cons] at hq2
                refine ⟨_, rfl, _, .inl ⟨_, SqL.of hq2, rfl⟩, ?_⟩
                rw [show (!(W2.reverse.map V.str ++ [V.str w2]).isEmpty) = true by simp]
                refine iteT ?_
                refine ⟨_, rfl, _, rfl, q, _, _, _, rfl, rfl, SqL.of hq2, Own.atI_last (last_snoc _ _), aR, w2, _, rfl, rfl, T.rank hw2, _, rfl, aR, w0, _, rfl, rfl, T.rank hop, _, _, rfl, rfl, _, rfl, ?_⟩
                rw [popRank_cons] at h3
                by_cases h4 : rank w0 ≤ rank w2
                · rw [if_pos h4] at h3
                  rw [decide_eq_true (by omega)]
                  obtain ⟨ps, hp, hi2⟩ := S2.hp
                  have hpl := hi2.1
                  have hln := S2.len
                  rw [List.length_cons] at hln
                  refine iteT ⟨_, fun _ _ h => h, ?_⟩
                  refine ⟨_, rfl, .inl ⟨rfl, _, SqL.of hp⟩, _, rfl, .inl ⟨rfl, _, SqL.of hq2⟩, q, _, _, rfl, rfl, hq2, last_snoc _ _, ?_⟩
                  refine ⟨p, ps, _, rfl, rfl, (by rw [upd_ne S2.pq]; exact hp), by omega, ?_⟩
                  exact ⟨_, by rw [List.length_cons]; omega, _, _, rfl, rfl, S2.move hp hi2, h3⟩
                · rw [if_neg h4] at h3
                  rw [decide_eq_false (by omega)]
                  refine iteF ?_
                  have e : popRank (rank w0) pl W = (pl2, w2 :: W2) := h3.symm
                  rw [e] at next
                  have hln := S2.len
                  refine ⟨_, rfl, .inl ⟨rfl, _, SqL.of S2.hq⟩, _, rfl, q, _, _, rfl, rfl, S2.hq, (by rw [List.length_map, List.length_reverse]; omega), ?_⟩
                  exact next (S2.push hop)
            · rw [decide_eq_false h5]
              rw [if_neg h5] at hst
              cases hst
              obtain ⟨ps, hp, hi2⟩ := Sb.hp
              have hpl := hi2.1
              have := Sb.len
              refine iteF ⟨_, rfl, .inl ⟨rfl, _, SqL.of hp⟩, _, rfl, p, ps, _, rfl, rfl, hp, by omega, next (Sb.put hp hi2 hvb)⟩
    · rintro σ H1 ⟨pl, W, t3, rfl, S, hrn⟩
      rw [show its.drop xs.length = [] by rw [← hlen, List.drop_length]] at hrn
      obtain ⟨rfl, rfl⟩ := Prod.mk.inj (Option.some.inj hrn)
      obtain ⟨ps, hp, hi2⟩ := S.hp
      have hpl := hi2.1
      have hln := S.len
      refine ⟨_, rfl, p, ps, rfl, .inr (SqL.of hp), _, rfl, q, _, rfl, SqL.of S.hq, fun r nr => ?_⟩
      have S1 := S.new (o := .lst (W.reverse.map V.str).reverse) nr
      have hr1 : upd H1 r (.lst (W.reverse.map V.str).reverse) r = some (.lst (W.reverse.map V.str).reverse) := upd_same
      have hp1 : upd H1 r (.lst (W.reverse.map V.str).reverse) p = some (.lst ps) := by rw [upd_ne (ne_of_none hp nr)]; exact hp
      have hi3 : Itms (upd H1 r (.lst (W.reverse.map V.str).reverse)) pl ps := hi2.lsts (.same (same_newH nr))
      generalize upd H1 r (.lst (W.reverse.map V.str).reverse) = H2 at *
      have er : (W.reverse.map V.str).reverse = W.map V.str := by rw [← List.map_reverse, List.reverse_reverse]
      rw [er] at hr1
      refine ⟨r, W.map V.str, rfl, .inr (SqL.of hr1), ?_⟩
      refine ⟨(by rw [List.append_nil, List.length_append, List.length_map]; omega), fun x nx => ?_⟩
      have hW : Itms H2 (W.map Itm.wd) (W.map V.str) := ⟨by rw [List.length_map, List.length_map], fun j a y e1 e2 => by
        rw [List.getElem?_map] at e1 e2
        cases hj : W[j]? with
        | none => rw [hj] at e1; cases e1
        | some w1 => rw [hj] at e1 e2; cases e1; cases e2; rfl⟩
      have nx0 : H x = none := S1.same.free nx
      have L := Lsts.same (same_newH (o := .lst (ps ++ (W.map V.str ++ []))) nx)
      refine k x _ _ (put_same S1.same nx0) nx0 upd_same ?_ (by show (pl ++ W.map Itm.wd).length ≤ _; rw [List.length_append, List.length_map]; omega)
      rw [List.append_nil] at L ⊢
      exact Itms.lsts L (hi3.app hW)

theorem sc_tree_of : FnScope ["items", "trees", "item", "right"] ["items"] (defScope s_tree_of) := ⟨rfl, rfl, rfl, by decide +kernel, rfl, by decide +kernel, by decide +kernel⟩
theorem ok_tree_of {aL aR fs fn fj : Addr} {fds fdn fdj : FuncData} (F : FnP K "tree_of" s_tree_of f fd) (T : TxT K w mg aL aR) (c_with_signs_behind : Cal P w K mg base CX0 1 "with_signs_behind" fs fds ["items"] spShunt) (c_negated : Cal P w K mg base CX0 1 "negated" fn fdn ["tree"] spNeg)
    (c_joined : Cal P w K mg base CX0 1 "joined" fj fdj ["sign", "left", "right"] spJoin) : FnOk P w K mg base CX0 2 f fd ["items"] spTreeOf := by
  refine F.ok sc_tree_of (fun vs H Q E h => ?_) (fun cdv A outer s H vs Q E hr h => ⟨_, PSs.nox (pss_cons (ps_set (i := 1) sc_tree_of.nd rfl (Or.inl rfl) (pe_lst pa_nil))
 (pss_cons (ps_for PassesOwn.never rfl (pi_list (pe_cal c_with_signs_behind (hr.mono (by decide)) (pa_cons (pv 0) pa_nil))) (pg_name (i := 2) sc_tree_of.nd rfl (Or.inl rfl))
 (pss_one (ps_if (pt_cmpR (op_alt op_eq (op_eqD (hu_of' hr))) (pv 2) pe_str (nomark _))
 (pss_one (ps_expr (pe_bm PySem.F.plainAttrs_list PySem.F.slot_list_append PySem.F.type_list_append mt_append (pv 1) (pa_cons (pe_cal c_negated (hr.mono (by decide)) (pa_cons (pe_bm0 PySem.F.plainAttrs_list PySem.F.slot_list_pop PySem.F.type_list_pop mt_pop (pv 1)) pa_nil)) pa_nil))))
 (pss_one (ps_if (pt_cmpR (op_alt op_in_seq (op_inDT (hu65 hr))) (pv 2) (pe_tup (pa_cons pe_str (pa_cons pe_str pa_nil))) (by rfl))
 (pss_cons (ps_set (i := 3) sc_tree_of.nd rfl (Or.inl rfl) (pe_bm0 PySem.F.plainAttrs_list PySem.F.slot_list_pop PySem.F.type_list_pop mt_pop (pv 1)))
 (pss_one (ps_expr (pe_bm PySem.F.plainAttrs_list PySem.F.slot_list_append PySem.F.type_list_append mt_append (pv 1) (pa_cons (pe_cal c_joined (hr.mono (by decide)) (pa_cons (pv 2) (pa_cons (pe_bm0 PySem.F.plainAttrs_list PySem.F.slot_list_pop PySem.F.type_list_pop mt_pop (pv 1)) (pa_cons (pv 3) pa_nil)))) pa_nil)))))
 (pss_one (ps_expr (pe_bm PySem.F.plainAttrs_list PySem.F.slot_list_append PySem.F.type_list_append mt_append (pv 1) (pa_cons (pe_ifExp (pt_cmpR (op_alt op_eq (op_eqD (hu_of' hr))) (pv 2) pe_str (nomark _)) pe_non (pe_tup (pa_cons (pv 2) pa_nil))) pa_nil)))))))))
 (pss_one (ps_ret (pe_ix ix_list (pv 1) pe_int (fun _ _ => rfl)))))), ?_⟩)
  · obtain ⟨l, xs, its, o, rfl, _⟩ := h
    rfl
  · obtain ⟨l, xs, its, o, rfl, hl, hT, hn, ho, k⟩ := h
    unfold treeOf at ho
    obtain ⟨c, hc, ho⟩ := Option.bind_eq_some_iff.mp ho
    obtain ⟨fin, hf, ho⟩ := Option.bind_eq_some_iff.mp ho
    have hsl : (100000 : Nat) < sizeLine := by rw [sizeLine_eq]; omega
    refine ⟨Nat.zero_le _, fun q nq => ?_⟩
    have S01 := same_newH (o := .lst []) nq
    have hq0 : upd H q (.lst []) q = some (.lst []) := upd_same
    generalize upd H q (.lst []) = H0 at *
    refine ⟨_, rfl, l, xs, its, c, rfl, S01 _ _ hl, hT.lsts (.same S01), hn, hc, fun l2 ys H1 S12 n2 hl2 hT2 hn2 => ?_⟩
    have hq1 := S12 _ _ hq0
    have nlq : l2 ≠ q := (ne_of_none hq0 n2).symm
    have hlen := hT2.1
    refine ⟨l2, rfl, ⟨ys, SqL.of hl2⟩, ?_⟩
    refine for_list (xs := ys) (fun i σ H' => ∃ (st : List (Option Tr)) (t2 t3 : Option V), σ = [some (.ref l), some (.ref q), t2, t3] ∧ TrS H q st i H' ∧ H' l2 = some (.lst ys) ∧ Lsts H1 H' ∧ tRun (c.drop i) st = some fin)
      ⟨[], none, none, rfl, ⟨S01.trans S12, nq, ⟨[], hq1, .nil⟩, Nat.le_refl _⟩, hl2, .refl, hf⟩ (fun i σ H' _ ⟨_, _, _, _, _, h, _⟩ => SqL.of h) ?_ ?_
    · rintro i v σ H2 hi ⟨st, t2, t3, rfl, S, hl3, L, hrn⟩
      obtain ⟨it, hit, hv⟩ := hT2.get hi
      have hv1 : ItmAt H2 it v := hv.lsts L
      have hil : i < c.length := (List.getElem?_eq_some_iff.mp hit).1
      rw [dropG hit] at hrn
      obtain ⟨st1, hst, hrn⟩ := Option.bind_eq_some_iff.mp (show (tStep st it).bind (tRun (c.drop (i + 1))) = _ from hrn)
      have next : ∀ {t3 : Option V} {H' : Hp}, TrS H q st1 (i + 1) H' → H' l2 = some (.lst ys) → Lsts H2 H' → ∃ (st : List (Option Tr)) (t2 t3' : Option V), [some (V.ref l), some (.ref q), some v, t3] = [some (V.ref l), some (.ref q), t2, t3'] ∧ TrS H q st (i + 1) H' ∧ H' l2 = some (.lst ys) ∧ Lsts H1 H' ∧ tRun (c.drop (i + 1)) st = some fin :=
        fun S h LL => ⟨_, _, _, rfl, S, h, L.trans LL, hrn⟩
      refine ⟨_, rfl, ?_⟩
      refine eq_word hv1 (by decide +kernel) ⟨_, rfl, ?_⟩
      -- the else branch, for any item
      have els : ∀ {H' : Hp} (t : Option Tr) (x : V), TrS H q st i H' → H' l2 = some (.lst ys) → Lsts H2 H' → st1 = st ++ [t] → OTr H' t x →
          ∃ xs, H' q = some (.lst xs) ∧ xs.length < sizeLine ∧ (∃ (st : List (Option Tr)) (t2 t3' : Option V), [some (V.ref l), some (.ref q), some v, t3] = [some (V.ref l), some (.ref q), t2, t3'] ∧ TrS H q st (i + 1) (upd H' q (.lst (xs ++ [x]))) ∧ upd H' q (.lst (xs ++ [x])) l2 = some (.lst ys) ∧ Lsts H1 (upd H' q (.lst (xs ++ [x]))) ∧ tRun (c.drop (i + 1)) st = some fin) := by
        intro H' t x S' hl' L' e ht
        obtain ⟨xs, hq, hx⟩ := S'.hq
        have h1 := S'.len
        have h2 := hx.1
        refine ⟨xs, hq, by omega, ?_⟩
        have q1 := S'.put hq hx ht
        rw [← e] at q1
        exact next q1 (by rw [upd_ne nlq]; exact hl') (L'.trans (Lsts.put hq))
      cases it with
      | ts t =>
        refine iteF ?_
        refine ⟨_, rfl, (by show 2 ≤ sizeLine; decide), fun z2 nz2 => ?_⟩
        have S2 := same_newH (o := .tup [V.str "&", V.str "|"]) nz2
        have Sb := S.on S2
        have hzb : upd H2 z2 (.tup [V.str "&", V.str "|"]) z2 = some (.tup ((["&", "|"] : List Str).map V.str)) := upd_same
        generalize upd H2 z2 (.tup [V.str "&", V.str "|"]) = Hb at *
        have hvb := hv1.lsts (.same S2)
        refine in_words (ws := ["&", "|"]) hvb hzb (by decide +kernel) ⟨_, rfl, ?_⟩
        refine iteF ?_
        obtain ⟨xs0, hq0, _⟩ := Sb.hq
        refine ⟨_, rfl, .inl ⟨rfl, _, SqL.of hq0⟩, ?_⟩
        refine ⟨_, rfl, ?_⟩
        refine eq_word hvb (by decide +kernel) ⟨_, rfl, ?_⟩
        refine iteF ?_
        refine ⟨_, rfl, (by show 1 ≤ sizeLine; decide), fun z3 nz3 => ?_⟩
        have S3 := same_newH (o := .tup [v]) nz3
        obtain ⟨xs1, h1, h2, h3⟩ := els (some (.lf (.ts t))) (.ref z3) (Sb.on S3) (S3 _ _ (S2 _ _ hl3)) ((Lsts.same S2).trans (.same S3)) (Option.some.inj hst).symm ⟨z3, v, rfl, upd_same, hvb.lsts (.same S3)⟩
        exact ⟨q, xs1, _, rfl, rfl, h1, h2, h3⟩
      | wd w0 =>
        cases (show v = V.str w0 from hv)
        rw [isWd_wd]
        rw [tStep_wd] at hst
        by_cases h1 : w0 = "~"
        · rw [decide_eq_true (show w0 ∈ (["~"] : List Str) from List.mem_singleton.mpr h1)]
          rw [if_pos h1] at hst
          obtain ⟨t, ht, hst⟩ := Option.map_eq_some_iff.mp hst
          obtain ⟨xs0, y, hq0, hy, _, ot, S'⟩ := S.pop ht
          have L1 := Lsts.put (o := .lst xs0.dropLast) hq0
          have hl4 : upd H2 q (.lst xs0.dropLast) l2 = some (.lst ys) := by rw [upd_ne nlq]; exact hl3
          refine iteT ⟨_, rfl, .inl ⟨rfl, _, SqL.of hq0⟩, _, rfl, .inl ⟨rfl, _, SqL.of hq0⟩, q, xs0, y, rfl, rfl, hq0, hy, ?_⟩
          refine ⟨y, t, rfl, ot, fun y2 H3 S3 ot2 => ?_⟩
          have S4 := S'.on S3
          obtain ⟨xs1, h3, h4⟩ := S4.hq
          have h5 := S4.len
          have h6 := h4.1
          refine ⟨q, xs1, _, rfl, rfl, h3, by omega, ?_⟩
          have q1 := S4.put h3 h4 ot2
          rw [hst] at q1
          exact next q1 (by rw [upd_ne nlq]; exact S3 _ _ hl4) ((L1.trans (.same S3)).trans (Lsts.put h3))
        · rw [decide_eq_false (fun z => h1 (List.mem_singleton.mp z))]
          rw [if_neg h1] at hst
          refine iteF ?_
          refine ⟨_, rfl, (by show 2 ≤ sizeLine; decide), fun z2 nz2 => ?_⟩
          have S2 := same_newH (o := .tup [V.str "&", V.str "|"]) nz2
          have Sb := S.on S2
          have hzb : upd H2 z2 (.tup [V.str "&", V.str "|"]) z2 = some (.tup ((["&", "|"] : List Str).map V.str)) := upd_same
          generalize upd H2 z2 (.tup [V.str "&", V.str "|"]) = Hb at *
          have hvb : ItmAt Hb (.wd w0) (.str w0) := rfl
          refine in_words (ws := ["&", "|"]) hvb hzb (by decide +kernel) ⟨_, rfl, ?_⟩
          rw [isWd_wd]
          by_cases h2 : w0 ∈ (["&", "|"] : List Str)
          · rw [decide_eq_true h2]
            rw [if_pos h2] at hst
            obtain ⟨r, hr1, hst⟩ := Option.bind_eq_some_iff.mp hst
            obtain ⟨t, ht, hst⟩ := Option.map_eq_some_iff.mp hst
            obtain ⟨xs0, y, hq0, hy, _, or, S'⟩ := Sb.pop hr1
            refine iteT ⟨_, rfl, .inl ⟨rfl, _, SqL.of hq0⟩, q, xs0, y, rfl, rfl, hq0, hy, ?_⟩
            have L1 := Lsts.put (o := .lst xs0.dropLast) hq0
            have hl4 : upd Hb q (.lst xs0.dropLast) l2 = some (.lst ys) := by rw [upd_ne nlq]; exact S2 _ _ hl3
            generalize upd Hb q (.lst xs0.dropLast) = H4 at *
            obtain ⟨xs2, y2, hq2, hy2, _, ot, S''⟩ := S'.pop ht
            have L2 := Lsts.put (o := .lst xs2.dropLast) hq2
            have hl5 : upd H4 q (.lst xs2.dropLast) l2 = some (.lst ys) := by rw [upd_ne nlq]; exact hl4
            refine ⟨_, rfl, .inl ⟨rfl, _, SqL.of hq2⟩, _, rfl, _, rfl, .inl ⟨rfl, _, SqL.of hq2⟩, q, xs2, y2, rfl, rfl, hq2, hy2, _, rfl, ?_⟩
            refine ⟨w0, y2, y, t, r, rfl, ot, or.lsts L2, fun y3 H3 S3 ot2 => ?_⟩
            have S4 := S''.on S3
            obtain ⟨xs1, h3, h4⟩ := S4.hq
            have h5 := S4.len
            have h6 := h4.1
            refine ⟨q, xs1, _, rfl, rfl, h3, by omega, ?_⟩
            have q1 := S4.put h3 h4 ot2
            rw [hst] at q1
            exact next q1 (by rw [upd_ne nlq]; exact S3 _ _ hl5) (((((Lsts.same S2).trans L1).trans L2).trans (.same S3)).trans (Lsts.put h3))
          · rw [decide_eq_false h2]
            rw [if_neg h2] at hst
            refine iteF ?_
            obtain ⟨xs0, hq0, _⟩ := Sb.hq
            refine ⟨_, rfl, .inl ⟨rfl, _, SqL.of hq0⟩, ?_⟩
            refine ⟨_, rfl, ?_⟩
            refine eq_word hvb (by decide +kernel) ⟨_, rfl, ?_⟩
            rw [isWd_wd]
            by_cases h3 : w0 = "blank"
            · rw [decide_eq_true (show w0 ∈ (["blank"] : List Str) from List.mem_singleton.mpr h3)]
              rw [if_pos h3] at hst
              refine iteT ?_
              obtain ⟨xs1, h1, h2, h3⟩ := els none .non Sb (S2 _ _ hl3) (.same S2) (Option.some.inj hst).symm rfl
              exact ⟨q, xs1, _, rfl, rfl, h1, h2, h3⟩
            · rw [decide_eq_false (fun z => h3 (List.mem_singleton.mp z))]
              rw [if_neg h3] at hst
              refine iteF ?_
              refine ⟨_, rfl, (by show 1 ≤ sizeLine; decide), fun z3 nz3 => ?_⟩
              have S3 := same_newH (o := .tup [V.str w0]) nz3
              obtain ⟨xs1, h1, h2, h3⟩ := els (some (.lf (.wd w0))) (.ref z3) (Sb.on S3) (S3 _ _ (S2 _ _ hl3)) ((Lsts.same S2).trans (.same S3)) (Option.some.inj hst).symm ⟨z3, .str w0, rfl, upd_same, rfl⟩
              exact ⟨q, xs1, _, rfl, rfl, h1, h2, h3⟩
    · rintro σ H2 ⟨st, t2, t3, rfl, S, hl3, L, hrn⟩
      rw [show c.drop ys.length = [] by rw [← hlen, List.drop_length]] at hrn
      cases hrn
      obtain ⟨xs0, hq0, hx⟩ := S.hq
      obtain ⟨y, hy, ot⟩ := hx.get' ho
      refine ⟨_, rfl, q, xs0, 0, y, rfl, rfl, SqL.of hq0, atI_nat hy, ?_⟩
      exact k y H2 S.same ot
theorem sc_condition_tree : FnScope ["words", "columns", "items", "at"] ["words", "columns"] (defScope s_condition_tree) := ⟨rfl, rfl, rfl, by decide +kernel, rfl, by decide +kernel, by decide +kernel⟩
theorem ok_ctree {aL aR ft fo : Addr} {fdt fdo : FuncData} (F : FnP K "condition_tree" s_condition_tree f fd) (T : TxT K w mg aL aR) (c_test_of : Cal P w K mg base CX0 1 "test_of" ft fdt ["words", "columns"] (spTestOf K)) (c_tree_of : Cal P w K mg base CX0 2 "tree_of" fo fdo ["items"] spTreeOf) :
    FnOk P w K mg base CX0 3 f fd ["words", "columns"] (spCTree K) := by
  refine F.ok sc_condition_tree (fun vs H Q E h => ?_) (fun cdv A outer s H vs Q E hr h => ⟨_, PSs.nox (pss_cons (ps_set (i := 2) sc_condition_tree.nd rfl (Or.inl rfl) (pe_lst pa_nil))
 (pss_cons (ps_set (i := 3) sc_condition_tree.nd rfl (Or.inl rfl) pe_int)
 (pss_cons (ps_while PassesOwn.never (pt_cmpR op_lt (pv 3) (pe_callB call_len_seq (by rfl) T.len boot_len (pa_cons (pv 0) pa_nil)) (nomark _))
 (pss_one (ps_if (pt_cmpR op_in_seq (pe_ix ix_list (pv 0) (pv 3) (fun _ _ => rfl)) (pv 1) (by rfl))
 (pss_cons (ps_expr (pe_bm PySem.F.plainAttrs_list PySem.F.slot_list_append PySem.F.type_list_append mt_append (pv 2) (pa_cons (pe_cal c_test_of (hr.mono (by decide)) (pa_cons (pe_slice sl_list (pv 0) (po_some (pv 3)) (po_some (pe_op op_add (pv 3) pe_int))) (pa_cons (pv 1) pa_nil))) pa_nil)))
 (pss_one (ps_aug (i := 3) sc_condition_tree.nd rfl (Or.inl rfl) pe_int ip_add)))
 (pss_cons (ps_expr (pe_bm PySem.F.plainAttrs_list PySem.F.slot_list_append PySem.F.type_list_append mt_append (pv 2) (pa_cons (pe_ix ix_list (pv 0) (pv 3) (fun _ _ => rfl)) pa_nil)))
 (pss_one (ps_aug (i := 3) sc_condition_tree.nd rfl (Or.inl rfl) pe_int ip_add))))))
 (pss_one (ps_ret (pe_cal c_tree_of (hr.mono (by decide)) (pa_cons (pv 2) pa_nil))))))), ?_⟩)
  · obtain ⟨l, a, words, cols, its, o, rfl, _⟩ := h
    rfl
  · obtain ⟨l, a, words, cols, its, o, rfl, hl, ha, hI, hn, ho, k⟩ := h
    have hsl : (100000 : Nat) < sizeLine := by rw [sizeLine_eq]; omega
    refine ⟨Nat.zero_le _, fun q nq => ?_⟩
    have S01 := same_newH (o := .lst []) nq
    have hq0 : upd H q (.lst []) q = some (.lst []) := upd_same
    generalize upd H q (.lst []) = H0 at *
    have nlq : l ≠ q := ne_of_none hl nq
    refine ⟨fun m σ H' => ∃ (j : Nat) (xs : List V) (done rest : List Itm), σ = [some (.ref l), some (.ref a), some (.ref q), some (.int (j : Nat))] ∧ m = words.length - j ∧ Same H H' ∧ H' q = some (.lst xs) ∧ Itms H' done xs ∧ its = done ++ rest ∧ Items cols (words.drop j) rest ∧ done.length ≤ j ∧ j ≤ words.length,
      ⟨_, 0, [], [], its, rfl, rfl, S01, hq0, .nil, rfl, hI, Nat.le_refl _, Nat.zero_le _⟩, ?_⟩
    rintro m σ H1 ⟨j, xs, done, rest, rfl, rfl, S, hq, hx, rfl, hr1, hdj, hjl⟩
    have hxl := hx.1
    have hl1 := S _ _ hl
    have ha1 := ha.lsts (.same S)
    have hlm : (words.map V.str).length = words.length := List.length_map ..
    refine ⟨_, rfl, _, rfl, l, _, rfl, .inl (SqL.of hl1), _, _, rfl, rfl, _, rfl, ite2 (fun h1 => ?_) (fun h1 => ?_)⟩
    · have h1 : j < words.length := by
        have := of_decide_eq_true h1
        omega
      obtain ⟨w0, hw0⟩ : ∃ w0, words[j]? = some w0 := ⟨_, List.getElem?_eq_getElem h1⟩
      have hw1 : (words.map V.str)[j]? = some (.str w0) := by rw [List.getElem?_map, hw0]; rfl
      refine ⟨_, fun _ _ h => h, ?_⟩
      refine ⟨_, rfl, _, rfl, l, _, _, _, rfl, rfl, SqL.of hl1, atI_nat hw1, _, rfl, a, _, rfl, .inr ha1.seq, rfl, Own.flat_strs _, _, rfl, ?_⟩
      rw [inV_str]
      rw [dropG hw0] at hr1
      refine ite2 (fun h2 => ?_) (fun h2 => ?_)
      · have h2 := of_decide_eq_true h2
        generalize hD : words.drop (j + 1) = D at hr1
        cases hr1 with
        | wd h _ => exact absurd h2 h
        | @ts _ s0 x r rest h hs hx0 t =>
          refine ⟨_, rfl, .inl ⟨rfl, _, SqL.of hq⟩, _, rfl, _, rfl, _, rfl, _, rfl, _, _, rfl, rfl, _, rfl, l, _, rfl, SqL.of hl1, fun z nz => ?_⟩
          have Sz := same_newH (o := .lst (cutV (words.map V.str) (some (j : Int)) (some ((j : Int) + 3)))) nz
          have e3 : cutV (words.map V.str) (some (j : Int)) (some ((j : Int) + 3)) = [.str w0, .str s0, .str x] := by
            unfold cutV
            rw [cut_three, ← List.map_drop, dropG hw0, hD]
            rfl
          have hz : upd H1 z (.lst (cutV (words.map V.str) (some (j : Int)) (some ((j : Int) + 3)))) z = some (.lst [.str w0, .str s0, .str x]) := by rw [upd_same, e3]
          generalize upd H1 z (.lst (cutV (words.map V.str) (some (j : Int)) (some ((j : Int) + 3)))) = Hz at *
          refine ⟨_, rfl, z, a, w0, s0, x, cols, rfl, hz, ha1.lsts (.same Sz), h2, hx0, fun p H2 S2 np hp => ?_⟩
          have hq2 := S2 _ _ (Sz _ _ hq)
          have SS := Sz.trans S2
          refine ⟨q, xs, _, rfl, rfl, hq2, by omega, ?_⟩
          have L := (Lsts.same SS).trans (Lsts.put (o := .lst (xs ++ [V.ref p])) hq2)
          have hp2 : upd H2 q (.lst (xs ++ [V.ref p])) p = some (.tup (tstV (tstOf cols w0 s0 x))) := by rw [upd_ne (ne_of hp hq2 nofun)]; exact hp
          have hlw : j + 3 ≤ words.length := by
            have e := congrArg List.length hD
            rw [List.length_drop, List.length_cons, List.length_cons] at e
            omega
          refine ⟨_, rfl, _, _, rfl, rfl, ?_⟩
          refine ⟨words.length - (j + 3), by omega, j + 3, xs ++ [.ref p], done ++ [.ts (tstOf cols w0 s0 x)], rest, rfl, rfl, put_same (S.trans SS) nq, upd_same, Al.snoc (Itms.lsts L hx) (show ItmAt _ (.ts (tstOf cols w0 s0 x)) (V.ref p) from ⟨p, rfl, hp2, hs⟩), by rw [List.append_assoc]; rfl, ?_, by rw [List.length_append, List.length_singleton]; omega, hlw⟩
          have e : words.drop (j + 3) = (words.drop (j + 1)).drop 2 := by rw [List.drop_drop]
          rw [e, hD]
          exact t
      · have h2 : ¬ w0 ∈ cols := fun z => h2 (decide_eq_true z)
        generalize hD : words.drop (j + 1) = D at hr1
        cases hr1 with
        | ts h _ _ _ => exact absurd h h2
        | @wd _ _ rest h t =>
          refine ⟨_, rfl, .inl ⟨rfl, _, SqL.of hq⟩, _, rfl, _, rfl, l, _, _, _, rfl, rfl, SqL.of hl1, atI_nat hw1, q, xs, _, rfl, rfl, hq, by omega, ?_⟩
          have L := Lsts.put (o := .lst (xs ++ [V.str w0])) hq
          refine ⟨_, rfl, _, _, rfl, rfl, ?_⟩
          refine ⟨words.length - (j + 1), by omega, j + 1, xs ++ [.str w0], done ++ [.wd w0], rest, rfl, rfl, put_same S nq, upd_same, Al.snoc (Itms.lsts L hx) (show ItmAt _ (.wd w0) (V.str w0) from rfl), by rw [List.append_assoc]; rfl, by rw [hD]; exact t, by rw [List.length_append, List.length_singleton]; omega, h1⟩
    · have h1 : words.length ≤ j := by
        have : ¬ (j : Int) < (words.length : Nat) := fun z => h1 (decide_eq_true (by rw [hlm]; exact z))
        omega
      rw [List.drop_eq_nil_of_le h1] at hr1
      cases hr1
      refine ⟨_, rfl, q, xs, _, o, rfl, hq, hx, ?_, by rw [List.append_nil] at ho; exact ho, fun v H2 S2 ot => k v H2 (S.trans S2) ot⟩
      omega

end
end K07

namespace K07
open PySem PySem.Spec PyProof.Rows L2 Own
structure Txt (K : PySem.W.Frag) (mg : Str → Option Value) (aK : Addr) : Prop extends Free mg where
  g_KEPT : mg "KEPT" = some (.ref aK)
  s_KEPT : ∀ H, SqT K H aK (keptL.map V.str)
  g_WORD_LETTERS : ∃ t, mg "WORD_LETTERS" = some (.int 8 t)
  g_MOST_COLUMNS : ∃ t, mg "MOST_COLUMNS" = some (.int 3 t)
structure TxC (K : PySem.W.Frag) (C : Addr) : Prop where
  cl : Cls K C
  nC : NoAttr K C "columns"
structure TxD (K : PySem.W.Frag) (C : Addr) : Prop where
  cl : Cls K C
  nT : NoAttr K C "table"
  nTr : NoAttr K C "_tree"
  nW : NoAttr K C "_words"
section
variable {P : Program} {w : World} {K : PySem.W.Frag} {mg : Str → Option Value} {base : Heap} {f C : Addr} {fd : FuncData}
theorem sc_law_take : FnScope ["bag", "many", "digit"] ["bag", "many"] (defScope s_law_take) := ⟨rfl, rfl, rfl, by decide +kernel, rfl, by decide +kernel, by decide +kernel⟩
theorem ok_take (F : FnP K "_law_take" s_law_take f fd) (T : Free mg) : FnOk P w K mg base CX0 1 f fd ["bag", "many"] spTake := by
  refine F.ok sc_law_take (fun vs H Q E h => ?_) (fun cdv A outer s H vs Q E hr h => ⟨_, PSs.nox (pss_cons (ps_if (pt_cmpR op_gt (pe_ix ix_list (pv 0) pe_int (fun _ _ => rfl)) pe_int (nomark _))
 (pss_cons (ps_set (i := 2) sc_law_take.nd rfl (Or.inl rfl) (pe_op op_mod (pe_callTy call_int1 (by rfl) T.int boot_int (pa_cons (pe_ix ix_list (pv 0) pe_int (fun _ _ => rfl)) pa_nil)) (pv 1)))
 (pss_cons (ps_asg (pe_op op_fdiv (pe_ix ix_list (pv 0) pe_int (fun _ _ => rfl)) (pv 1)) (pg_sub (pv 0) pe_int set_list))
 (pss_one (ps_ret (pv 2)))))
 pss_nil)
 (pss_cons (ps_asg (pe_op op_mod (pe_callTy call_int1 (by rfl) T.int boot_int (pa_cons (pe_op op_add (pe_op op_mul (pe_ix ix_list (pv 0) pe_int (fun _ _ => rfl)) pe_int) pe_int) pa_nil)) pe_int) (pg_sub (pv 0) pe_int set_list))
 (pss_one (ps_ret (pe_op op_mod (pe_op op_fdiv (pe_op op_mod (pe_callTy call_int1 (by rfl) T.int boot_int (pa_cons (pe_op op_mul (pe_op op_fdiv (pe_ix ix_list (pv 0) pe_int (fun _ _ => rfl)) pe_int) pe_int) pa_nil)) pe_int) pe_int) (pv 1)))))), ?_⟩)
  · obtain ⟨b, m, rfl, _⟩ := h
    rfl
  · obtain ⟨b, m, rfl, ⟨x, y, hb, hx, hy⟩, hm, hm2, k⟩ := h
    refine ⟨_, rfl, b, _, 0, _, rfl, rfl, SqL.of hb, rfl, _, _, rfl, rfl, _, rfl, ?_⟩
    refine ite2 (fun hgt => ?_) (fun hle => ?_)
    · have hx0 : 0 < x := of_decide_eq_true hgt
      refine ⟨_, rfl, b, _, 0, _, rfl, rfl, SqL.of hb, rfl, .inl ⟨_, rfl, ?_⟩⟩
      refine ⟨_, rfl, _, _, rfl, rfl, hm, ?_⟩
      refine ⟨_, rfl, b, _, 0, _, rfl, rfl, SqL.of hb, rfl, _, rfl, _, _, rfl, rfl, ⟨hm, hm2⟩, ?_⟩
      refine ⟨_, rfl, b, _, 0, 0, rfl, rfl, hb, rfl, ?_⟩
      refine ⟨_, rfl, k _ _ (Int.emod_nonneg _ (by omega)) (Int.emod_lt_of_pos _ hm) (But.put But.refl) ⟨_, _, upd_same, Int.ediv_nonneg hx (by omega), hy⟩⟩
    · refine ⟨_, rfl, b, _, 1, _, rfl, rfl, SqL.of hb, rfl, _, _, rfl, rfl, .inr ⟨by decide, by decide⟩, _, _, rfl, rfl, .inl ⟨_, rfl, _, _, rfl, rfl, (by show (0 : Int) < _; decide), ?_⟩⟩
      refine ⟨_, rfl, b, _, 1, 1, rfl, rfl, hb, rfl, ?_⟩
      refine ⟨_, rfl, b, _, 1, _, rfl, rfl, SqL.of upd_same, rfl, _, _, rfl, rfl, ⟨by decide, by decide⟩, _, _, rfl, rfl, .inr ⟨by decide, by decide⟩, .inl ⟨_, rfl, _, _, rfl, rfl, (by show (0 : Int) < _; decide), ?_⟩⟩
      refine ⟨_, _, rfl, rfl, ⟨by decide, by decide⟩, _, rfl, _, _, rfl, rfl, hm, ?_⟩
      refine k _ _ (Int.emod_nonneg _ (by omega)) (Int.emod_lt_of_pos _ hm) (But.put But.refl) ⟨_, _, upd_same, hx, Int.emod_nonneg _ (by decide)⟩
theorem sc_law_of : FnScope ["bag", "some"] ["bag", "some"] (defScope s_law_of) := ⟨rfl, rfl, rfl, by decide +kernel, rfl, by decide +kernel, by decide +kernel⟩
theorem ok_of {ft : Addr} {fdt : FuncData} (F : FnP K "_law_of" s_law_of f fd) (T : Free mg) (c_law_take : Cal P w K mg base CX0 1 "_law_take" ft fdt ["bag", "many"] spTake) : FnOk P w K mg base CX0 2 f fd ["bag", "some"] (spOf K) := by
  refine F.ok sc_law_of (fun vs H Q E h => ?_) (fun cdv A outer s H vs Q E hr h => ⟨_, PSs.nox (pss_one (ps_ret (pe_ix ix_list (pv 1) (pe_cal c_law_take (hr.mono (by decide)) (pa_cons (pv 0) (pa_cons (pe_callB call_len_seq (by rfl) T.len boot_len (pa_cons (pv 1) pa_nil)) pa_nil))) (fun _ _ => rfl)))), ?_⟩)
  · obtain ⟨b, l, xs, rfl, _⟩ := h
    rfl
  · obtain ⟨b, l, xs, rfl, hb, hne, hl, hx, hlen, k⟩ := h
    have hpos : 0 < xs.length := List.length_pos_iff.mpr hx
    refine ⟨_, rfl, _, rfl, _, rfl, l, _, rfl, .inl hl, b, _, rfl, hb, by omega, by omega, fun d H' h0 h1 hB hb' => ?_⟩
    refine ⟨l, xs, d, xs[d.toNat]'(by omega), rfl, rfl, hB.list hne hl, ?_, ?_⟩
    · exact at_of (j := d.toNat) (by omega) (List.getElem?_eq_getElem _)
    · exact k _ _ (List.getElem_mem _) hB hb'
theorem sc_law_bag : FnScope ["script", "at", "cell", "mixed", "k", "each"] ["script", "at"] (defScope s_law_bag) := ⟨rfl, rfl, rfl, by decide +kernel, rfl, by decide +kernel, by decide +kernel⟩
theorem ok_bag (F : FnP K "_law_bag" s_law_bag f fd) (T : Free mg) : FnOk P w K mg base CX0 1 f fd ["script", "at"] (spBag K) := by
  refine F.ok sc_law_bag (fun vs H Q E h => ?_) (fun cdv A outer s H vs Q E hr h => ⟨_, PSs.nox (pss_cons (ps_set (i := 2) sc_law_bag.nd rfl (Or.inl rfl) (pe_ifExp (pt_cmpR op_lt (pv 1) (pe_callB call_len_seq (by rfl) T.len boot_len (pa_cons (pv 0) pa_nil)) (nomark _)) (pe_ix ix_list (pv 0) (pv 1) (fun _ _ => rfl)) pe_int))
 (pss_cons (ps_set (i := 3) sc_law_bag.nd rfl (Or.inl rfl) (pe_op op_add (pe_op op_mul pe_int (pv 1)) pe_int))
 (pss_cons (ps_for PassesOwn.never rfl (pi_enum (by rfl) T.enumerate (pa_cons (pe_slice sl_list (pv 0) po_none (po_some pe_int)) pa_nil)) (pg_tup rfl (pgs_cons (pg_name (i := 4) sc_law_bag.nd rfl (Or.inl rfl)) (pgs_cons (pg_name (i := 5) sc_law_bag.nd rfl (Or.inl rfl)) pgs_nil)))
 (pss_one (ps_set (i := 3) sc_law_bag.nd rfl (Or.inl rfl) (pe_op op_mod (pe_callTy call_int1 (by rfl) T.int boot_int (pa_cons (pe_op op_add (pe_op op_add (pe_op op_mul (pv 3) pe_int) (pe_op op_mod (pe_callTy call_int1 (by rfl) T.int boot_int (pa_cons (pv 5) pa_nil)) pe_int)) (pe_op op_mul pe_int (pv 4))) pa_nil)) pe_int))))
 (pss_one (ps_ret (pe_lst (pa_cons (pe_ifExp (pt_cmpR op_ge (pe_callB call_abs (by rfl) T.abs boot_abs (pa_cons (pv 2) pa_nil)) (pe_op op_pow pe_int pe_int) (nomark _)) (pe_callB call_abs (by rfl) T.abs boot_abs (pa_cons (pv 2) pa_nil)) pe_int) (pa_cons (pv 3) pa_nil)))))))), ?_⟩)
  · obtain ⟨a, ns, n, rfl, _⟩ := h
    rfl
  · obtain ⟨a, ns, n, rfl, hS, hlen, hn, k⟩ := h
    refine ⟨_, rfl, _, rfl, a, _, rfl, .inl hS, _, _, rfl, rfl, _, rfl, ?_⟩
    refine' pick (α := Int) ?main ?rest
    case main =>
      intro go
      refine ite2 (fun hlt => ?_) (fun _ => ?_)
      have hlt2 : n < ns.length := by
        have q := of_decide_eq_true hlt
        rw [len_ints] at q
        omega
      obtain ⟨u, hu⟩ : ∃ u, ns[n]? = some u := ⟨_, List.getElem?_eq_getElem hlt2⟩
      exact ⟨_, rfl, _, rfl, a, _, _, V.int u, rfl, rfl, hS, at_of rfl (by rw [List.getElem?_map, hu]; rfl), go u⟩
      exact go 0
    case rest =>
      intro c
      refine ⟨_, rfl, _, _, rfl, rfl, .inl ⟨by decide, by decide⟩, _, _, rfl, rfl, ?_⟩
      refine ⟨_, rfl, _, rfl, a, _, rfl, hS, fun p np => ⟨p, _, rfl, SqL.of upd_same, ?_⟩⟩
      refine for_it (walk_enum (xs := cutV (ns.map V.int) none (some 63))) (fun _ σ H' => ∃ (m : Int) (kv ev : Option V), σ = [some (.ref a), some (.int n), some (.int c), some (.int m), kv, ev] ∧ Same (upd H p (.lst (cutV (ns.map V.int) none (some 63)))) H' ∧ 0 ≤ m)
        ⟨_, none, none, rfl, Same.refl _, by omega⟩ (fun i σ H' _ ⟨m, kv, ev, _, R, _⟩ => SqL.of (R _ _ upd_same)) ?_ ?_
      · rintro i x σ H1 H2 hi ⟨m, kv, ev, rfl, R, hm⟩ ⟨t, k1, x1, rfl, nt, rfl, hk, hx⟩
        cases hk
        obtain ⟨u, rfl⟩ := int_of_mem (mem_cut (List.mem_of_getElem? hx))
        refine ⟨t, _, rfl, .inl (.inl upd_same), rfl, ?_⟩
        refine ⟨_, _, rfl, _, _, rfl, rfl, ?_⟩
        refine ⟨_, rfl, _, _, rfl, rfl, .inr ⟨by decide, by decide⟩, _, rfl, .inl ⟨_, rfl, _, _, rfl, rfl, (by show (0 : Int) < _; decide), _, _, rfl, rfl, _, rfl, _, _, rfl, rfl, .inl ⟨by decide, by decide⟩, _, _, rfl, rfl, .inl ⟨_, rfl, _, _, rfl, rfl, (by show (0 : Int) < _; decide), ?_⟩⟩⟩
        exact ⟨_, _, _, rfl, same_new R nt, Int.emod_nonneg _ (by decide)⟩
      · rintro σ H' ⟨m, kv, ev, rfl, R, hm⟩
        refine ⟨_, rfl, _, rfl, _, _, rfl, rfl, ⟨by decide, by decide, by decide⟩, _, _, rfl, rfl, _, rfl, ?_⟩
        refine' pickP (α := Int) (fun z => 0 ≤ z) ?main2 ?rest2
        case main2 =>
          intro go
          refine ite2 (fun _ => ?_) (fun _ => ?_)
          obtain ⟨u, hu, e⟩ : ∃ u, 0 ≤ u ∧ u = (if c < 0 then -c else c) := ⟨_, abs_nn c, rfl⟩
          refine ⟨_, rfl, _, rfl, ?_⟩
          rw [← e]
          exact go u hu
          exact go 0 (by omega)
        case rest2 =>
          intro x hx
          refine ⟨_, rfl, (by show 2 ≤ sizeLine; decide), fun b nb => ?_⟩
          exact k b _ (same_new ((same_newH np).trans R) nb) ((same_newH np).free (R.free nb)) ⟨_, _, upd_same, hx, hm⟩

theorem sc_is_word : FnScope ["thing", "letter"] ["thing"] (defScope s_is_word) := ⟨rfl, rfl, rfl, by decide +kernel, rfl, by decide +kernel, by decide +kernel⟩
theorem ok_is_word {aK : Addr} (F : FnP K "is_word" s_is_word f fd) (T : Txt K mg aK) : FnOk P w K mg base CX0 1 f fd ["thing"] spIsWord := by
  refine F.ok sc_is_word (fun vs H Q E h => ?_) (fun cdv A outer s H vs Q E hr h => ⟨_, PSs.nox (pss_cons (ps_if (PW.pt (pw_or (pt_not (pt_val (pe_callB call_isi (by rfl) T.isinstance boot_isinstance (pa_cons (pv 0) (pa_cons (pe_bltn (v := .ty "str") (by rfl) T.str boot_str rfl) pa_nil))))) (pw_or1 (pt_cmpR op_in_seq (pv 0) (pe_glob (v := .ref _) (by rfl) T.g_KEPT rfl) (by rfl)))))
 (pss_one (ps_ret pe_bl))
 pss_nil)
 (pss_one (ps_ret (pe_and (pe_chain op_le op_le pe_int (pe_callB call_len_str (by rfl) T.len boot_len (pa_cons (pv 0) pa_nil)) (pe_gint (by rfl) T.g_WORD_LETTERS)) (pe_one (pe_callB (cr_all rfl) (by rfl) T.all boot_all (pa_cons (pe_lc (own := [("letter", 1)]) rfl sc_is_word.nd (pi_str (pv 0)) (blkOk_by (N := ["thing", "letter"]) (sc := defScope s_is_word) (by decide +kernel)) (fun _ _ _ _ _ => (pg_name (i := 1) sc_is_word.nd rfl (Or.inl rfl))) (fun _ _ _ _ _ => pts_nil) (fun _ _ _ _ _ => (pe_chain op_le_str op_le_str pe_str (pv 1) pe_str))) pa_nil))))))), ?_⟩)
  · obtain ⟨v, t, rfl, _⟩ := h
    rfl
  · obtain ⟨v, t, rfl, ht, hz, k⟩ := h
    refine ⟨_, rfl, _, _, _, _, _, rfl, .ty _, kd_ok ht, kit_str t, _, rfl, ?_⟩
    by_cases e : t = .str
    · subst e
      obtain ⟨z, rfl⟩ := kd_str ht
      have hlen := hz z rfl
      refine iteNS rfl ?_
      refine ⟨_, rfl, aK, keptL.map V.str, rfl, .inr (T.s_KEPT _), rfl, Own.flat_strs _, _, rfl, ?_⟩
      refine ite2 (fun h1 => ?_) (fun h1 => ?_)
      · have h2 : inV (.str z) (keptL.map V.str) = true := h1
        have q : Q (V.bl (wordB z)) H := k H (Same.refl H)
        unfold wordB at q
        rw [h2] at q
        exact q
      · have h2 : inV (.str z) (keptL.map V.str) = false := by
          rw [← Bool.not_eq_true]
          exact h1
        have k0 : ∀ H', Same H H' → Q (V.bl (wordB z)) H' := k
        unfold wordB at k0
        rw [h2] at k0
        have k2 : ∀ H', Same H H' → Q (V.bl ((decide ((1 : Int) ≤ (z.length : Nat)) && decide (((z.length : Nat) : Int) ≤ 8)) && z.cps.toList.all lowB)) H' := k0
        refine ⟨_, rfl, z, rfl, Nat.le_of_lt (small1000 hlen), _, _, rfl, rfl, _, rfl, ?_⟩
        refine ite2 (fun h3 => ?_) (fun h3 => ?_)
        · rw [h3] at k2
          refine ⟨_, _, rfl, rfl, _, rfl, ?_⟩
          refine ite2 (fun h4 => ?_) (fun h4 => ?_)
          · rw [h4] at k2
            refine ⟨_, rfl, z, rfl, fun D nD => ?_⟩
            refine lc_it walk_str (fun i H' => H' = upd H D (.lst (((z.cps.toList.take i).map lowB).map V.bl))) rfl (fun i H' _ e => True.intro) (fun i x H' H2 hi e y => ?_) (fun H' e => ?_)
            · subst e
              obtain ⟨rfl, c, hc, rfl⟩ := y
              have hc2 : z.cps.toList[i]? = some c := by
                rw [Array.getElem?_toList]
                exact hc
              have fin : ∀ b, b = lowB c → ∃ acc, upd H D (.lst (((z.cps.toList.take i).map lowB).map V.bl)) D = some (.lst acc) ∧ acc.length < sizeLine ∧
                  upd (upd H D (.lst (((z.cps.toList.take i).map lowB).map V.bl))) D (.lst (acc ++ [V.bl b])) = upd H D (.lst (((z.cps.toList.take (i + 1)).map lowB).map V.bl)) := by
                intro b eb
                refine ⟨_, upd_same, small1000 ?_, ?_⟩
                · simp
                  have : z.cps.size = z.length := rfl
                  omega
                · rw [upd_upd, eb, map_take_snoc lowB hc2, List.map_append] <;> rfl
              refine ⟨rfl, _, rfl, _, _, rfl, rfl, _, rfl, ?_⟩
              have q1 : (!decide (([c] : List Nat) < [97])) = decide (97 ≤ c) := le_sign c 97
              have q2 : (!decide (([122] : List Nat) < [c])) = decide (c ≤ 122) := le_sign 122 c
              refine ite2 (fun h5 => ?_) (fun h5 => ?_)
              · have h6 : decide (97 ≤ c) = true := q1.symm.trans h5
                refine ⟨_, _, rfl, rfl, fin _ ?_⟩
                unfold lowB
                rw [h6]
                exact q2
              · have h6 : decide (97 ≤ c) = false := by
                  rw [← q1, ← Bool.not_eq_true]
                  exact h5
                refine fin _ ?_
                unfold lowB
                rw [h6]
                rfl
            · subst e
              refine ⟨D, z.cps.toList.map lowB, rfl, SqL.of (by rw [upd_same, List.take_of_length_le (by simp)]), ?_⟩
              rw [all_id_map]
              exact k2 _ (same_newH nD)
          · rw [Bool.not_eq_true] at h4
            rw [h4] at k2
            exact k2 _ (Same.refl H)
        · rw [Bool.not_eq_true] at h3
          rw [h3] at k2
          exact ⟨_, rfl, k2 _ (Same.refl H)⟩
    · rw [decide_eq_false e]
      refine iteT ?_
      have q := k H (Same.refl H)
      rw [wordV_not ht e] at q
      exact q

theorem sc_first_bad : FnScope ["names", "at", "name"] ["names"] (defScope s_first_bad) := ⟨rfl, rfl, rfl, by decide +kernel, rfl, by decide +kernel, by decide +kernel⟩
theorem ok_first_bad {aK fw : Addr} {fdw : FuncData} (F : FnP K "first_bad" s_first_bad f fd) (T : Txt K mg aK) (c_is_word : Cal P w K mg base CX0 1 "is_word" fw fdw ["thing"] spIsWord) : FnOk P w K mg base CX0 2 f fd ["names"] (spFirstBadA K) := by
  refine F.ok sc_first_bad (fun vs H Q E h => ?_) (fun cdv A outer s H vs Q E hr h => ⟨_, PSs.nox (pss_cons (ps_if (pt_not (pt_chain op_le op_le pe_int (pe_callB call_len_seq (by rfl) T.len boot_len (pa_cons (pv 0) pa_nil)) (pe_gint (by rfl) T.g_MOST_COLUMNS)))
 (pss_one (ps_ret (pe_un un_neg pe_int)))
 pss_nil)
 (pss_cons (ps_for PassesOwn.never rfl (pi_enumA (by rfl) T.enumerate (pa_cons (pv 0) pa_nil)) (pg_tup rfl (pgs_cons (pg_name (i := 1) sc_first_bad.nd rfl (Or.inl rfl)) (pgs_cons (pg_name (i := 2) sc_first_bad.nd rfl (Or.inl rfl)) pgs_nil)))
 (pss_one (ps_if (PW.pt (pw_or (pt_not (pt_val (pe_cal c_is_word (hr.mono (by decide)) (pa_cons (pv 2) pa_nil)))) (pw_or1 (pt_cmpR op_in_seq (pv 2) (pe_slice sl_A (pv 0) po_none (po_some (pv 1))) (by rfl)))))
 (pss_one (ps_ret (pv 1)))
 pss_nil)))
 (pss_one (ps_ret pe_non)))), ?_⟩)
  · obtain ⟨a, xs, rfl, _⟩ := h
    rfl
  · obtain ⟨a, xs, rfl, ha, hlen, hx, k⟩ := h
    have bad : (decide ((1 : Int) ≤ (xs.length : Nat)) && decide (((xs.length : Nat) : Int) ≤ 3)) = false → Q (.int (-1)) H := by
      intro e
      have q := k H (Same.refl H)
      unfold dueV at q
      rw [e] at q
      exact q
    refine ⟨_, rfl, a, xs, rfl, ha.seqA, _, _, rfl, rfl, _, rfl, ?_⟩
    refine ite2 (fun h1 => ?_) (fun h1 => ?_)
    rotate_left
    · rw [Bool.not_eq_true] at h1
      refine ⟨_, rfl, iteT ?_⟩
      exact ⟨_, rfl, bad (by rw [h1]; rfl)⟩
    refine ⟨_, _, rfl, rfl, _, rfl, ?_⟩
    refine ite2 (fun h2 => ?_) (fun h2 => ?_)
    · rw [Bool.not_eq_true'] at h2
      exact ⟨_, rfl, bad (by rw [h1, h2]; rfl)⟩
    have h2 : decide (((xs.length : Nat) : Int) ≤ 3) = true := by
      cases q : decide (((xs.length : Nat) : Int) ≤ 3) with
      | true => rfl
      | false => exact absurd (by rw [q]; rfl) h2
    have good : ∀ H', Same H H' → Q (match badFrom [] xs with
        | some i => .int (i : Nat)
        | none => .non) H' := by
      intro H' e
      have q := k H' e
      unfold dueV at q
      rw [h1, h2] at q
      exact q
    refine ⟨_, rfl, a, xs, rfl, ha.seqA, fun J G w hG => ?_⟩
    refine for_it w (fun i σ H' => ∃ (av nv : Option V), σ = [some (.ref a), av, nv] ∧ Same H H' ∧ badFrom [] xs = badFrom (xs.take i) (xs.drop i) ∧ ∀ x ∈ xs.take i, wordV x = true)
      ⟨none, none, rfl, Same.refl _, by rw [List.take_zero, List.drop_zero], by simp⟩ (fun i σ H' _ ⟨_, _, _, R, _⟩ => hG H' R) ?_ ?_
    · rintro i x σ H1 H2 hi ⟨av, nv, rfl, R, hb, hw⟩ ⟨t, k1, x1, rfl, nt, rfl, hk, hx1⟩
      cases hk
      have hx1 : xs[i]? = some x1 := hx1
      refine ⟨t, _, rfl, .inl (.inl upd_same), rfl, ?_⟩
      refine ⟨_, _, rfl, _, _, rfl, rfl, ?_⟩
      have R1 := same_new (o := .tup [V.int (i : Nat), x1]) R nt
      obtain ⟨t1, ht1, hz1⟩ := (hx x1 (List.mem_of_getElem? hx1)).same R1
      have hd : xs.drop i = x1 :: xs.drop (i + 1) := by
        obtain ⟨hlt, e⟩ := List.getElem?_eq_some_iff.mp hx1
        rw [← e]
        exact List.drop_eq_getElem_cons hlt
      have hlt : i < xs.length := (List.getElem?_eq_some_iff.mp hx1).1
      have htl : (xs.take i).length = i := by
        rw [List.length_take]
        omega
      have hit : (!(wordV x1) || inV x1 (xs.take i)) = true → badFrom [] xs = some i := by
        intro e
        rw [hb, hd]
        show (if (!(wordV x1) || inV x1 (xs.take i)) = true then some (xs.take i).length else _) = some i
        rw [if_pos e, htl]
      have mis : (!(wordV x1) || inV x1 (xs.take i)) = false → badFrom [] xs = badFrom (xs.take (i + 1)) (xs.drop (i + 1)) := by
        intro e
        rw [hb, hd]
        show (if (!(wordV x1) || inV x1 (xs.take i)) = true then some (xs.take i).length else _) = _
        rw [if_neg (by rw [e]; decide), ← take_snoc hx1]
      refine ⟨_, rfl, x1, t1, rfl, ht1, hz1, fun H3 R3 => ?_⟩
      have RH := R1.trans R3
      refine ⟨_, rfl, ite2 (fun h3 => ?_) (fun h3 => ?_)⟩
      · refine iteT ⟨_, rfl, ?_⟩
        have q := good H3 RH
        rw [hit (by rw [h3]; rfl)] at q
        exact q
      · have hw1 : wordV x1 = true := by
          cases q : wordV x1 with
          | true => rfl
          | false => exact absurd (by rw [q]; rfl) h3
        refine ⟨_, rfl, _, rfl, _, rfl, _, rfl, a, xs, rfl, ha.seqA.same RH, fun p H4 S4 hp4 => ?_⟩
        refine ⟨p, _, rfl, hp4, word_flat hw1, ?_, _, rfl, ?_⟩
        · rw [cut_take]
          exact List.all_eq_true.mpr fun y hy => word_flat (hw y hy)
        · rw [cut_take]
          refine ite2 (fun h4 => ?_) (fun h4 => ?_)
          · refine ⟨_, rfl, ?_⟩
            have q := good _ (RH.trans S4)
            rw [hit (by rw [show inV x1 (xs.take i) = true from h4, Bool.or_true])] at q
            exact q
          · have h5 : inV x1 (xs.take i) = false := by
              rw [← Bool.not_eq_true]
              exact h4
            refine ⟨_, _, rfl, RH.trans S4, mis (by rw [hw1, h5]; rfl), fun y hy => ?_⟩
            rw [take_snoc hx1] at hy
            rcases List.mem_append.mp hy with hy | hy
            · exact hw y hy
            · rw [List.mem_singleton.mp hy]
              exact hw1
    · rintro σ H' ⟨av, nv, rfl, R, hb, hw⟩
      have q := good H' R
      rw [hb, List.drop_length] at q
      exact q

theorem sc_Tableinit : FnScope ["self", "columns", "at"] ["self", "columns"] (defScope s_Tableinit) := ⟨rfl, rfl, rfl, by decide +kernel, rfl, by decide +kernel, by decide +kernel⟩
theorem ok_TableinitF {aK fb : Addr} {fdb : FuncData} (F : FnM K "__init__" "Table.__init__" s_Tableinit f fd) (T : Free mg) (TC : TxC K C) (c_first_bad : Cal P w K mg base CX0 2 "first_bad" fb fdb ["names"] (spFirstBadA K)) : FnOk P w K mg base CX0 3 f fd ["self", "columns"] (spTableF K C) := by
  refine F.ok sc_Tableinit (fun vs H Q E h => ?_) (fun cdv A outer s H vs Q E hr h => ⟨_, PSs.nox (pss_cons (ps_set (i := 2) sc_Tableinit.nd rfl (Or.inl rfl) (pe_cal c_first_bad (hr.mono (by decide)) (pa_cons (pv 1) pa_nil)))
 (pss_cons (ps_if (pt_cmpR op_notN (pv 2) pe_non (nomark _))
 (pss_one ps_never)
 pss_nil)
 (pss_one (ps_fld (pv 0) (pe_callTy call_tupleF (by rfl) T.tuple boot_tuple (pa_cons (pv 1) pa_nil)) rfl)))), ?_⟩)
  · obtain ⟨p, a, dx, xs, rfl, _⟩ := h
    rfl
  · obtain ⟨p, a, dx, cols, rfl, hp, ha, hlen, hcl, hd, k⟩ := h
    refine ⟨_, rfl, a, _, rfl, .inl ha, (by rw [List.length_map]; exact hlen), (fun x hx => by
      obtain ⟨z, hz, rfl⟩ := List.mem_map.mp hx
      exact ⟨.str, rfl, fun y e => by cases e; exact hcl z hz⟩), fun H1 R1 => ?_⟩
    rw [hd]
    refine ⟨_, rfl, rfl, _, rfl, iteNS rfl ?_⟩
    have hp1 := R1 _ _ hp
    refine ⟨_, rfl, a, _, rfl, R1.seq ha, fun t H2 N => ?_⟩
    have S2 := N.same
    have ht := N.at_
    refine ⟨_, rfl, p, C, dx, [], rfl, S2 _ _ hp1, TC.cl, TC.nC, (by show 0 < 1000; decide), ?_⟩
    refine k _ (fun q o n e => ?_) ⟨dx, t, upd_same, ?_⟩
    · rw [upd_ne n]
      exact S2 _ _ (R1 _ _ e)
    · obtain ⟨o, ho, h2⟩ := ht
      exact ⟨o, by rw [upd_ne (ne_of ho (S2 _ _ hp1) nofun)]; exact ho, h2⟩

theorem sc_Condinit : FnScope ["self", "text", "table", "words"] ["self", "text", "table"] (defScope s_Condinit) := ⟨rfl, rfl, rfl, by decide +kernel, rfl, by decide +kernel, by decide +kernel⟩
theorem ok_Condinit {CT CB fw ft : Addr} {fdw fdt : FuncData} (F : FnM K "__init__" "Cond.__init__" s_Condinit f fd) (T : Free mg) (TC : TxC K CT) (TD : TxD K C)
    (c_condition_words : Cal P w K mg base (L2.CX P w) 5 "condition_words" fw fdw ["text", "columns"] (spWordsX K CB)) (c_condition_tree : Cal P w K mg base CX0 3 "condition_tree" ft fdt ["words", "columns"] (spCTree K)) :
    FnOk P w K mg base (L2.CX P w) 6 f fd ["self", "text", "table"] (spCondX K CT C CB) := by
  refine F.ok sc_Condinit (fun vs H Q E h => ?_) (fun cdv A outer s H vs Q E hr h => ⟨_, (pss_cons (ps_set (i := 3) sc_Condinit.nd rfl (Or.inl rfl) (pe_calX c_condition_words (hr.mono (by decide)) (takes_of rfl rfl rfl rfl) (pa_cons (pv 1) (pa_cons (pe_fld (pv 2) rfl) pa_nil))))
 (pss_cons (ps_fld (pv 0) (pv 2) rfl)
 (pss_cons (ps_fld (pv 0) (pe_cal c_condition_tree (hr.mono (by decide)) (pa_cons (pv 3) (pa_cons (pe_fld (pv 2) rfl) pa_nil))) rfl)
 (pss_one (ps_fld (pv 0) (pe_callTy call_tuple_of (by rfl) T.tuple boot_tuple (pa_cons (pv 3) pa_nil)) rfl))))), ?_⟩)
  · obtain ⟨p, tb, dx, v, t, cols, rfl, _⟩ := h
    rfl
  · obtain ⟨p, tb, dx, v, t, cols, rfl, hp, ⟨dt, a, htb, ha⟩, hcl, ht, hz, kT, k, kE⟩ := h
    refine ⟨_, rfl, _, rfl, tb, CT, dt, _, _, rfl, htb, TC.cl, TC.nC, rfl, v, t, a, cols, rfl, ht, ha.seq, (fun z e => by have := hz z e; omega), kT, fun z ev hw l H1 S1 nl hl => ?_, kE⟩
    subst ev
    obtain ⟨its, o, hI, ho⟩ := accepted hcl hw
    have hp1 := S1 _ _ hp
    have htb1 := S1 _ _ htb
    have ha1 := ha.lsts (.same S1)
    have npl : p ≠ l := ne_of_none hp nl
    have ntp : tb ≠ p := ne_of htb hp nofun
    refine ⟨_, rfl, _, rfl, p, C, dx, [], rfl, hp1, TD.cl, TD.nT, (by show 0 < 1000; decide), ?_⟩
    have L1 : Lsts' p H1 (upd H1 p (.ins C dx (putF "table" (.ref tb) []))) := Lsts'.put
    have hp2 : upd H1 p (.ins C dx (putF "table" (.ref tb) [])) p = some (.ins C dx [("table", .ref tb)]) := upd_same
    have hl2 : upd H1 p (.ins C dx (putF "table" (.ref tb) [])) l = some (.lst ((cwords z.cps.toList).map V.str)) := by rw [upd_ne npl.symm]; exact hl
    have htb2 : upd H1 p (.ins C dx (putF "table" (.ref tb) [])) tb = _ := (L1 _ _ ntp htb1)
    have ha2 := ha1.lsts' L1 (fun e => by
      obtain ⟨oo, q, _⟩ := ha1
      rw [e, hp1] at q
      cases q)
    generalize upd H1 p (.ins C dx (putF "table" (.ref tb) [])) = H2 at *
    have hcw : (cwords z.cps.toList).length ≤ 100000 := by
      unfold cwords
      rw [List.length_map]
      refine Nat.le_trans (toks_count _ _) ?_
      rw [Array.length_toList]
      exact hz z rfl
    refine ⟨_, rfl, _, rfl, tb, CT, dt, _, _, rfl, htb2, TC.cl, TC.nC, rfl, l, a, _, cols, its, o, rfl, hl2, ha2, hI, hcw, ho, fun tv H3 S3 ot => ?_⟩
    have hp3 := S3 _ _ hp2
    have hl3 := S3 _ _ hl2
    refine ⟨_, rfl, p, C, dx, _, rfl, hp3, TD.cl, TD.nTr, (by show 1 < 1000; decide), ?_⟩
    have L3 : Lsts' p H3 (upd H3 p (.ins C dx (putF "_tree" tv [("table", .ref tb)]))) := Lsts'.put
    have hp4 : upd H3 p (.ins C dx (putF "_tree" tv [("table", .ref tb)])) p = some (.ins C dx [("table", .ref tb), ("_tree", tv)]) := upd_same
    have hl4 : upd H3 p (.ins C dx (putF "_tree" tv [("table", .ref tb)])) l = some (.lst ((cwords z.cps.toList).map V.str)) := by rw [upd_ne npl.symm]; exact hl3
    have ot4 := ot.lsts' hp3 L3
    refine ⟨_, rfl, l, _, rfl, .inl ⟨SqL.of hl4, fun wt nwt => ?_⟩⟩
    have S5 := same_newH (o := .tup ((cwords z.cps.toList).map V.str)) nwt
    refine ⟨_, rfl, p, C, dx, _, rfl, S5 _ _ hp4, TD.cl, TD.nW, (by show 2 < 1000; decide), ?_⟩
    have L5 : Lsts' p (upd (upd H3 p (.ins C dx (putF "_tree" tv [("table", .ref tb)]))) wt (.tup ((cwords z.cps.toList).map V.str))) (upd (upd (upd H3 p (.ins C dx (putF "_tree" tv [("table", .ref tb)]))) wt (.tup ((cwords z.cps.toList).map V.str))) p (.ins C dx (putF "_words" (.ref wt) [("table", .ref tb), ("_tree", tv)]))) := Lsts'.put
    have ot5 := (ot4.lsts (.same S5)).lsts' (S5 _ _ hp4) L5
    have npw : wt ≠ p := fun e => by rw [e, hp4] at nwt; cases nwt
    refine k z its o rfl hw hI ho _ (fun q u n e => ?_) ⟨dx, tv, .ref wt, upd_same, ot5, wt, rfl, by rw [upd_ne npw, upd_same]⟩
    have e1 := L1 _ _ n (S1 _ _ e)
    exact L5 _ _ n (S5 _ _ (L3 _ _ n (S3 _ _ e1)))

end
end K07

namespace Own
open PySem PySem.Spec PyProof.Rows L2
/-! ### dicts whose keys are tuples of numbers, texts and None -/
def lfV : Leaf → V
  | .none => .non
  | .num i => .int i
  | .text z => .str z
theorem lfV_inj : ∀ {a b : Leaf}, lfV a = lfV b → a = b
  | .none, .none, _ => rfl
  | .num i, .num j, h => by cases h; rfl
  | .text i, .text j, h => by cases h; rfl
  | .none, .num _, h => nomatch h
  | .none, .text _, h => nomatch h
  | .num _, .none, h => nomatch h
  | .num _, .text _, h => nomatch h
  | .text _, .none, h => nomatch h
  | .text _, .num _, h => nomatch h
theorem leaf_is {P : Program} {w : World} : ∀ {k : Leaf} {u : Value}, RelV (lfV k) u → (leafKind P w).is k u = true
  | .none, u, r => by
    obtain rfl : u = Value.none := r
    rfl
  | .num i, u, r => by
    obtain ⟨t, rfl⟩ := r
    simp [leafKind, Leaf.isOf]
  | .text z, u, r => by
    obtain ⟨t, rfl⟩ := r
    simp [leafKind, Leaf.isOf, Value.isStrOf, Value.isStr]
theorem items_are {P : Program} {w : World} : ∀ {ks : List Leaf} {us : List Value}, Vals (ks.map lfV) us → PySem.ItemsAre (leafKind P w) ks us
  | [], us, r => by
    cases r
    exact .nil
  | k :: ks, us, r => by
    cases r with
    | cons h t => exact .cons (leaf_is h) (items_are t)
abbrev kT (P : Program) (w : World) : HeapKind P w (List Leaf) := tupleKind (leafKind P w)
theorem key_is {P : Program} {w : World} {H : Hp} {h : Heap} {a : Addr} {ks : List Leaf} (hok : HOk P w H h) (ha : H a = some (.tup (ks.map lfV))) : (kT P w).is h ks a := by
  obtain ⟨_, its, rv, o, h1, h2, n, h3⟩ := (show ObjOk P w H h a (.tup (ks.map lfV)) from hok a _ ha)
  exact ⟨o, its.toArray, n, h1, h2, h3, items_are rv⟩
/-- an entry, as it is seen and as it is -/
def relE (x : List Leaf × Addr × V) (y : List Leaf × Addr × Value) : Prop := y.1 = x.1 ∧ y.2.1 = x.2.1 ∧ RelV x.2.2 y.2.2
def dTO (P : Program) (w : World) (D : Addr) (xs : List (List Leaf × Addr × V)) : HO := .ext fun h => ∃ o es ep ys, h.get? D = some o ∧ o.ExactDict ∧ o.data = .dict es ep ∧ es.toList = ys.map (entryOfKey (kT P w)) ∧ Paired relE xs ys ∧ (xs.map (·.1)).Nodup
theorem relE_keys : ∀ {xs : List (List Leaf × Addr × V)} {ys : List (List Leaf × Addr × Value)}, Paired relE xs ys → ys.map (·.1) = xs.map (·.1)
  | _, _, .nil => rfl
  | _, _, .cons h t => by rw [List.map_cons, List.map_cons, relE_keys t, h.1]
theorem relE_mem {y : List Leaf × Addr × Value} : ∀ {xs : List (List Leaf × Addr × V)} {ys : List (List Leaf × Addr × Value)}, Paired relE xs ys → y ∈ ys → ∃ x ∈ xs, relE x y
  | _, _, .nil, h => nomatch h
  | _, _, .cons h t, hy => by
    rcases List.mem_cons.mp hy with rfl | hy
    · exact ⟨_, List.mem_cons_self, h⟩
    · obtain ⟨x, hx, q⟩ := relE_mem t hy
      exact ⟨x, List.mem_cons_of_mem _ hx, q⟩
/-- all keys stand -/
def KeysAt (H : Hp) (xs : List (List Leaf × Addr × V)) : Prop := ∀ e ∈ xs, H e.2.1 = some (.tup (e.1.map lfV))
theorem dT_of {P : Program} {w : World} {H : Hp} {h : Heap} {D : Addr} {xs : List (List Leaf × Addr × V)} (hok : HOk P w H h) (hD : H D = some (dTO P w D xs)) (hk : KeysAt H xs) : ∃ ys, Heap.DictOfH (kT P w) h D ys ∧ Paired relE xs ys := by
  obtain ⟨⟨o, es, ep, ys, h1, h2, h3, h4, h5, h6⟩, _, _⟩ := (show ObjOk P w H h D (dTO P w D xs) from hok D _ hD)
  refine ⟨ys, ⟨o, es, ep, h1, h2, h3, h4, fun y hy => ?_, by rw [relE_keys h5]; exact h6⟩, h5⟩
  obtain ⟨x, hx, e1, e2, _⟩ := relE_mem h5 hy
  have := key_is hok (hk x hx)
  rw [e1, e2]
  exact this
theorem dT_ok {P : Program} {w : World} {H : Hp} {h : Heap} {D : Addr} {xs : List (List Leaf × Addr × V)} {ys : List (List Leaf × Addr × Value)} (d : Heap.DictOfH (kT P w) h D ys) (r : Paired relE xs ys) : ObjOk P w H h D (dTO P w D xs) := by
  obtain ⟨o, es, ep, h1, h2, h3, h4, _, h6⟩ := d
  refine ⟨⟨o, es, ep, ys, h1, h2, h3, h4, r, by rw [← relE_keys r]; exact h6⟩, ⟨o, h1⟩, ?_⟩
  rintro a b ⟨o, es, ep, ys, h1, h2, h3, h4, h5, h6⟩ k
  exact ⟨o, es, ep, ys, k _ h1, h2, h3, h4, h5, h6⟩
theorem dT_empty {P : Program} {w : World} {H : Hp} (h : Heap) : ObjOk P w H (h.push { cls := Value.type "dict", data := Data.dict #[] }) h.objs.size (dTO P w h.objs.size []) :=
  dT_ok (ys := []) ⟨_, #[], 0, Heap.get?_push_size _ rfl, ⟨rfl, rfl, rfl⟩, rfl, rfl, (fun _ h => nomatch h), List.nodup_nil⟩ .nil
def putT (k : List Leaf) (v : V) (e : List Leaf × Addr × V) : List Leaf × Addr × V := if e.1 = k then (e.1, e.2.1, v) else e
def storeT (xs : List (List Leaf × Addr × V)) (k : List Leaf) (a : Addr) (v : V) : List (List Leaf × Addr × V) := if k ∈ xs.map (·.1) then xs.map (putT k v) else xs ++ [(k, a, v)]
theorem atKey_some {ys : List (List Leaf × Addr × Value)} {k : List Leaf} : (atKey ys k).isSome = true ↔ k ∈ ys.map (·.1) := by
  unfold atKey
  rw [Option.isSome_map, List.find?_isSome]
  simp only [decide_eq_true_eq, List.mem_map]
theorem relE_snoc {x : List Leaf × Addr × V} {y : List Leaf × Addr × Value} (q : relE x y) : ∀ {xs : List (List Leaf × Addr × V)} {ys : List (List Leaf × Addr × Value)}, Paired relE xs ys → Paired relE (xs ++ [x]) (ys ++ [y])
  | _, _, .nil => .cons q .nil
  | _, _, .cons h t => .cons h (relE_snoc q t)
theorem relE_put {k : List Leaf} {v : V} {r : Value} (rv : RelV v r) : ∀ {xs : List (List Leaf × Addr × V)} {ys : List (List Leaf × Addr × Value)}, Paired relE xs ys → Paired relE (xs.map (putT k v)) (ys.map (putAt k r))
  | _, _, .nil => .nil
  | _, _, .cons (a := x) (b := y) h t => by
    refine .cons ?_ (relE_put rv t)
    obtain ⟨h1, h2, h3⟩ := h
    unfold putT putAt
    by_cases e : x.1 = k
    · rw [if_pos e]
      simp only [h1, e, if_true]
      exact ⟨rfl, h2, rv⟩
    · rw [if_neg e]
      simp only [h1, e, if_false]
      exact ⟨h1, h2, h3⟩
theorem relE_store {k : List Leaf} {a : Addr} {v : V} {r : Value} (rv : RelV v r) {xs : List (List Leaf × Addr × V)} {ys : List (List Leaf × Addr × Value)} (p : Paired relE xs ys) : Paired relE (storeT xs k a v) (storedH ys k a r) := by
  unfold storeT storedH
  have e : (atKey ys k).isSome = true ↔ k ∈ xs.map (·.1) := by rw [atKey_some, relE_keys p]
  by_cases h : k ∈ xs.map (·.1)
  · rw [if_pos h, if_pos (e.mpr h)]
    exact relE_put rv p
  · rw [if_neg h, if_neg (fun z => h (e.mp z))]
    exact relE_snoc ⟨rfl, rfl, rv⟩ p
theorem d_setT {X : Cx} {pins : List (Addr × Obj)} {σ : L2.St} {H : Hp} {s : Shared} {E : Value → Shared → Prop} {D a : Addr} {xs : List (List Leaf × Addr × V)} {k : List Leaf} {v : V} {u r : Value} {Q : Unit → Shared → Prop} (I : L2.Inv X pins σ H s) (hu : X.A.units < cLine) (hD : H D = some (dTO X.prog X.w D xs)) (hk : KeysAt H xs) (hz : xs.length < sizeLine) (ha : H a = some (.tup (k.map lfV))) (ru : RelV (.ref a) u) (rv : RelV v r)
    (h : ∀ s', L2.Inv X pins σ (upd H D (dTO X.prog X.w D (storeT xs k a v))) s' → Q () s') : wpAny (model X.prog X.w) X.A (dictSet D u r) Q E s := by
  obtain rfl : u = Value.ref a := ru
  obtain ⟨ys, hd, hr⟩ := dT_of I.hok hD hk
  have hlen : ys.length ≤ sizeLine := by
    have := congrArg List.length (relE_keys hr)
    rw [List.length_map, List.length_map] at this
    omega
  refine wpAny_dictSet_heap (knd := kT X.prog X.w) hu (key_is I.hok ha) hd (fun h' hd' hs => ?_) hlen
  refine h _ (d_write I (by rw [hD]; trivial) hs ?_ (dT_ok hd' (relE_store rv hr)))
  obtain ⟨o, es, ep, h1, _⟩ := hd'
  exact ⟨o, h1⟩
end Own

namespace Own
open PySem PySem.Spec PyProof.Rows L2
/-! ### a dict comprehension whose keys are such tuples -/
def tDcT (P : Program) (w : World) (wi : TI) (g : TG) (tt : TT) (tk tv : TE) (vs : List Nat) : TE := fun σ H Q => wi σ H fun J H1 => ∀ D : Addr, H1 D = none → ∃ W : Nat → Nat → Hp → Prop, (∃ m, W 0 m (upd H1 D (dTO P w D []))) ∧
  ∀ (i m : Nat) (H : Hp), W i m H → (J.stop i H ∧ Q (.ref D) H) ∨ (J.go i H ∧ ∃ Nx : Hp → Prop, (∀ H', Nx H' → ∃ m', m' < m ∧ W (i + 1) m' H') ∧ ∀ (x : V) (H' : Hp), J.yld i H x H' → g x (wipe σ vs) H' fun σ2 H2 => wipe σ2 vs = wipe σ vs ∧ tt σ2 H2 fun b H3 =>
    if b = true then tk σ2 H3 fun y H4 => tv σ2 H4 fun z H5 => ∃ (xs : List (List Leaf × Addr × V)) (k : List Leaf) (a : Addr), y = .ref a ∧ H5 a = some (.tup (k.map lfV)) ∧ H5 D = some (dTO P w D xs) ∧ KeysAt H5 xs ∧ xs.length < sizeLine ∧ Nx (upd H5 D (dTO P w D (storeT xs k a z)))
    else Nx H3)
theorem dcT_loop {X : Cx} {pins : List (Addr × Obj)} {σ : L2.St} {Q : VK} {kx vx tg iter : Expr} {ifs : List Expr} {scope : Scope} {own : List (Str × Nat)} {pos : Pos} {g : TG} {tt : TT} {tk tv : TE} {use : Option (Value → Sem Unit)} {Qf : Value → Shared → Prop} {s3 s4 : Shared} {H3 : Hp} {cl : List (Str × Addr)} {C D it : Addr} {fp : List Addr} {J : It} {tn : Nat → Heap → Prop} {W : Nat → Nat → Hp → Prop} {m0 : Nat}
    (hu : X.A.units < cLine) (hc : X.calm = true) (I3 : L2.Inv X pins σ H3 s3) (f3 : ∀ b ∈ fp, FpOk X pins H3 b ∧ b < s3.heap.objs.size) (hC : C = s3.heap.objs.size)
    (I4 : L2.Inv (X.blk s3 H3 scope (compEnvC scope cl C X.env) fp) [] (wipe σ (own.map fun x => x.2)) H3 s4) (st4 : tn 0 s4.heap) (T : Turn X.prog X.w X.K tg J fp it tn) (w0 : W 0 m0 H3)
    (turn : ∀ (i m : Nat) (H : Hp), W i m H → (J.stop i H ∧ Q (.ref D) H) ∨ (J.go i H ∧ ∃ Nx : Hp → Prop, (∀ H', Nx H' → ∃ m', m' < m ∧ W (i + 1) m' H') ∧ ∀ (x : V) (H' : Hp), J.yld i H x H' → g x (wipe σ (own.map fun x => x.2)) H' fun σ2 H2 => wipe σ2 (own.map fun x => x.2) = wipe σ (own.map fun x => x.2) ∧ tt σ2 H2 fun b H3 =>
      if b = true then tk σ2 H3 fun y H4 => tv σ2 H4 fun z H5 => ∃ (xs : List (List Leaf × Addr × V)) (k : List Leaf) (a : Addr), y = .ref a ∧ H5 a = some (.tup (k.map lfV)) ∧ H5 D = some (dTO X.prog X.w D xs) ∧ KeysAt H5 xs ∧ xs.length < sizeLine ∧ Nx (upd H5 D (dTO X.prog X.w D (storeT xs k a z)))
      else Nx H3))
    (pg : PG (X.blk s3 H3 scope (compEnvC scope cl C X.env) fp) tg g) (pt : PTs (X.blk s3 H3 scope (compEnvC scope cl C X.env) fp) ifs tt) (pk : PE (X.blk s3 H3 scope (compEnvC scope cl C X.env) fp) kx tk) (pe : PE (X.blk s3 H3 scope (compEnvC scope cl C X.env) fp) vx tv)
    (hR : ∀ (D C : Addr) (s' : Shared) (m : Str → Option Value) (H' : Hp), L2.Inv X pins σ H' s' → Q (.ref D) H' → s'.heap.Ns C m → FpOk X pins H' C → compPost (model X.prog X.w) X.A X.xe use Qf (.ref D) C (.ok .next) s') :
    codeAny (model X.prog X.w) X.A (.compStart (.DictComp kx vx [{ target := tg, iter := iter, ifs := ifs, is_async := 0 }] scope pos) 0 (.ref it) (.ref D) (compEnvC scope cl C X.env)) (compPost (model X.prog X.w) X.A X.xe use Qf (.ref D) C) s4 := by
  have nfp : ∀ b ∈ fp, H3 b = none := fun b hb => (f3 b hb).1.1
  have stat : ∀ {σ' : L2.St} {H' : Hp} {s' : Shared}, L2.Inv (X.blk s3 H3 scope (compEnvC scope cl C X.env) fp) [] σ' H' s' → (∀ b ∈ fp, H' b = none) → ∀ b ∈ fp, FpOk (X.blk s3 H3 scope (compEnvC scope cl C X.env) fp) [] H' b := fun I' hn b hb =>
    ⟨hn b hb, (I'.ok.exf b hb).1, I'.ok.exfs b hb, Or.inl hb, fun x c e => (I'.ok.exf b hb).2 x c e, fun p hp => by
      have hp2 : p ∈ ([] : List (Addr × Obj)) := by
        have := hp
        rw [List.append_nil] at this
        exact this
      cases hp2⟩
  have loop := compLoop_anyD (prog := X.prog) (w := X.w) (A := X.A) (R := compPost (model X.prog X.w) X.A X.xe use Qf (.ref D) C) (kx := kx) (vx := vx) (target := tg) (iter := iter) (ifs := ifs) (scope := scope) (pos := pos) (it := .ref it) (D := D) (env := compEnvC scope cl C X.env)
    (fun n s' => ∃ (i : Nat) (H' : Hp), L2.Inv (X.blk s3 H3 scope (compEnvC scope cl C X.env) fp) [] (wipe σ (own.map fun x => x.2)) H' s' ∧ tn i s'.heap ∧ (∀ b ∈ fp, H' b = none) ∧ W i n H') (fun n s5 hI => ?_) m0 ⟨0, H3, I4, st4, nfp, w0⟩
  · exact codeAny_compStart_dict loop (T.self X.A 0 s4 _ _ st4 loop)
  obtain ⟨i, H5, I5, st5, n5, w5⟩ := hI
  rcases turn i n H5 w5 with ⟨stop, qq⟩ | ⟨go, Nx, hNx, step⟩
  · have td := T.done (X.blk s3 H3 scope (compEnvC scope cl C X.env) fp) rfl rfl rfl hc i [] s5 _ H5 (fun _ _ => False) I5 (stat I5 n5) st5 stop
    refine thnF td fun r s6 x => ?_
    obtain ⟨hr, I6⟩ := x
    subst hr
    have I7 := Inv.call' I3 I6.os I6.base I6.hok I6.bare fun b hb => ⟨(f3 b hb).1.2.2.2.1, (f3 b hb).1.2.1, (f3 b hb).1.2.2.2.2.1, (f3 b hb).1.2.2.2.2.2⟩
    have nC : H5 C = none := I6.free
    obtain ⟨m, hn, _⟩ := I6.loc
    exact hR D C s6 m H5 I7 qq hn (Inv.fpOk I3 (by rw [hC]; exact Nat.le_refl _) nC)
  · have ti := T.item (X.blk s3 H3 scope (compEnvC scope cl C X.env) fp) rfl rfl rfl hc i [] s5 _ H5 (fun _ _ => False) I5 (stat I5 n5) st5 go
    refine thnF ti fun r s6 x => ?_
    obtain ⟨u, hr, h6⟩ := x
    subst hr
    refine thnF h6 fun _ s7 x => ?_
    obtain ⟨x, H7, I7, r7, y7, st7, n7⟩ := x
    have I7' := Inv.pinned I7 (stat I7 n7) (T.obj (i + 1) s7.heap st7)
    refine thnF (pg.run ([] ++ pinsAt fp s7.heap) s7 _ H7 x u _ I7' r7 (step x H7 y7)) fun _ s8 x => ?_
    obtain ⟨σ8, H8, I8, hw8, q8⟩ := x
    refine thnF (pt.run ([] ++ pinsAt fp s7.heap) s8 σ8 H8 _ I8 q8) fun b s9 x => ?_
    obtain ⟨H9, I9, q9⟩ := x
    have fin : ∀ {H' : Hp} {s' : Shared}, L2.Inv (X.blk s3 H3 scope (compEnvC scope cl C X.env) fp) ([] ++ pinsAt fp s7.heap) σ8 H' s' → Nx H' → ∃ m, m < n ∧ ∃ (i : Nat) (H' : Hp), L2.Inv (X.blk s3 H3 scope (compEnvC scope cl C X.env) fp) [] (wipe σ (own.map fun x => x.2)) H' s' ∧ tn i s'.heap ∧ (∀ b ∈ fp, H' b = none) ∧ W i m H' := fun {H'} {s'} I' nx => by
      obtain ⟨m', hm, w'⟩ := hNx _ nx
      have pin' : ∀ b ∈ fp, ∀ o, s7.heap.get? b = some o → s'.heap.get? b = some o ∧ H' b = none := fun b hb o e => by
        have z := I'.pin (b, o) (List.mem_append_right _ (List.mem_append_right [] (mem_pinsAt hb e)))
        exact ⟨z.1, z.2.1⟩
      refine ⟨m', hm, i + 1, H', Inv.weak (Inv.unpinned I') (by rw [← hw8, wipe_length]) (fun j v e => (wipe_some (by rw [hw8]; exact e)).1), T.keep (i + 1) s7.heap s'.heap st7 (fun b hb o e => (pin' b hb o e).1), fun b hb => ?_, w'⟩
      obtain ⟨o, e, _⟩ := T.obj (i + 1) s7.heap st7 b hb
      exact (pin' b hb o e).2
    cases b with
    | false => exact fin I9 q9
    | true =>
      refine thnF (pk.run ([] ++ pinsAt fp s7.heap) s9 σ8 H9 _ I9 q9) fun _ s10 x => ?_
      obtain ⟨yk, H10, I10, r10, q10⟩ := x
      refine thnF (pe.run ([] ++ pinsAt fp s7.heap) s10 σ8 H10 _ I10 q10) fun _ s11 x => ?_
      obtain ⟨z, H11, I11, r11, xs, k, a, ek, ha, hD, hK, hz, nx⟩ := x
      subst ek
      exact d_setT (X := X.blk s3 H3 scope (compEnvC scope cl C X.env) fp) I11 hu hD hK hz ha r10 r11 fun s12 I12 => fin I12 nx
theorem dcT_core {X : Cx} {pins : List (Addr × Obj)} {s : Shared} {σ : L2.St} {H : Hp} {Q : VK} {kx vx tg iter : Expr} {ifs : List Expr} {scope : Scope} {own : List (Str × Nat)} {pos pos' : Pos} {wi : TI} {g : TG} {tt : TT} {tk tv : TE} {use : Option (Value → Sem Unit)} {Qf : Value → Shared → Prop}
    (hu : X.A.units < cLine) (hc : X.calm = true) (hN : X.N.Nodup) (I : L2.Inv X pins σ H s) (hi : PI X tg iter wi) (ok : BlkOk X.N X.env.scope scope own)
    (hg : ∀ (s : Shared) (H : Hp) (C : Addr) (cl : List (Str × Addr)) (fp : List Addr), PG (X.blk s H scope (compEnvC scope cl C X.env) fp) tg g)
    (ht : ∀ (s : Shared) (H : Hp) (C : Addr) (cl : List (Str × Addr)) (fp : List Addr), PTs (X.blk s H scope (compEnvC scope cl C X.env) fp) ifs tt)
    (hk : ∀ (s : Shared) (H : Hp) (C : Addr) (cl : List (Str × Addr)) (fp : List Addr), PE (X.blk s H scope (compEnvC scope cl C X.env) fp) kx tk)
    (he : ∀ (s : Shared) (H : Hp) (C : Addr) (cl : List (Str × Addr)) (fp : List Addr), PE (X.blk s H scope (compEnvC scope cl C X.env) fp) vx tv)
    (hs : ∀ x : Value, foldedSetIterable iter X.env x = pure x)
    (h : tDcT X.prog X.w wi g tt tk tv (own.map fun x => x.2) σ H Q)
    (hR : ∀ (D C : Addr) (s' : Shared) (m : Str → Option Value) (H' : Hp), L2.Inv X pins σ H' s' → Q (.ref D) H' → s'.heap.Ns C m → FpOk X pins H' C → compPost (model X.prog X.w) X.A X.xe use Qf (.ref D) C (.ok .next) s') :
    wpAny (model X.prog X.w) X.A (comprehension (.DictComp kx vx [{ target := tg, iter := iter, ifs := ifs, is_async := 0 }] scope pos) scope X.env pos' newDict false (eval iter X.env) use) Qf X.xe s := by
  have hfree : ∀ y : Str × NameKind, y ∈ scope.names → y.2 = NameKind.free → ∃ c, List.lookup y.1 X.env.cells = some c := fun y hy e => by
    rcases ok.free y hy e with q | q
    · exact I.ok.has y.1 (Or.inl q)
    · exact I.ok.has y.1 (Or.inr q)
  refine wpAny_comprehension_free rfl hs (closure_ok hfree) ok.kind (fun y hy e => by rw [ok.uniq y hy, e]) ?_
  refine thn (hi.run pins s σ H _ I h) fun xv s1 hx => thn hx fun itv s2 h2 => ?_
  obtain ⟨it, fp, tn, J, H2, rfl, I2, T, st2, f2, q⟩ := h2
  unfold newDict
  refine wpAny_newObj_type ?_ (by show 0 ≤ sizeLine + 1; omega)
  refine newEnv_comp ?_
  have hDn : H2 s2.heap.objs.size = none := I2.hok.fresh (Nat.le_refl _)
  obtain ⟨W, ⟨m0, w0⟩, turn⟩ := q s2.heap.objs.size hDn
  have I3 := Inv.laid (t' := s2.toks) I2 (fun b o e => Heap.get?_push_of_some { cls := Value.type "dict", data := Data.dict #[] } e) (Nat.le_refl _) (dT_empty (P := X.prog) (w := X.w) (H := upd H2 s2.heap.objs.size (dTO X.prog X.w s2.heap.objs.size [])) s2.heap)
  have sz : ∀ b ∈ fp, b < s2.heap.objs.size := fun b hb => by
    obtain ⟨o, e, _⟩ := T.obj 0 s2.heap st2 b hb
    exact Heap.lt_size e
  have kk3 : ∀ (b : Addr) (o : Obj), s2.heap.get? b = some o → (s2.heap.push { cls := Value.type "dict", data := Data.dict #[] }).get? b = some o := fun b o e => Heap.get?_push_of_some _ e
  have f3 : ∀ b ∈ fp, FpOk X pins (upd H2 s2.heap.objs.size (dTO X.prog X.w s2.heap.objs.size [])) b ∧ b < (s2.heap.push { cls := Value.type "dict", data := Data.dict #[] }).objs.size := fun b hb => by
    have hlt := sz b hb
    refine ⟨⟨by rw [upd_ne (Nat.ne_of_lt hlt)]; exact (f2 b hb).1, (f2 b hb).2⟩, ?_⟩
    rw [Heap.size_push]
    exact Nat.lt_succ_of_lt hlt
  have st3 := T.keep 0 s2.heap _ st2 (fun b _ o e => kk3 b o e)
  have I4 := block_start I3 ok hN f3
  have st4 := T.keep 0 _ _ st3 (fun b _ o e => pushCells_keeps scope.names _ b o (Heap.get?_push_of_some { cls := Value.type "dict", data := Data.dict #[] } e))
  exact dcT_loop hu hc I3 f3 rfl I4 st4 T w0 turn (hg _ _ _ _ _) (ht _ _ _ _ _) (hk _ _ _ _ _) (he _ _ _ _ _) hR
theorem pe_dcT {X : Cx} {kx vx tg iter : Expr} {ifs : List Expr} {scope : Scope} {own : List (Str × Nat)} {pos : Pos} {wi : TI} {g : TG} {tt : TT} {tk tv : TE} (hu : X.A.units < cLine) (hc : X.calm = true) (hN : X.N.Nodup) (hi : PI X tg iter wi) (ok : BlkOk X.N X.env.scope scope own)
    (hg : ∀ (s : Shared) (H : Hp) (C : Addr) (cl : List (Str × Addr)) (fp : List Addr), PG (X.blk s H scope (compEnvC scope cl C X.env) fp) tg g)
    (ht : ∀ (s : Shared) (H : Hp) (C : Addr) (cl : List (Str × Addr)) (fp : List Addr), PTs (X.blk s H scope (compEnvC scope cl C X.env) fp) ifs tt)
    (hk : ∀ (s : Shared) (H : Hp) (C : Addr) (cl : List (Str × Addr)) (fp : List Addr), PE (X.blk s H scope (compEnvC scope cl C X.env) fp) kx tk)
    (he : ∀ (s : Shared) (H : Hp) (C : Addr) (cl : List (Str × Addr)) (fp : List Addr), PE (X.blk s H scope (compEnvC scope cl C X.env) fp) vx tv)
    (hs : ∀ x : Value, foldedSetIterable iter X.env x = pure x := by intro _; rfl) :
    PE X (.DictComp kx vx [{ target := tg, iter := iter, ifs := ifs, is_async := 0 }] scope pos) (tDcT X.prog X.w wi g tt tk tv (own.map fun x => x.2)) := by
  refine ⟨fun pins s σ H Q I h => ?_⟩
  rw [arm_eval_DictComp]
  refine dcT_core hu hc hN I hi ok hg ht hk he hs h fun D C s' m H' I' q hn f => ?_
  refine ⟨m, hn, fun h'' sb => ?_⟩
  obtain ⟨f0, f1, f2, f3, f4, f5⟩ := f
  exact ⟨.ref D, H', Inv.turned I' (fun b o hb e => (sb.2 b hb).trans e) f0 f1 f3 f4 f5, rfl, q⟩
/-! ### d[k] of such a dict -/
def rIxK (P : Program) (w : World) : R2 := fun x y H Q => ∃ (D a : Addr) (xs : List (List Leaf × Addr × V)) (k : List Leaf) (e : List Leaf × Addr × V), x = .ref D ∧ y = .ref a ∧ H D = some (dTO P w D xs) ∧ KeysAt H xs ∧ H a = some (.tup (k.map lfV)) ∧ xs.find? (fun e => decide (e.1 = k)) = some e ∧ Q e.2.2 H
theorem relE_find {k : List Leaf} {e : List Leaf × Addr × V} : ∀ {xs : List (List Leaf × Addr × V)} {ys : List (List Leaf × Addr × Value)}, Paired relE xs ys → xs.find? (fun e => decide (e.1 = k)) = some e → ∃ r, atKey ys k = some (e.2.1, r) ∧ RelV e.2.2 r
  | _, _, .nil, h => nomatch h
  | _, _, .cons (a := x) (b := y) h t, hf => by
    unfold atKey
    rw [List.find?_cons] at hf ⊢
    by_cases q : x.1 = k
    · rw [h.1, decide_eq_true q] at *
      cases hf
      refine ⟨y.2.2, ?_, h.2.2⟩
      show some y.2 = _
      rw [← h.2.1]
    · rw [h.1, decide_eq_false q] at *
      exact relE_find t hf
theorem ix_K {X : Cx} (hu : X.A.units + 1 < cLine) : IxR X (rIxK X.prog X.w) := by
  intro value slice pins s σ H x y u v Q I rx ry h hs
  obtain ⟨D, a, xs, k, e, rfl, rfl, hD, hK, ha, hf, q⟩ := h
  obtain rfl : u = Value.ref D := rx
  obtain rfl : v = Value.ref a := ry
  obtain ⟨ys, hd, hr⟩ := dT_of I.hok hD hK
  obtain ⟨r, hr1, hr2⟩ := relE_find hr hf
  refine subscriptTail_builtinR (x := r) hd.typeIs F.slot_dict_getitem.lookup ?_ hs
  refine wpAny_getItem_heap (knd := kT X.prog X.w) ?_ (key_is I.hok ha) hd hr1 ?_
  · show X.A.in1.units < cLine
    exact hu
  · exact ⟨rfl, e.2.2, H, I.tok _, hr2, q⟩
theorem ps_setDcT {X : Cx} {i : Nat} {y : Str} {py : Pos} {kx vx tg iter : Expr} {ifs : List Expr} {scope : Scope} {own : List (Str × Nat)} {pos spos : Pos} {wi : TI} {g : TG} {tt : TT} {tk tv : TE} (hu : X.A.units < cLine) (hc : X.calm = true) (hN : X.N.Nodup) (hy : X.N[i]? = some y) (hyl : X.env.scope.names.lookup y = some .local)
    (hsw : swapsWith (.DictComp kx vx [{ target := tg, iter := iter, ifs := ifs, is_async := 0 }] scope pos) (some (.Name y py)) spos.line X.env = pure true) (hi : PI X tg iter wi) (ok : BlkOk X.N X.env.scope scope own)
    (hg : ∀ (s : Shared) (H : Hp) (C : Addr) (cl : List (Str × Addr)) (fp : List Addr), PG (X.blk s H scope (compEnvC scope cl C X.env) fp) tg g)
    (ht : ∀ (s : Shared) (H : Hp) (C : Addr) (cl : List (Str × Addr)) (fp : List Addr), PTs (X.blk s H scope (compEnvC scope cl C X.env) fp) ifs tt)
    (hk : ∀ (s : Shared) (H : Hp) (C : Addr) (cl : List (Str × Addr)) (fp : List Addr), PE (X.blk s H scope (compEnvC scope cl C X.env) fp) kx tk)
    (he : ∀ (s : Shared) (H : Hp) (C : Addr) (cl : List (Str × Addr)) (fp : List Addr), PE (X.blk s H scope (compEnvC scope cl C X.env) fp) vx tv)
    (hs : ∀ x : Value, foldedSetIterable iter X.env x = pure x := by intro _; rfl) :
    PS X (.Assign [.Name y py] (.DictComp kx vx [{ target := tg, iter := iter, ifs := ifs, is_async := 0 }] scope pos) spos) (tAsg (tDcT X.prog X.w wi g tt tk tv (own.map fun x => x.2)) (gName i)) := by
  refine ⟨fun pins s σ H D I h => ?_⟩
  rw [exec_Assign_Name_used y py _ spos hsw]
  refine wpAny_bind (wpAny_standAt (wpAny_bind ?_))
  refine wpAny_bind (thn (dcT_core hu hc hN I hi ok hg ht hk he hs h fun L C s' m H' I' q hn f => ?_) fun x s' hq => wpAny_pure (wpAny_pure hq))
  refine wpAny_assign_Name (store_ok2 I' hN hy (Or.inl hyl) (show L2.RelV (V.ref L) (Value.ref L) from rfl) (fun s2 I2 x => ?_) (Or.inr hyl))
  obtain ⟨a, sb, ha⟩ := x
  obtain ⟨f0, f1, f2, f3, f4, f5⟩ := f
  have haC : C ≠ a := by
    rcases ha with z | z
    · rw [z]
      exact f1
    · exact fun e => f4 y a z e.symm
  exact ⟨m, hn.sameBut sb haC, fun h3 sb3 => ⟨σ.set i (some (.ref L)), H', Inv.turned I2 (fun b o hb e => (sb3.2 b hb).trans e) f0 f1 f3 f4 f5, q⟩⟩
theorem sw_trueD {kx vx : Expr} {gs : List Comprehension} {scope : Scope} {pos py : Pos} {y : Str} {l : Nat} {env : Env} (hk : env.scope.kind = .function) (hy : env.scope.names.lookup y = some .local) (hl : (py.line == pos.line) = true) (ha : (scope.names.any fun x => match x with | (n, k) => n == y && (k == NameKind.local || k == NameKind.cell)) = false) :
    swapsWith (.DictComp kx vx gs scope pos) (some (.Name y py)) l env = pure true := by
  have hb := sw_true (elt := kx) (gs := gs) (scope := scope) (pos := pos) (py := py) (y := y) (l := l) (env := env) hk hy hl ha
  exact hb
theorem hu0_of {k : Nat} {A : Around} (hr : Room k A) : A.units < cLine := by
  have := hr.units
  omega
end Own

namespace Own
open PySem PySem.Spec PyProof.Rows L2
/-! ### & and | and - of a bool beside a number -/
def b2i (b : Bool) : Int := if b = true then 1 else 0
/-- a bool or a number, as a number -/
def NumV (n : Int) (v : V) : Prop := (∃ b, v = .bl b ∧ n = b2i b) ∨ v = .int n
theorem asI_int {i : Int} {t : Tok} : asInt? (.int i t) = pure (some i) := rfl
theorem asI_bool {b : Bool} : asInt? (.bool b) = pure (some (b2i b)) := by cases b <;> rfl
theorem self_int {i : Int} {t : Tok} : Builtin.Int.intOfSelf (.int i t) = pure i := rfl
theorem self_bool {b : Bool} : Builtin.Int.intOfSelf (.bool b) = pure (b2i b) := by cases b <;> rfl
theorem int_and_gives {a b : Value} {i j : Int} (hi : Builtin.Int.intOfSelf a = pure i) (hj : asInt? b = pure (some j)) : Gives (Builtin.«int.__and__» { pos := [a, b] }) (.int (Builtin.bitAnd i j)) := by
  intro prog w A R s h
  unfold Builtin.«int.__and__» Builtin.Int.intBinary
  have e : slotArgs "__and__" 1 { pos := [a, b] } = pure (a, [b]) := by simp [slotArgs]
  rw [e]
  refine wpAny_bind (wpAny_pure ?_)
  dsimp only
  rw [hi]
  refine wpAny_bind (wpAny_pure ?_)
  show wpAny _ _ (bind (asInt? b) _) _ _ _
  rw [hj]
  refine wpAny_bind (wpAny_pure (wpAny_ite_false rfl ?_))
  show wpAny _ _ (retInt (Builtin.bitAnd i j)) _ _ _
  unfold retInt
  obtain ⟨hp, g, d, tk, os⟩ := s
  exact wpAny_bind (wpAny_mkInt' (wpAny_pure h))
theorem bool_and_gives {a : Bool} {j : Int} {u : Tok} : Gives (Builtin.«bool.__and__» { pos := [.bool a, .int j u] }) (.int (Builtin.bitAnd (b2i a) j)) := by
  intro prog w A R s h
  unfold Builtin.«bool.__and__»
  have e : slotArgs "__and__" 1 { pos := [.bool a, .int j u] } = pure (.bool a, [.int j u]) := by simp [slotArgs]
  show wpAny _ _ (bind (slotArgs "__and__" 1 { pos := [.bool a, .int j u] }) _) _ _ _
  rw [e]
  refine wpAny_bind (wpAny_pure ?_)
  refine wpAny_bind ?_
  show wpAny _ _ (asInt? (.int j u)) _ _ _
  rw [asI_int]
  refine wpAny_pure (wpAny_ite_false rfl (wpAny_bind (wpAny_rule ?_)))
  refine wpAny_pure ⟨Code.quiet_builtin _ (by decide +kernel), codeAny_builtin F.entry_int_and ?_⟩
  exact int_and_gives self_bool asI_int prog w _ R s h
theorem int_or_gives {a b : Value} {i j : Int} (hi : Builtin.Int.intOfSelf a = pure i) (hj : asInt? b = pure (some j)) : Gives (Builtin.«int.__or__» { pos := [a, b] }) (.int (Builtin.bitOr i j)) := by
  intro prog w A R s h
  unfold Builtin.«int.__or__» Builtin.Int.intBinary
  have e : slotArgs "__or__" 1 { pos := [a, b] } = pure (a, [b]) := by simp [slotArgs]
  rw [e]
  refine wpAny_bind (wpAny_pure ?_)
  dsimp only
  rw [hi]
  refine wpAny_bind (wpAny_pure ?_)
  show wpAny _ _ (bind (asInt? b) _) _ _ _
  rw [hj]
  refine wpAny_bind (wpAny_pure (wpAny_ite_false rfl ?_))
  show wpAny _ _ (retInt (Builtin.bitOr i j)) _ _ _
  unfold retInt
  obtain ⟨hp, g, d, tk, os⟩ := s
  exact wpAny_bind (wpAny_mkInt' (wpAny_pure h))
theorem bool_or_gives {a : Bool} {j : Int} {u : Tok} : Gives (Builtin.«bool.__or__» { pos := [.bool a, .int j u] }) (.int (Builtin.bitOr (b2i a) j)) := by
  intro prog w A R s h
  unfold Builtin.«bool.__or__»
  have e : slotArgs "__or__" 1 { pos := [.bool a, .int j u] } = pure (.bool a, [.int j u]) := by simp [slotArgs]
  show wpAny _ _ (bind (slotArgs "__or__" 1 { pos := [.bool a, .int j u] }) _) _ _ _
  rw [e]
  refine wpAny_bind (wpAny_pure ?_)
  refine wpAny_bind ?_
  show wpAny _ _ (asInt? (.int j u)) _ _ _
  rw [asI_int]
  refine wpAny_pure (wpAny_ite_false rfl (wpAny_bind (wpAny_rule ?_)))
  refine wpAny_pure ⟨Code.quiet_builtin _ (by decide +kernel), codeAny_builtin F.entry_int_or ?_⟩
  exact int_or_gives self_bool asI_int prog w _ R s h
theorem and_bool_int {prog : Program} {w : World} {A : Around} {E : Value → Shared → Prop} {s : Shared} {Q : Value → Shared → Prop} {a : Bool} {b : Int} {u : Tok} (h : Q (.int (Builtin.bitAnd (b2i a) b) s.toks) { heap := s.heap, gens := s.gens, drawn := s.drawn, toks := s.toks + 1, os := s.os }) : wpAny (model prog w) A (binaryOp .BitAnd (.bool a) (.int b u)) Q E s :=
  binaryOp_left_gives (T := "bool") (U := "int") (by decide) rfl (fun s' => typeIs_int s' b u) F.fills_bool_and F.fills_int_and F.sub_int_bool F.slot_bool_and F.slot_int_rand F.entry_bool_and (F.args_bool_and_2 (.bool a) (.int b u)) bool_and_gives trivial h
theorem or_bool_int {prog : Program} {w : World} {A : Around} {E : Value → Shared → Prop} {s : Shared} {Q : Value → Shared → Prop} {a : Bool} {b : Int} {u : Tok} (h : Q (.int (Builtin.bitOr (b2i a) b) s.toks) { heap := s.heap, gens := s.gens, drawn := s.drawn, toks := s.toks + 1, os := s.os }) : wpAny (model prog w) A (binaryOp .BitOr (.bool a) (.int b u)) Q E s :=
  binaryOp_left_gives (T := "bool") (U := "int") (by decide) rfl (fun s' => typeIs_int s' b u) F.fills_bool_or F.fills_int_or F.sub_int_bool F.slot_bool_or F.slot_int_ror F.entry_bool_or (F.args_bool_or_2 (.bool a) (.int b u)) bool_or_gives trivial h
theorem diff_and : reflectedDiffers (.type "int") (.type "bool") "and" = pure true := by
  unfold reflectedDiffers
  show (bind (pure false) _ : Sem Bool) = _
  simp only [pure_bind]
  refine (if_pos (show (!false) = true from rfl)).trans ?_
  rw [F.slot_bool_rand.lookup, F.slot_int_rand.lookup, pure_bind, pure_bind]
  exact congrArg pure (by decide +kernel)
theorem bool_rand_gives {a : Bool} {j : Int} {u : Tok} : Gives (Builtin.«bool.__rand__» { pos := [.bool a, .int j u] }) (.int (Builtin.bitAnd j (b2i a))) := by
  intro prog w A R s h
  unfold Builtin.«bool.__rand__»
  have e : slotArgs "__rand__" 1 { pos := [.bool a, .int j u] } = pure (.bool a, [.int j u]) := by simp [slotArgs]
  show wpAny _ _ (bind (slotArgs "__rand__" 1 { pos := [.bool a, .int j u] }) _) _ _ _
  rw [e]
  refine wpAny_bind (wpAny_pure ?_)
  refine wpAny_bind ?_
  show wpAny _ _ (asInt? (.int j u)) _ _ _
  rw [asI_int]
  refine wpAny_pure (wpAny_ite_false rfl (wpAny_bind (wpAny_rule ?_)))
  refine wpAny_pure ⟨Code.quiet_builtin _ (by decide +kernel), codeAny_builtin F.entry_int_and ?_⟩
  exact int_and_gives self_int asI_bool prog w _ R s h
theorem and_int_bool {prog : Program} {w : World} {A : Around} {E : Value → Shared → Prop} {s : Shared} {Q : Value → Shared → Prop} {a : Int} {u : Tok} {b : Bool} (h : Q (.int (Builtin.bitAnd a (b2i b)) s.toks) { heap := s.heap, gens := s.gens, drawn := s.drawn, toks := s.toks + 1, os := s.os }) : wpAny (model prog w) A (binaryOp .BitAnd (.int a u) (.bool b)) Q E s := by
  unfold binaryOp
  refine wpAny_holding ?_
  show wpAny _ _ (bind (binaryOp1 "and" (.int a u) (.bool b)) _) _ _ _
  refine wpAny_bind ?_
  unfold binaryOp1
  refine wpAny_bind (wpAny_pure ?_)
  refine wpAny_bind (wpAny_pure ?_)
  rw [F.fills_int_and]
  refine wpAny_bind (wpAny_pure ?_)
  refine wpAny_ite_false (by decide) ?_
  rw [F.fills_bool_and]
  refine wpAny_bind (wpAny_pure ?_)
  refine wpAny_ite_true (by decide) ?_
  rw [isSubtype_bool_int]
  refine wpAny_bind (wpAny_pure ?_)
  refine wpAny_ite_true (by decide) ?_
  rw [diff_and]
  refine wpAny_bind (wpAny_pure ?_)
  refine wpAny_ite_true (by decide) ?_
  refine wpAny_bind (wpAny_rule ?_)
  refine wpAny_bind ?_
  refine wpAny_tryMethod_slot (T := "bool") (name := dunderR "and") (id := "bool.__rand__") (self := .bool b) (other := .int a u) (PyProof.Rows.typeIs_bool' _ _) F.slot_bool_rand ?_
  refine call_gives (m := .int (Builtin.bitAnd a (b2i b))) F.slot_bool_rand (PyProof.Rows.typeIs_bool' _ _) F.entry_bool_rand (F.args_bool_rand_2 (.bool b) (.int a u)) bool_rand_gives ?_
  exact ⟨nofun, wpAny_pure (wpAny_pure h)⟩
/-- x op y of bools and numbers, as numbers -/
theorem op_andN {X : Cx} : OpR X (binaryOp .BitAnd) (fun x y H Q => ∃ i j, NumV i x ∧ NumV j y ∧ ∀ z, NumV (Builtin.bitAnd i j) z → Q z H) := by
  intro pins s σ H x y v u Q I rx ry h
  obtain ⟨i, j, hx, hy, q⟩ := h
  rcases hx with ⟨a, rfl, rfl⟩ | rfl
  · obtain rfl : v = Value.bool a := rx
    rcases hy with ⟨b, rfl, rfl⟩ | rfl
    · obtain rfl : u = Value.bool b := ry
      exact PyProof.Rows.and_bool ⟨.bl (a && b), H, I, rfl, q _ (.inl ⟨_, rfl, by cases a <;> cases b <;> decide⟩)⟩
    · obtain ⟨t2, rfl⟩ := ry
      exact and_bool_int ⟨.int _, H, I.tok _, ⟨_, rfl⟩, q _ (.inr rfl)⟩
  · obtain ⟨t, rfl⟩ := rx
    rcases hy with ⟨b, rfl, rfl⟩ | rfl
    · obtain rfl : u = Value.bool b := ry
      exact and_int_bool ⟨.int _, H, I.tok _, ⟨_, rfl⟩, q _ (.inr rfl)⟩
    · obtain ⟨t2, rfl⟩ := ry
      exact PyProof.Rows.and_int ⟨.int _, H, I.tok _, ⟨_, rfl⟩, q _ (.inr rfl)⟩
theorem diff_or : reflectedDiffers (.type "int") (.type "bool") "or" = pure true := by
  unfold reflectedDiffers
  show (bind (pure false) _ : Sem Bool) = _
  simp only [pure_bind]
  refine (if_pos (show (!false) = true from rfl)).trans ?_
  rw [F.slot_bool_ror.lookup, F.slot_int_ror.lookup, pure_bind, pure_bind]
  exact congrArg pure (by decide +kernel)
theorem bool_ror_gives {a : Bool} {j : Int} {u : Tok} : Gives (Builtin.«bool.__ror__» { pos := [.bool a, .int j u] }) (.int (Builtin.bitOr j (b2i a))) := by
  intro prog w A R s h
  unfold Builtin.«bool.__ror__»
  have e : slotArgs "__ror__" 1 { pos := [.bool a, .int j u] } = pure (.bool a, [.int j u]) := by simp [slotArgs]
  show wpAny _ _ (bind (slotArgs "__ror__" 1 { pos := [.bool a, .int j u] }) _) _ _ _
  rw [e]
  refine wpAny_bind (wpAny_pure ?_)
  refine wpAny_bind ?_
  show wpAny _ _ (asInt? (.int j u)) _ _ _
  rw [asI_int]
  refine wpAny_pure (wpAny_ite_false rfl (wpAny_bind (wpAny_rule ?_)))
  refine wpAny_pure ⟨Code.quiet_builtin _ (by decide +kernel), codeAny_builtin F.entry_int_or ?_⟩
  exact int_or_gives self_int asI_bool prog w _ R s h
theorem or_int_bool {prog : Program} {w : World} {A : Around} {E : Value → Shared → Prop} {s : Shared} {Q : Value → Shared → Prop} {a : Int} {u : Tok} {b : Bool} (h : Q (.int (Builtin.bitOr a (b2i b)) s.toks) { heap := s.heap, gens := s.gens, drawn := s.drawn, toks := s.toks + 1, os := s.os }) : wpAny (model prog w) A (binaryOp .BitOr (.int a u) (.bool b)) Q E s := by
  unfold binaryOp
  refine wpAny_holding ?_
  show wpAny _ _ (bind (binaryOp1 "or" (.int a u) (.bool b)) _) _ _ _
  refine wpAny_bind ?_
  unfold binaryOp1
  refine wpAny_bind (wpAny_pure ?_)
  refine wpAny_bind (wpAny_pure ?_)
  rw [F.fills_int_or]
  refine wpAny_bind (wpAny_pure ?_)
  refine wpAny_ite_false (by decide) ?_
  rw [F.fills_bool_or]
  refine wpAny_bind (wpAny_pure ?_)
  refine wpAny_ite_true (by decide) ?_
  rw [isSubtype_bool_int]
  refine wpAny_bind (wpAny_pure ?_)
  refine wpAny_ite_true (by decide) ?_
  rw [diff_or]
  refine wpAny_bind (wpAny_pure ?_)
  refine wpAny_ite_true (by decide) ?_
  refine wpAny_bind (wpAny_rule ?_)
  refine wpAny_bind ?_
  refine wpAny_tryMethod_slot (T := "bool") (name := dunderR "or") (id := "bool.__ror__") (self := .bool b) (other := .int a u) (PyProof.Rows.typeIs_bool' _ _) F.slot_bool_ror ?_
  refine call_gives (m := .int (Builtin.bitOr a (b2i b))) F.slot_bool_ror (PyProof.Rows.typeIs_bool' _ _) F.entry_bool_ror (F.args_bool_ror_2 (.bool b) (.int a u)) bool_ror_gives ?_
  exact ⟨nofun, wpAny_pure (wpAny_pure h)⟩
/-- x op y of bools and numbers, as numbers -/
theorem op_orN {X : Cx} : OpR X (binaryOp .BitOr) (fun x y H Q => ∃ i j, NumV i x ∧ NumV j y ∧ ∀ z, NumV (Builtin.bitOr i j) z → Q z H) := by
  intro pins s σ H x y v u Q I rx ry h
  obtain ⟨i, j, hx, hy, q⟩ := h
  rcases hx with ⟨a, rfl, rfl⟩ | rfl
  · obtain rfl : v = Value.bool a := rx
    rcases hy with ⟨b, rfl, rfl⟩ | rfl
    · obtain rfl : u = Value.bool b := ry
      exact PyProof.Rows.or_bool ⟨.bl (a || b), H, I, rfl, q _ (.inl ⟨_, rfl, by cases a <;> cases b <;> decide⟩)⟩
    · obtain ⟨t2, rfl⟩ := ry
      exact or_bool_int ⟨.int _, H, I.tok _, ⟨_, rfl⟩, q _ (.inr rfl)⟩
  · obtain ⟨t, rfl⟩ := rx
    rcases hy with ⟨b, rfl, rfl⟩ | rfl
    · obtain rfl : u = Value.bool b := ry
      exact or_int_bool ⟨.int _, H, I.tok _, ⟨_, rfl⟩, q _ (.inr rfl)⟩
    · obtain ⟨t2, rfl⟩ := ry
      exact PyProof.Rows.or_int ⟨.int _, H, I.tok _, ⟨_, rfl⟩, q _ (.inr rfl)⟩
theorem op_subN2 {X : Cx} : OpR X (binaryOp .Sub) (fun x y H Q => ∃ i j, x = .int i ∧ NumV j y ∧ Q (.int (i - j)) H) := by
  intro pins s σ H x y v u Q I rx ry h
  obtain ⟨i, j, rfl, hy, q⟩ := h
  obtain ⟨t, rfl⟩ := rx
  rcases hy with ⟨b, rfl, rfl⟩ | rfl
  · obtain rfl : u = Value.bool b := ry
    exact IntBool.sub_int_bool ⟨.int _, H, I.tok _, ⟨_, rfl⟩, q⟩
  · obtain ⟨t2, rfl⟩ := ry
    exact PyProof.Rows.sub_int ⟨.int _, H, I.tok _, ⟨_, rfl⟩, q⟩
end Own

namespace Own
open PySem PySem.Spec PyProof.Rows L2
/-! ### a list gets the items of a tuple -/
theorem meets_extT {l b : Addr} {items items2 : Array Value} {n : Nat} (hl : ¬(!items.isEmpty && Builtin.List.listTooLong (items.size + items2.size)) = true) (hz : items.size ≤ sizeLine) (hz2 : items.size + items2.size ≤ sizeLine + 1) :
    Meets (Builtin.«list.extend» { pos := [Value.ref l, Value.ref b] }) fun _ R s => s.heap.get? l = some { cls := Value.type "list", data := Data.seq items n } ∧ IsTup s.heap b items2 ∧
      R (.ok (.ret .none)) { heap := s.heap.update l (Obj.mapSeq fun x => x ++ items2), gens := s.gens, drawn := s.drawn, toks := s.toks, os := s.os } := by
  intro prog w A R s ⟨ha, ⟨o, hb, hc, m, hd⟩, h⟩
  unfold Builtin.«list.extend»
  have e : selfAndOne "list.extend" { pos := [Value.ref l, Value.ref b] } = pure (Value.ref l, Value.ref b) := by simp [selfAndOne, noKeywords]
  rw [e]
  refine wpAny_bind (wpAny_pure ?_)
  unfold Builtin.List.listExtendWith
  dsimp only
  unfold typeOf
  refine wpAny_bind (wpAny_bind (wpAny_loadPart_at hb (wpAny_pure ?_)))
  rw [hc]
  refine wpAny_ite_true (by rw [decide_eq_true_eq]; cases (Builtin.List.listSameRef (Value.ref l) (Value.ref b)) <;> decide) ?_
  refine wpAny_bind (wpAny_listItems hb hd ?_)
  refine wpAny_bind (wpAny_listItems ha rfl ?_)
  refine wpAny_ite_false (decide_eq_false hl) ?_
  refine wpAny_bind ?_
  unfold Builtin.List.listUpdate
  exact wpAny_updateSeq ha rfl (wpAny_pure h) hz (by rw [Array.size_append]; exact hz2)
def rExtendT (K : PySem.W.Frag) : V → List V → Hp → VK → Prop := fun x vs H Q => ∃ (l b : Addr) (xs zs : List V), x = .ref l ∧ vs = [.ref b] ∧ H l = some (.lst xs) ∧ SqT K H b zs ∧ xs.length + zs.length ≤ 1000000 ∧ Q .non (upd H l (.lst (xs ++ zs)))
theorem mt_extendT {X : Cx} : MtM X "list.extend" (rExtendT X.K) := by
  intro pins s σ H x vs v us Q I rx rv h
  obtain ⟨l, b, xs, zs, rfl, rfl, hl, hb, hz, q⟩ := h
  obtain rfl : v = Value.ref l := rx
  obtain ⟨u, rfl, ru⟩ := vals1 rv
  obtain rfl : u = Value.ref b := ru
  obtain ⟨h1, its, n, r, e, ho⟩ := I.lstM hl
  obtain ⟨its2, r2, ht, h2⟩ := I.tuple hb
  have e2 := r2.length
  refine call_meets (T := "list") F.slot_list_extend ⟨_, ho, rfl⟩ F.entry_list_extend (F.args_list_extend_2 _ _) (meets_extT (items := its.toArray) (items2 := its2.toArray) (n := n) ?_ (by rw [List.size_toArray]; omega) (by rw [List.size_toArray, List.size_toArray, sizeLine_eq]; omega)) ?_
  · rw [List.size_toArray, List.size_toArray]
    have z : Builtin.List.listTooLong (its.length + its2.length) = false := by
      unfold Builtin.List.listTooLong
      rw [decide_eq_false_iff_not, sizeLine_eq]
      omega
    rw [z, Bool.and_false]
    exact Bool.false_ne_true
  · refine ⟨ho, ht, ?_⟩
    show wants _ _ _ _
    exact ⟨.non, _, I.lset hl ho (List.append_toArray its its2) (r.append r2) (by rw [List.length_append, sizeLine_eq]; omega), rfl, q⟩
end Own

namespace Own
open PySem PySem.Spec PyProof.Rows L2
/-! ### what a condition is on a row -/
def tkey : Tst → List Leaf
  | (a, sg, .inl j) => [.num (a : Nat), .text sg, .num (j : Nat), .none]
  | (a, sg, .inr n) => [.num (a : Nat), .text sg, .none, .num n]
theorem tkey_v : ∀ t : Tst, (tkey t).map lfV = tstV t
  | (a, sg, .inl j) => rfl
  | (a, sg, .inr n) => rfl
theorem tkey_inj : ∀ {t u : Tst}, tkey t = tkey u → t = u
  | (a, sg, .inl j), (b, sh, .inl k), h => by
    simp only [tkey, List.cons.injEq, Leaf.num.injEq, Leaf.text.injEq, and_true] at h
    obtain ⟨h1, h2, h3⟩ := h
    have : a = b := by omega
    have : j = k := by omega
    subst_vars
    rfl
  | (a, sg, .inr n), (b, sh, .inr m), h => by
    simp only [tkey, List.cons.injEq, Leaf.num.injEq, Leaf.text.injEq, and_true, true_and] at h
    obtain ⟨h1, h2, h3⟩ := h
    have : a = b := by omega
    subst_vars
    rfl
  | (a, sg, .inl j), (b, sh, .inr m), h => by simp [tkey] at h
  | (a, sg, .inr n), (b, sh, .inl k), h => by simp [tkey] at h
def cmpB (sg : Str) (l r : Int) : Bool :=
  if sg = "=" then decide (l = r) else if sg = "!=" then !decide (l = r) else if sg = "<" then decide (l < r) else if sg = "<=" then decide (l ≤ r) else if sg = ">" then decide (r < l) else decide (r ≤ l)
/-- the test speaks of columns of a row of m -/
def TOk (m : Nat) : Tst → Prop
  | (a, _, .inl j) => a < m ∧ j < m
  | (a, _, .inr _) => a < m
def holdB (r : List Int) : Tst → Bool
  | (a, sg, .inl j) => cmpB sg (r.getD a 0) (r.getD j 0)
  | (a, sg, .inr n) => cmpB sg (r.getD a 0) n
/-- the items of a tree, each operator behind what it joins -/
def codeT : Tr → List Itm
  | .lf i => [i]
  | .neg t => codeT t ++ [.wd "~"]
  | .bin s l r => codeT l ++ codeT r ++ [.wd s]
/-- marks: what a tree gives, from what its tests give and what `every` gives -/
def markT (e : Int) (F : Tst → Int) : Tr → Int
  | .lf (.ts t) => F t
  | .lf (.wd w) => if w = "every" then e else 0
  | .neg t => e - markT e F t
  | .bin s l r => if s = "&" then Builtin.bitAnd (markT e F l) (markT e F r) else Builtin.bitOr (markT e F l) (markT e F r)
def valT (r : List Int) : Tr → Bool
  | .lf (.ts t) => holdB r t
  | .lf (.wd w) => decide (w = "every")
  | .neg t => !valT r t
  | .bin s a b => if s = "&" then valT r a && valT r b else valT r a || valT r b
theorem markT_one (r : List Int) : ∀ t : Tr, markT 1 (fun t => b2i (holdB r t)) t = b2i (valT r t)
  | .lf (.ts t) => rfl
  | .lf (.wd w) => by
    unfold markT valT b2i
    by_cases h : w = "every" <;> simp [h]
  | .neg t => by
    unfold markT valT
    rw [markT_one r t]
    cases valT r t <;> decide
  | .bin s a b => by
    unfold markT valT
    rw [markT_one r a, markT_one r b]
    by_cases h : s = "&"
    · simp only [h, if_true]
      cases valT r a <;> cases valT r b <;> decide
    · simp only [h, if_false]
      cases valT r a <;> cases valT r b <;> decide
/-- the words of a tree's inner nodes are operators, the words of its leaves constants -/
def TrWf (m : Nat) : Tr → Prop
  | .lf (.ts t) => TOk m t
  | .lf (.wd w) => w = "every" ∨ w = "none"
  | .neg t => TrWf m t
  | .bin s l r => (s = "&" ∨ s = "|") ∧ TrWf m l ∧ TrWf m r
theorem codeT_pos : ∀ t : Tr, 1 ≤ (codeT t).length
  | .lf _ => Nat.le_refl _
  | .neg t => by unfold codeT; rw [List.length_append]; exact Nat.le_add_left ..
  | .bin s l r => by unfold codeT; rw [List.length_append]; exact Nat.le_add_left ..
/-- a stack of numbers, as it is -/
def Nums (ns : List Int) (xs : List V) : Prop := Al NumV ns xs
/-- one item, on a stack -/
def mStep (e : Int) (F : Tst → Int) (st : List Int) : Itm → Option (List Int)
  | .ts t => some (st ++ [F t])
  | .wd w => if w = "~" then st.getLast?.map fun x => st.dropLast ++ [e - x]
    else if w = "&" then (st.getLast?.bind fun r => st.dropLast.getLast?.map fun l => st.dropLast.dropLast ++ [Builtin.bitAnd l r])
    else if w = "|" then (st.getLast?.bind fun r => st.dropLast.getLast?.map fun l => st.dropLast.dropLast ++ [Builtin.bitOr l r])
    else some (st ++ [if w = "every" then e else 0])
def mRun (e : Int) (F : Tst → Int) : List Int → List Itm → Option (List Int)
  | st, [] => some st
  | st, i :: is => (mStep e F st i).bind fun st' => mRun e F st' is
theorem mRun_app (e : Int) (F : Tst → Int) : ∀ (a b : List Itm) (st : List Int), mRun e F st (a ++ b) = (mRun e F st a).bind fun st' => mRun e F st' b
  | [], b, st => rfl
  | i :: a, b, st => by
    show (mStep e F st i).bind (fun st' => mRun e F st' (a ++ b)) = ((mStep e F st i).bind fun st' => mRun e F st' a).bind _
    cases mStep e F st i with
    | none => rfl
    | some st' => exact mRun_app e F a b st'
theorem mRun_tree (e : Int) (F : Tst → Int) {m : Nat} : ∀ (t : Tr) (st : List Int), TrWf m t → mRun e F st (codeT t) = some (st ++ [markT e F t])
  | .lf (.ts t), st, _ => rfl
  | .lf (.wd w), st, h => by
    show (mStep e F st (.wd w)).bind _ = _
    unfold mStep markT
    rcases h with rfl | rfl <;> rfl
  | .neg t, st, h => by
    unfold codeT
    rw [mRun_app, mRun_tree e F t st h]
    show (mStep e F (st ++ [markT e F t]) (.wd "~")).bind _ = _
    unfold mStep
    dsimp only
    rw [if_pos rfl, List.getLast?_append]
    simp [mRun, markT]
  | .bin s l r, st, ⟨hs, hl, hr⟩ => by
    unfold codeT
    rw [mRun_app, mRun_app, mRun_tree e F l st hl]
    show (((mRun e F (st ++ [markT e F l]) (codeT r))).bind fun st' => mRun e F st' [.wd s]) = _
    rw [mRun_tree e F r _ hr]
    show (mStep e F (st ++ [markT e F l] ++ [markT e F r]) (.wd s)).bind _ = _
    unfold mStep
    dsimp only
    rcases hs with rfl | rfl
    · rw [if_neg (by decide), if_pos rfl]
      simp [mRun, markT, show ¬ (("|" : Str) = "&") from by decide]
    · rw [if_neg (by decide), if_neg (by decide), if_pos rfl]
      simp [mRun, markT, show ¬ (("|" : Str) = "&") from by decide]
end Own
namespace Own
open PySem PySem.Spec PyProof.Rows L2
def spCodeOf : Sp := fun vs H Q _ => ∃ (v : V) (o : Option Tr), vs = [v] ∧ OTr H o v ∧ (∀ t, o = some t → (codeT t).length ≤ 100000) ∧ (o = none → Q .non H) ∧
  ∀ t, o = some t → ∀ (l : Addr) (xs : List V) (H' : Hp), Same H H' → H l = none → H' l = some (.lst xs) → Itms H' (codeT t) xs → Q (.ref l) H'
def itemT : Tr → Itm
  | .lf i => i
  | .neg _ => .wd "~"
  | .bin s _ _ => .wd s
def kidsT : Tr → List Tr
  | .lf _ => []
  | .neg t => [t]
  | .bin _ l r => [l, r]
abbrev Trs (H : Hp) (ts : List Tr) (xs : List V) : Prop := Al (TrAt H) ts xs
theorem Trs.lsts {H H' : Hp} (e : Lsts H H') {ts : List Tr} {xs : List V} (h : Trs H ts xs) : Trs H' ts xs := Al.mono h fun _ _ q => TrAt.lsts e q
theorem tr_node {H : Hp} : ∀ {t : Tr} {v : V}, TrAt H t v → ∃ p x ys, v = .ref p ∧ H p = some (.tup (x :: ys)) ∧ ItmAt H (itemT t) x ∧ Trs H (kidsT t) ys
  | .lf i, _, ⟨p, x, h, h1, h2⟩ => ⟨p, x, [], h, h1, h2, Al.nil⟩
  | .neg t, _, ⟨p, x, h, h1, h2⟩ => ⟨p, _, [x], h, h1, rfl, .one h2⟩
  | .bin s l r, _, ⟨p, x, y, h, h1, h2, h3⟩ => ⟨p, _, [x, y], h, h1, rfl, Al.app (.one h2) (.one h3)⟩
theorem codeT_node : ∀ t : Tr, codeT t = ((kidsT t).flatMap codeT) ++ [itemT t]
  | .lf i => rfl
  | .neg t => by simp [codeT, kidsT, itemT]
  | .bin s l r => by simp [codeT, kidsT, itemT]
theorem kids_len (t : Tr) : (kidsT t).length ≤ 2 := by
  cases t <;> simp [kidsT]
/-- what still waits, in the order in which it comes -/
def waitL (ts : List Tr) : List Itm := (ts.flatMap codeT).reverse
theorem waitL_pop (ts : List Tr) (t : Tr) : waitL (ts ++ [t]) = itemT t :: waitL (ts ++ kidsT t) := by
  unfold waitL
  rw [List.flatMap_append, List.flatMap_append, List.flatMap_cons, List.flatMap_nil, List.append_nil, codeT_node t, ← List.append_assoc, List.reverse_append]
  rfl
theorem ts_le : ∀ (ts : List Tr), ts.length ≤ (waitL ts).length := fun ts => by
  unfold waitL
  rw [List.length_reverse]
  induction ts with
  | nil => exact Nat.le_refl _
  | cons t ts ih =>
    rw [List.flatMap_cons, List.length_append, List.length_cons]
    have := codeT_pos t
    omega
theorem cut_tailV (x : V) (ys : List V) : cutV (x :: ys) (some 1) none = ys := by
  unfold cutV
  simp [HT.sIx]
end Own
namespace Own
open PySem PySem.Spec PyProof.Rows L2
def spCompares : Sp := fun vs H Q _ => ∃ (l r : Int) (sg : Str), vs = [.int l, .str sg, .int r] ∧ Q (.bl (cmpB sg l r)) H
def spHolds (K : PySem.W.Frag) : Sp := fun vs H Q _ => ∃ (p q : Addr) (t : Tst) (r : List Int), vs = [.ref p, .ref q] ∧ H p = some (.tup (tstV t)) ∧ SqT K H q (r.map V.int) ∧ TOk r.length t ∧ Q (.bl (holdB r t)) H
theorem rowAt {r : List Int} {a : Nat} (h : a < r.length) : atI (r.map V.int) (a : Nat) = some (.int (r.getD a 0)) := by
  refine atI_nat ?_
  rw [List.getElem?_map, List.getElem?_eq_getElem h, List.getD_eq_getElem?_getD, List.getElem?_eq_getElem h]
  rfl
/-- what the tests of a condition give, in a dict -/
def FndAt (P : Program) (w : World) (H : Hp) (D : Addr) (t : Tr) (F : Tst → Int) : Prop := ∃ ks, H D = some (dTO P w D ks) ∧ KeysAt H ks ∧ ∀ u, .ts u ∈ codeT t → ∃ en, ks.find? (fun e => decide (e.1 = tkey u)) = some en ∧ NumV (F u) en.2.2
def spMarks (P : Program) (w : World) : Sp := fun vs H Q _ => ∃ (l D : Addr) (xs : List V) (t : Tr) (e : Int) (F : Tst → Int) (m : Nat), vs = [.ref l, .ref D, .int e] ∧ H l = some (.lst xs) ∧ Itms H (codeT t) xs ∧ (codeT t).length ≤ 100000 ∧ TrWf m t ∧ FndAt P w H D t F ∧
  ∀ v H', Same H H' → NumV (markT e F t) v → Q v H'
def valV (r : List Int) : Option Tr → V
  | none => .non
  | some t => .bl (valT r t)
def spValueOn (K : PySem.W.Frag) : Sp := fun vs H Q _ => ∃ (v : V) (q : Addr) (o : Option Tr) (r : List Int), vs = [v, .ref q] ∧ (o = none → v = .non) ∧ (∀ t, o = some t → ∃ l xs, v = .ref l ∧ H l = some (.lst xs) ∧ Itms H (codeT t) xs ∧ (codeT t).length ≤ 100000 ∧ TrWf r.length t) ∧ SqT K H q (r.map V.int) ∧
  ∀ H', Same H H' → Q (valV r o) H'
theorem mStep_len {e : Int} {F : Tst → Int} {st st1 : List Int} {it : Itm} {i : Nat} (h : mStep e F st it = some st1) (hl : st.length ≤ i) : st1.length ≤ i + 1 := by
  cases it with
  | ts t =>
    cases h
    rw [List.length_append, List.length_singleton]
    omega
  | wd w =>
    unfold mStep at h
    dsimp only at h
    split at h
    · obtain ⟨x, _, rfl⟩ := Option.map_eq_some_iff.mp h
      rw [List.length_append, List.length_dropLast, List.length_singleton]
      omega
    · split at h
      · obtain ⟨x, _, h⟩ := Option.bind_eq_some_iff.mp h
        obtain ⟨y, _, rfl⟩ := Option.map_eq_some_iff.mp h
        rw [List.length_append, List.length_dropLast, List.length_dropLast, List.length_singleton]
        omega
      · split at h
        · obtain ⟨x, _, h⟩ := Option.bind_eq_some_iff.mp h
          obtain ⟨y, _, rfl⟩ := Option.map_eq_some_iff.mp h
          rw [List.length_append, List.length_dropLast, List.length_dropLast, List.length_singleton]
          omega
        · cases h
          rw [List.length_append, List.length_singleton]
          omega
/-- the last of a stack, and what is below it -/
theorem Nums.pop {st : List Int} {ps : List V} {x : Int} (h : Nums st ps) (e : st.getLast? = some x) : ∃ v, ps[ps.length - 1]? = some v ∧ NumV x v ∧ Nums st.dropLast ps.dropLast ∧ 1 ≤ ps.length := by
  rw [List.getLast?_eq_getElem?] at e
  obtain ⟨v, h1, h2⟩ := h.get' e
  rw [h.1] at h1
  have : 1 ≤ ps.length := by
    have := (List.getElem?_eq_some_iff.mp h1).1
    omega
  exact ⟨v, h1, h2, h.dropLast, this⟩
theorem storeT_keys {ks : List (List Leaf × Addr × V)} {k : List Leaf} {a : Addr} {v : V} : ∀ x, x ∈ (storeT ks k a v).map (·.1) ↔ x ∈ ks.map (·.1) ∨ x = k := by
  intro x
  unfold storeT
  by_cases h : k ∈ ks.map (·.1)
  · rw [if_pos h, List.map_map]
    have e : (List.map ((fun x : List Leaf × Addr × V => x.1) ∘ putT k v) ks) = ks.map (·.1) := by
      refine List.map_congr_left fun e _ => ?_
      show (putT k v e).1 = e.1
      unfold putT
      split <;> rfl
    rw [e]
    exact ⟨.inl, fun z => z.elim id fun z => by rw [z]; exact h⟩
  · rw [if_neg h, List.map_append, List.mem_append]
    simp
theorem storeT_mem {ks : List (List Leaf × Addr × V)} {k : List Leaf} {a : Addr} {v : V} {e : List Leaf × Addr × V} (h : e ∈ storeT ks k a v) : e ∈ ks ∨ e = (k, a, v) ∨ ∃ e0 ∈ ks, e0.1 = k ∧ e = (e0.1, e0.2.1, v) := by
  unfold storeT at h
  split at h
  · obtain ⟨e0, h0, rfl⟩ := List.mem_map.mp h
    unfold putT
    by_cases q : e0.1 = k
    · rw [if_pos q]
      exact .inr (.inr ⟨e0, h0, q, rfl⟩)
    · rw [if_neg q]
      exact .inl h0
  · rcases List.mem_append.mp h with h | h
    · exact .inl h
    · exact .inr (.inl (List.mem_singleton.mp h))
theorem storeT_len {ks : List (List Leaf × Addr × V)} {k : List Leaf} {a : Addr} {v : V} : (storeT ks k a v).length ≤ ks.length + 1 := by
  unfold storeT
  split
  · rw [List.length_map]
    omega
  · rw [List.length_append, List.length_singleton]
    omega
/-- the dict of tests, filled by the first i items -/
structure FillAt (P : Program) (w : World) (H0 H : Hp) (D : Addr) (c : List Itm) (r : List Int) (i : Nat) : Prop where
  S : Same H0 H
  ex : ∃ ks, H D = some (dTO P w D ks) ∧ KeysAt H ks ∧ (∀ en ∈ ks, ∃ u, en.1 = tkey u ∧ en.2.2 = .bl (holdB r u)) ∧ (∀ j u, j < i → c[j]? = some (.ts u) → tkey u ∈ ks.map (·.1)) ∧ ks.length ≤ i
theorem FillAt.skip {P : Program} {w : World} {H0 H : Hp} {D : Addr} {c : List Itm} {r : List Int} {i : Nat} (h : FillAt P w H0 H D c r i) {z : Str} (e : c[i]? = some (.wd z)) : FillAt P w H0 H D c r (i + 1) := by
  obtain ⟨S, ks, h1, h2, h3, h4, h5⟩ := h
  refine ⟨S, ks, h1, h2, h3, fun j u hj hu => ?_, by omega⟩
  rcases Nat.lt_or_ge j i with q | q
  · exact h4 j u q hu
  · have : j = i := by omega
    subst this
    rw [e] at hu
    cases hu
theorem FillAt.put {P : Program} {w : World} {H0 H : Hp} {D a : Addr} {c : List Itm} {r : List Int} {i : Nat} {u : Tst} {ks : List (List Leaf × Addr × V)} (S : Same H0 H) (hD0 : H0 D = none) (h1 : H D = some (dTO P w D ks)) (h2 : KeysAt H ks) (h3 : ∀ en ∈ ks, ∃ u, en.1 = tkey u ∧ en.2.2 = .bl (holdB r u)) (h4 : ∀ j u, j < i → c[j]? = some (.ts u) → tkey u ∈ ks.map (·.1)) (h5 : ks.length ≤ i)
    (e : c[i]? = some (.ts u)) (ha : H a = some (.tup ((tkey u).map lfV))) : FillAt P w H0 (upd H D (dTO P w D (storeT ks (tkey u) a (.bl (holdB r u))))) D c r (i + 1) := by
  have up : ∀ (x : Addr) (zs : List V), H x = some (.tup zs) → upd H D (dTO P w D (storeT ks (tkey u) a (.bl (holdB r u)))) x = some (.tup zs) := fun x zs hx => by
    rw [upd_ne (fun q => by rw [q, h1] at hx; cases hx)]
    exact hx
  refine ⟨put_same S hD0, _, upd_same, fun en hen => ?_, fun en hen => ?_, fun j v hj hv => ?_, Nat.le_trans storeT_len (by omega)⟩
  · rcases storeT_mem hen with q | rfl | ⟨e0, q0, _, rfl⟩
    · exact up _ _ (h2 en q)
    · exact up _ _ ha
    · exact up _ _ (h2 e0 q0)
  · rcases storeT_mem hen with q | rfl | ⟨e0, q0, q1, rfl⟩
    · exact h3 en q
    · exact ⟨u, rfl, rfl⟩
    · exact ⟨u, q1, rfl⟩
  · refine (storeT_keys _).mpr ?_
    rcases Nat.lt_or_ge j i with q | q
    · exact .inl (h4 j v q hv)
    · have : j = i := by omega
      subst this
      rw [e] at hv
      cases hv
      exact .inr rfl
theorem FillAt.fnd {P : Program} {w : World} {H0 H : Hp} {D : Addr} {t : Tr} {r : List Int} (h : FillAt P w H0 H D (codeT t) r (codeT t).length) : FndAt P w H D t (fun u => b2i (holdB r u)) := by
  obtain ⟨S, ks, h1, h2, h3, h4, h5⟩ := h
  refine ⟨ks, h1, h2, fun u hu => ?_⟩
  obtain ⟨j, hj⟩ := List.mem_iff_getElem?.mp hu
  have hm := h4 j u (List.getElem?_eq_some_iff.mp hj).1 hj
  obtain ⟨en, he, hk⟩ := List.mem_map.mp hm
  have hs : (ks.find? fun e => decide (e.1 = tkey u)).isSome = true := by
    rw [List.find?_isSome]
    exact ⟨en, he, decide_eq_true hk⟩
  obtain ⟨e2, h2'⟩ := Option.isSome_iff_exists.mp hs
  obtain ⟨u2, hu2, hv2⟩ := h3 e2 (List.mem_of_find?_eq_some h2')
  have hk2 : e2.1 = tkey u := by simpa using List.find?_some h2'
  have : u2 = u := tkey_inj (hu2.symm.trans hk2)
  subst this
  exact ⟨e2, h2', .inl ⟨_, hv2, rfl⟩⟩
theorem eqv_num1 {n : Int} {v : V} {K : PySem.W.Frag} {H : Hp} (h : NumV n v) : ∃ d, Dp K H v d ∧ SeqAt.shaped d = true ∧ PyData.eqv d (.int 1) = decide (n = 1) := by
  rcases h with ⟨b, rfl, rfl⟩ | rfl
  · refine ⟨.bool b, .bl b, by cases b <;> decide +kernel, ?_⟩
    cases b <;> decide +kernel
  · refine ⟨.int n, .int n, ?_, ?_⟩
    · unfold SeqAt.shaped
      simp only [PyData.canLay0, PyData.depth]
      rfl
    · simp only [PyData.eqv]
      rw [Bool.eq_iff_iff]
      simp
theorem TrWf.tok {m : Nat} : ∀ {t : Tr} {u : Tst}, TrWf m t → .ts u ∈ codeT t → TOk m u
  | .lf (.ts v), u, h, hu => by
    have : u = v := by simpa [codeT] using hu
    rw [this]
    exact h
  | .lf (.wd w), u, h, hu => by simp [codeT] at hu
  | .neg t, u, h, hu => by
    unfold codeT at hu
    rcases List.mem_append.mp hu with hu | hu
    · exact TrWf.tok (t := t) h hu
    · simp at hu
  | .bin s l r, u, ⟨_, hl, hr⟩, hu => by
    unfold codeT at hu
    rcases List.mem_append.mp hu with hu | hu
    · rcases List.mem_append.mp hu with hu | hu
      · exact TrWf.tok hl hu
      · exact TrWf.tok hr hu
    · simp at hu
theorem b2i_one (b : Bool) : decide (b2i b = 1) = b := by cases b <;> decide
/-- whether a condition takes a row -/
def takB (r : List Int) : Option Tr → Bool
  | none => true
  | some t => valT r t
def spIsTaken (K : PySem.W.Frag) : Sp := fun vs H Q _ => ∃ (v : V) (q : Addr) (o : Option Tr) (r : List Int), vs = [v, .ref q] ∧ (o = none → v = .non) ∧ (∀ t, o = some t → ∃ l xs, v = .ref l ∧ H l = some (.lst xs) ∧ Itms H (codeT t) xs ∧ (codeT t).length ≤ 100000 ∧ TrWf r.length t) ∧ SqT K H q (r.map V.int) ∧
  ∀ H', Same H H' → Q (.bl (takB r o)) H'
end Own

namespace Own
open PySem PySem.Spec PyProof.Rows L2
/-- x is not False, x a bool or None -/
def rNotF : R2 := fun x y H Q => y = .bl false ∧ ((x = .non ∧ Q (.bl true) H) ∨ ∃ b, x = .bl b ∧ Q (.bl b) H)
theorem op_notF {X : Cx} : OpR X (compareOp .IsNot) rNotF := by
  intro pins s σ H x y v u Q I rx ry h
  obtain ⟨rfl, h⟩ := h
  obtain rfl : u = Value.bool false := ry
  rcases h with ⟨rfl, q⟩ | ⟨b, rfl, q⟩
  · obtain rfl : v = Value.none := rx
    unfold compareOp
    exact wpAny_bind (wpAny_pure (wpAny_pure ⟨.bl true, H, I, rfl, q⟩))
  · obtain rfl : v = Value.bool b := rx
    unfold compareOp
    cases b
    · exact wpAny_bind (wpAny_pure (wpAny_pure ⟨.bl false, H, I, rfl, q⟩))
    · exact wpAny_bind (wpAny_pure (wpAny_pure ⟨.bl true, H, I, rfl, q⟩))
end Own

namespace K07
open PySem PySem.Spec PyProof.Rows L2 Own
section
variable {P : Program} {w : World} {K : PySem.W.Frag} {mg : Str → Option Value} {base : Heap} {f C : Addr} {fd : FuncData}
theorem sc_code_of : FnScope ["tree", "code", "waiting", "node"] ["tree"] (defScope s_code_of) := ⟨rfl, rfl, rfl, by decide +kernel, rfl, by decide +kernel, by decide +kernel⟩
theorem ok_code_of (F : FnP K "code_of" s_code_of f fd) (T : Free mg) : FnOk P w K mg base CX0 1 f fd ["tree"] spCodeOf := by
  refine F.ok sc_code_of (fun vs H Q E h => ?_) (fun cdv A outer s H vs Q E hr h => ⟨_, PSs.nox (pss_cons (ps_if (pt_cmpR op_isN (pv 0) pe_non (nomark _))
 (pss_one (ps_ret pe_non))
 pss_nil)
 (pss_cons (ps_set (i := 1) sc_code_of.nd rfl (Or.inl rfl) (pe_lst pa_nil))
 (pss_cons (ps_set (i := 2) sc_code_of.nd rfl (Or.inl rfl) (pe_lst (pa_cons (pv 0) pa_nil)))
 (pss_cons (ps_while PassesOwn.never (pt_truth (pv 2) (fun _ => rfl))
 (pss_cons (ps_set (i := 3) sc_code_of.nd rfl (Or.inl rfl) (pe_bm0 PySem.F.plainAttrs_list PySem.F.slot_list_pop PySem.F.type_list_pop mt_pop (pv 2)))
 (pss_cons (ps_expr (pe_bm PySem.F.plainAttrs_list PySem.F.slot_list_append PySem.F.type_list_append mt_append (pv 1) (pa_cons (pe_ix ix_tup (pv 3) pe_int (fun _ _ => rfl)) pa_nil)))
 (pss_one (ps_expr (pe_bm PySem.F.plainAttrs_list PySem.F.slot_list_extend PySem.F.type_list_extend (show MtM _ "list.extend" (rExtendT K) from mt_extendT) (pv 2) (pa_cons (pe_slice sl_tupS (pv 3) (po_some pe_int) po_none) pa_nil)))))))
 (pss_one (ps_ret (pe_revL (pv 1)))))))), ?_⟩)
  · obtain ⟨v, o, rfl, _⟩ := h
    rfl
  · obtain ⟨v, o, rfl, ho, hn, kN, k⟩ := h
    refine ⟨_, rfl, rfl, _, rfl, ?_⟩
    cases o with
    | none =>
      obtain rfl : v = V.non := ho
      exact iteT (kN rfl)
    | some t0 =>
      have ht0 : TrAt H t0 v := ho
      obtain ⟨p0, rfl⟩ := TrAt.ref ht0
      refine iteF ?_
      have hn := hn t0 rfl
      have k := k t0 rfl
      clear kN ho
      have hsl : (100000 : Nat) < sizeLine := by rw [sizeLine_eq]; omega
      refine ⟨Nat.zero_le _, fun cl ncl => ?_⟩
      have S01 := same_newH (o := .lst []) ncl
      have hc0 : upd H cl (.lst []) cl = some (.lst []) := upd_same
      generalize upd H cl (.lst []) = H0 at *
      refine ⟨_, rfl, (by show 1 ≤ sizeLine; decide), fun wl nwl => ?_⟩
      have S02 := same_newH (o := .lst [V.ref p0]) nwl
      have hw0 : upd H0 wl (.lst [V.ref p0]) wl = some (.lst [V.ref p0]) := upd_same
      have hc1 := S02 _ _ hc0
      have ncw : cl ≠ wl := ne_of_none hc0 nwl
      have Sb := S01.trans S02
      generalize upd H0 wl (.lst [V.ref p0]) = H1 at *
      have fwl : H wl = none := S01.free nwl
      refine ⟨fun m σ H' => ∃ (ts : List Tr) (acc : List Itm) (ws cs : List V) (t3 : Option V), m = (waitL ts).length ∧ σ = [some (.ref p0), some (.ref cl), some (.ref wl), t3] ∧ Same H H' ∧ H' cl = some (.lst cs) ∧ H' wl = some (.lst ws) ∧ Trs H' ts ws ∧ Itms H' acc cs ∧ acc ++ waitL ts = waitL [t0], ⟨_, [t0], [], [.ref p0], [], none, rfl, rfl, Sb, hc1, hw0, .one (TrAt.lsts (.same Sb) ht0), Al.nil, rfl⟩, ?_⟩
      rintro m σ H2 ⟨ts, acc, ws, cs, t3, rfl, rfl, S2, hc2, hw2, hT, hA, hacc⟩
      have htot : acc.length + (waitL ts).length ≤ 100000 := by
        rw [← List.length_append, hacc]
        unfold waitL
        rw [List.length_reverse, List.flatMap_cons, List.flatMap_nil, List.append_nil]
        exact hn
      have hal := hA.1
      have htl := hT.1
      have htw := ts_le ts
      refine ⟨_, rfl, !ws.isEmpty, .inl ⟨_, SqL.of hw2, rfl⟩, ?_⟩
      by_cases hts : ts = []
      · subst hts
        have hwe : ws = [] := List.length_eq_zero_iff.mp hT.1.symm
        subst hwe
        refine iteF ?_
        have e0 : acc = waitL [t0] := by
          rw [← hacc]
          show _ = acc ++ []
          rw [List.append_nil]
        refine ⟨_, rfl, cl, cs, rfl, SqL.of hc2, fun q nq => ?_⟩
        have Sq := same_newH (o := .lst cs.reverse) nq
        refine k q cs.reverse _ (S2.trans Sq) (S2.free nq) upd_same (Itms.lsts (.same Sq) ?_)
        have hr' := hA.rev
        rw [e0] at hr'
        unfold waitL at hr'
        rw [List.reverse_reverse, List.flatMap_cons, List.flatMap_nil, List.append_nil] at hr'
        exact hr'
      · have hw' : ws ≠ [] := fun z => hts (List.length_eq_zero_iff.mp (by rw [hT.1, z]; rfl))
        obtain ⟨ti, t, rfl⟩ : ∃ ti t, ts = ti ++ [t] := ⟨ts.dropLast, ts.getLast hts, (List.dropLast_concat_getLast hts).symm⟩
        obtain ⟨wi, v, rfl⟩ : ∃ wi v, ws = wi ++ [v] := ⟨ws.dropLast, ws.getLast hw', (List.dropLast_concat_getLast hw').symm⟩
        have hTi : Trs H2 ti wi := by
          have := hT.dropLast
          rw [List.dropLast_concat, List.dropLast_concat] at this
          exact this
        have hTt : TrAt H2 t v := hT.2 ti.length t v (by simp) (by rw [hTi.1]; simp)
        obtain ⟨p, x, ys, rfl, hp, hx, hk⟩ := tr_node hTt
        have e1 : (!(wi ++ [V.ref p]).isEmpty) = true := by cases wi <;> rfl
        rw [e1]
        refine iteT ?_
        have hd : (wi ++ [V.ref p]).dropLast = wi := List.dropLast_concat ..
        have hg : (wi ++ [V.ref p])[(wi ++ [V.ref p]).length - 1]? = some (V.ref p) := by simp
        have npw : p ≠ wl := ne_of hp hw2 nofun
        have npc : p ≠ cl := ne_of hp hc2 nofun
        refine ⟨fun σ' H' => ∃ m', m' < (waitL (ti ++ [t])).length ∧ ∃ (ts : List Tr) (acc : List Itm) (ws cs : List V) (t3 : Option V), m' = (waitL ts).length ∧ σ' = [some (.ref p0), some (.ref cl), some (.ref wl), t3] ∧ Same H H' ∧ H' cl = some (.lst cs) ∧ H' wl = some (.lst ws) ∧ Trs H' ts ws ∧ Itms H' acc cs ∧ acc ++ waitL ts = waitL [t0], fun _ _ z => z, ?_⟩
        refine ⟨_, rfl, .inl ⟨rfl, _, SqL.of hw2⟩, wl, _, V.ref p, rfl, rfl, hw2, hg, ?_⟩
        rw [hd]
        have L1 := Lsts.put (o := .lst wi) hw2
        have S3 := put_same S2 (o := .lst wi) fwl
        have hc3 : upd H2 wl (.lst wi) cl = some (.lst cs) := by rw [upd_ne ncw]; exact hc2
        have hw3 : upd H2 wl (.lst wi) wl = some (.lst wi) := upd_same
        have hp3 := L1 _ _ hp nofun
        have hTi3 := hTi.lsts L1
        have hA3 := hA.lsts L1
        have hx3 := hx.lsts L1
        have hk3 := hk.lsts L1
        generalize upd H2 wl (.lst wi) = H3 at *
        refine ⟨_, rfl, .inl ⟨rfl, _, SqL.of hc3⟩, _, rfl, p, _, 0, x, rfl, rfl, SqT.of hp3, atI_nat (j := 0) rfl, cl, cs, x, rfl, rfl, hc3, by omega, ?_⟩
        have L2 := Lsts.put (o := .lst (cs ++ [x])) hc3
        have S4 := put_same S3 (o := .lst (cs ++ [x])) ncl
        have hw4 : upd H3 cl (.lst (cs ++ [x])) wl = some (.lst wi) := by rw [upd_ne ncw.symm]; exact hw3
        have hc4 : upd H3 cl (.lst (cs ++ [x])) cl = some (.lst (cs ++ [x])) := upd_same
        have hp4 := L2 _ _ hp3 nofun
        have hTi4 := hTi3.lsts L2
        have hA4 : Itms (upd H3 cl (.lst (cs ++ [x]))) (acc ++ [itemT t]) (cs ++ [x]) := Al.snoc (hA3.lsts L2) (hx3.lsts L2)
        have hk4 := hk3.lsts L2
        generalize upd H3 cl (.lst (cs ++ [x])) = H4 at *
        refine ⟨_, rfl, .inl ⟨rfl, _, SqL.of hw4⟩, _, rfl, _, rfl, p, _, rfl, hp4, fun u H5 S5 hu => ?_⟩
        rw [cut_tailV] at hu
        have hkl := hk4.1
        have hkd := kids_len t
        have hwil := hTi.1
        rw [List.length_append, List.length_singleton] at htw
        refine ⟨wl, u, wi, ys, rfl, rfl, S5 _ _ hw4, SqT.of hu, by omega, ?_⟩
        have L3 := Lsts.put (o := .lst (wi ++ ys)) (S5 _ _ hw4)
        have hcl5 := S5 _ _ hc4
        refine ⟨_, ?_, ti ++ kidsT t, acc ++ [itemT t], wi ++ ys, cs ++ [x], _, rfl, rfl, put_same (S4.trans S5) fwl, by rw [upd_ne ncw]; exact hcl5, upd_same, ?_, ?_, ?_⟩
        · rw [waitL_pop, List.length_cons]
          exact Nat.lt_succ_self _
        · exact Trs.lsts L3 (Al.app (hTi4.lsts (.same S5)) (hk4.lsts (.same S5)))
        · exact (hA4.lsts (.same S5)).lsts L3
        · rw [waitL_pop] at hacc
          rw [List.append_assoc]
          exact hacc
theorem sc_compares : FnScope ["left", "sign", "right"] ["left", "sign", "right"] (defScope s_compares) := ⟨rfl, rfl, rfl, by decide +kernel, rfl, by decide +kernel, by decide +kernel⟩
theorem ok_compares (F : FnP K "compares" s_compares f fd) (T : Free mg) : FnOk P w K mg base CX0 1 f fd ["left", "sign", "right"] spCompares := by
  refine F.ok sc_compares (fun vs H Q E h => ?_) (fun cdv A outer s H vs Q E hr h => ⟨_, PSs.nox (pss_cons (ps_if (pt_cmpR op_eq (pv 1) pe_str (nomark _))
 (pss_one (ps_ret (pe_cmpR op_eq (pv 0) (pv 2) (nomark _))))
 pss_nil)
 (pss_cons (ps_if (pt_cmpR op_eq (pv 1) pe_str (nomark _))
 (pss_one (ps_ret (pe_cmpR op_ne (pv 0) (pv 2) (nomark _))))
 pss_nil)
 (pss_cons (ps_if (pt_cmpR op_eq (pv 1) pe_str (nomark _))
 (pss_one (ps_ret (pe_cmpR op_lt (pv 0) (pv 2) (nomark _))))
 pss_nil)
 (pss_cons (ps_if (pt_cmpR op_eq (pv 1) pe_str (nomark _))
 (pss_one (ps_ret (pe_cmpR op_le (pv 0) (pv 2) (nomark _))))
 pss_nil)
 (pss_one (ps_ret (pe_ifExp (pt_cmpR op_eq (pv 1) pe_str (nomark _)) (pe_cmpR op_gt (pv 0) (pv 2) (nomark _)) (pe_cmpR op_ge (pv 0) (pv 2) (nomark _))))))))), ?_⟩)
  · obtain ⟨l, r, sg, rfl, _⟩ := h
    rfl
  · obtain ⟨l, r, sg, rfl, k⟩ := h
    have eI : decide (V.int l = V.int r) = decide (l = r) := decide_eq_decide.mpr ⟨fun z => V.int.inj z, fun z => by rw [z]⟩
    unfold cmpB at k
    refine ⟨_, rfl, rfl, _, rfl, ite2 (fun h => ?_) (fun h => ?_)⟩
    · have h : sg = "=" := V.str.inj (of_decide_eq_true h)
      rw [if_pos h, ← eI] at k
      exact ⟨_, rfl, _, rfl, rfl, k⟩
    have h1 : ¬ sg = "=" := fun z => h (decide_eq_true (by rw [z]))
    rw [if_neg h1] at k
    refine ⟨_, rfl, rfl, _, rfl, ite2 (fun h => ?_) (fun h => ?_)⟩
    · have h : sg = "!=" := V.str.inj (of_decide_eq_true h)
      rw [if_pos h, ← eI] at k
      exact ⟨_, rfl, _, rfl, rfl, k⟩
    have h2 : ¬ sg = "!=" := fun z => h (decide_eq_true (by rw [z]))
    rw [if_neg h2] at k
    refine ⟨_, rfl, rfl, _, rfl, ite2 (fun h => ?_) (fun h => ?_)⟩
    · have h : sg = "<" := V.str.inj (of_decide_eq_true h)
      rw [if_pos h] at k
      exact ⟨_, rfl, _, rfl, _, _, rfl, rfl, k⟩
    have h3 : ¬ sg = "<" := fun z => h (decide_eq_true (by rw [z]))
    rw [if_neg h3] at k
    refine ⟨_, rfl, rfl, _, rfl, ite2 (fun h => ?_) (fun h => ?_)⟩
    · have h : sg = "<=" := V.str.inj (of_decide_eq_true h)
      rw [if_pos h] at k
      exact ⟨_, rfl, _, rfl, _, _, rfl, rfl, k⟩
    have h4 : ¬ sg = "<=" := fun z => h (decide_eq_true (by rw [z]))
    rw [if_neg h4] at k
    refine ⟨_, rfl, rfl, _, rfl, ite2 (fun h => ?_) (fun h => ?_)⟩
    · have h : sg = ">" := V.str.inj (of_decide_eq_true h)
      rw [if_pos h] at k
      exact ⟨_, rfl, _, rfl, _, _, rfl, rfl, k⟩
    have h5 : ¬ sg = ">" := fun z => h (decide_eq_true (by rw [z]))
    rw [if_neg h5] at k
    exact ⟨_, rfl, _, rfl, _, _, rfl, rfl, k⟩
theorem sc_holds : FnScope ["test", "row", "at", "sign", "to", "number"] ["test", "row"] (defScope s_holds) := ⟨rfl, rfl, rfl, by decide +kernel, rfl, by decide +kernel, by decide +kernel⟩
theorem ok_holds {fc : Addr} {fdc : FuncData} (F : FnP K "holds" s_holds f fd) (T : Free mg) (c_compares : Cal P w K mg base CX0 1 "compares" fc fdc ["left", "sign", "right"] spCompares) : FnOk P w K mg base CX0 2 f fd ["test", "row"] (spHolds K) := by
  refine F.ok sc_holds (fun vs H Q E h => ?_) (fun cdv A outer s H vs Q E hr h => ⟨_, PSs.nox (pss_cons (ps_asg (pv 0) (pg_tup rfl (pgs_cons (pg_name (i := 2) sc_holds.nd rfl (Or.inl rfl)) (pgs_cons (pg_name (i := 3) sc_holds.nd rfl (Or.inl rfl)) (pgs_cons (pg_name (i := 4) sc_holds.nd rfl (Or.inl rfl)) (pgs_cons (pg_name (i := 5) sc_holds.nd rfl (Or.inl rfl)) pgs_nil))))))
 (pss_one (ps_ret (pe_cal c_compares (hr.mono (by decide)) (pa_cons (pe_ix ix_tup (pv 1) (pv 2) (fun _ _ => rfl)) (pa_cons (pv 3) (pa_cons (pe_ifExp (pt_cmpR op_isN (pv 4) pe_non (nomark _)) (pv 5) (pe_ix ix_tup (pv 1) (pv 4) (fun _ _ => rfl))) pa_nil))))))), ?_⟩)
  · obtain ⟨p, q, t, r, rfl, _⟩ := h
    rfl
  · obtain ⟨p, q, t, r, rfl, hp, hq, ht, k⟩ := h
    obtain ⟨a, sg, j | n⟩ := t
    · obtain ⟨ha, hj⟩ := ht
      refine ⟨_, rfl, p, _, rfl, SqT.of hp, rfl, _, _, rfl, _, _, rfl, _, _, rfl, _, _, rfl, rfl, ?_⟩
      refine ⟨_, rfl, _, rfl, q, _, _, _, rfl, rfl, hq, rowAt ha, _, rfl, _, rfl, rfl, _, rfl, iteF ?_⟩
      exact ⟨_, rfl, _, rfl, q, _, _, _, rfl, rfl, hq, rowAt hj, _, _, _, rfl, k⟩
    · refine ⟨_, rfl, p, _, rfl, SqT.of hp, rfl, _, _, rfl, _, _, rfl, _, _, rfl, _, _, rfl, rfl, ?_⟩
      refine ⟨_, rfl, _, rfl, q, _, _, _, rfl, rfl, hq, rowAt ht, _, rfl, _, rfl, rfl, _, rfl, iteT ?_⟩
      exact ⟨_, rfl, _, _, _, rfl, k⟩
theorem sc_marks_from : FnScope ["code", "found", "everywhere", "parts", "item", "right"] ["code", "found", "everywhere"] (defScope s_marks_from) := ⟨rfl, rfl, rfl, by decide +kernel, rfl, by decide +kernel, by decide +kernel⟩
theorem ok_marks_from (F : FnP K "marks_from" s_marks_from f fd) (T : Free mg) : FnOk P w K mg base CX0 1 f fd ["code", "found", "everywhere"] (spMarks P w) := by
  refine F.ok sc_marks_from (fun vs H Q E h => ?_) (fun cdv A outer s H vs Q E hr h => ⟨_, PSs.nox (pss_cons (ps_set (i := 3) sc_marks_from.nd rfl (Or.inl rfl) (pe_lst pa_nil))
 (pss_cons (ps_for PassesOwn.never rfl (pi_list (pv 0)) (pg_name (i := 4) sc_marks_from.nd rfl (Or.inl rfl))
 (pss_one (ps_if (pt_val (pe_callB call_isi (by rfl) T.isinstance boot_isinstance (pa_cons (pv 4) (pa_cons (pe_bltn (v := .ty "tuple") (by rfl) T.tuple boot_tuple rfl) pa_nil))))
 (pss_one (ps_expr (pe_bm PySem.F.plainAttrs_list PySem.F.slot_list_append PySem.F.type_list_append mt_append (pv 3) (pa_cons (pe_ix (show IxR _ (rIxK P w) from ix_K (Nat.lt_of_le_of_lt (Nat.add_le_add_left (by decide : 1 ≤ 64) _) (hu_of' hr))) (pv 1) (pv 4) (fun _ _ => rfl)) pa_nil))))
 (pss_one (ps_if (pt_cmpR op_eq (pv 4) pe_str (nomark _))
 (pss_one (ps_expr (pe_bm PySem.F.plainAttrs_list PySem.F.slot_list_append PySem.F.type_list_append mt_append (pv 3) (pa_cons (pe_op op_subN2 (pv 2) (pe_bm0 PySem.F.plainAttrs_list PySem.F.slot_list_pop PySem.F.type_list_pop mt_pop (pv 3))) pa_nil))))
 (pss_one (ps_if (pt_cmpR op_eq (pv 4) pe_str (nomark _))
 (pss_cons (ps_set (i := 5) sc_marks_from.nd rfl (Or.inl rfl) (pe_bm0 PySem.F.plainAttrs_list PySem.F.slot_list_pop PySem.F.type_list_pop mt_pop (pv 3)))
 (pss_one (ps_expr (pe_bm PySem.F.plainAttrs_list PySem.F.slot_list_append PySem.F.type_list_append mt_append (pv 3) (pa_cons (pe_op op_andN (pe_bm0 PySem.F.plainAttrs_list PySem.F.slot_list_pop PySem.F.type_list_pop mt_pop (pv 3)) (pv 5)) pa_nil)))))
 (pss_one (ps_if (pt_cmpR op_eq (pv 4) pe_str (nomark _))
 (pss_cons (ps_set (i := 5) sc_marks_from.nd rfl (Or.inl rfl) (pe_bm0 PySem.F.plainAttrs_list PySem.F.slot_list_pop PySem.F.type_list_pop mt_pop (pv 3)))
 (pss_one (ps_expr (pe_bm PySem.F.plainAttrs_list PySem.F.slot_list_append PySem.F.type_list_append mt_append (pv 3) (pa_cons (pe_op op_orN (pe_bm0 PySem.F.plainAttrs_list PySem.F.slot_list_pop PySem.F.type_list_pop mt_pop (pv 3)) (pv 5)) pa_nil)))))
 (pss_one (ps_expr (pe_bm PySem.F.plainAttrs_list PySem.F.slot_list_append PySem.F.type_list_append mt_append (pv 3) (pa_cons (pe_ifExp (pt_cmpR op_eq (pv 4) pe_str (nomark _)) (pv 2) pe_int) pa_nil)))))))))))))
 (pss_one (ps_ret (pe_ix ix_list (pv 3) pe_int (fun _ _ => rfl)))))), ?_⟩)
  · obtain ⟨l, D, xs, t, e, F, m, rfl, _⟩ := h
    rfl
  · obtain ⟨l, D, xs, t, e, G, m, rfl, hl, hI, hn, hwf, ⟨ks, hD, hK, hG⟩, k⟩ := h
    have hsl : (100000 : Nat) < sizeLine := by rw [sizeLine_eq]; omega
    have hrun := mRun_tree e G t [] hwf
    rw [List.nil_append] at hrun
    refine ⟨Nat.zero_le _, fun q nq => ?_⟩
    have S0 := same_newH (o := .lst []) nq
    refine ⟨_, rfl, l, rfl, ⟨_, SqL.of (S0 _ _ hl)⟩, ?_⟩
    have hlen := hI.1
    refine for_list (xs := xs) (fun i σ H' => ∃ (st : List Int) (ps : List V) (t4 t5 : Option V), σ = [some (.ref l), some (.ref D), some (.int e), some (.ref q), t4, t5] ∧ Same H H' ∧ H' q = some (.lst ps) ∧ Nums st ps ∧ st.length ≤ i ∧ mRun e G st ((codeT t).drop i) = some [markT e G t])
      ⟨[], [], none, none, rfl, S0, upd_same, Al.nil, Nat.le_refl _, hrun⟩ (fun i σ H' _ ⟨_, _, _, _, _, S, _⟩ => SqL.of (S _ _ hl)) ?_ ?_
    · rintro i v σ H2 hi ⟨st, ps, t4, t5, rfl, S2, hq2, hN, hsi, hrn⟩
      obtain ⟨it, hit, hv⟩ := hI.get hi
      have hv1 : ItmAt H2 it v := hv.lsts (.same S2)
      have hil : i < (codeT t).length := (List.getElem?_eq_some_iff.mp hit).1
      rw [dropG hit] at hrn
      obtain ⟨st1, hst, hrn⟩ := Option.bind_eq_some_iff.mp (show (mStep e G st it).bind (fun st' => mRun e G st' ((codeT t).drop (i + 1))) = _ from hrn)
      -- the next turn
      have nxt : ∀ (H3 : Hp) (ps1 : List V) (t5 : Option V), Same H H3 → H3 q = some (.lst ps1) → Nums st1 ps1 → ∃ (st : List Int) (ps : List V) (t4' t5' : Option V), [some (V.ref l), some (.ref D), some (.int e), some (.ref q), some v, t5] = [some (V.ref l), some (.ref D), some (.int e), some (.ref q), t4', t5'] ∧ Same H H3 ∧ H3 q = some (.lst ps) ∧ Nums st ps ∧ st.length ≤ i + 1 ∧ mRun e G st ((codeT t).drop (i + 1)) = some [markT e G t] := fun H3 ps1 t5 a b c => ⟨st1, ps1, _, _, rfl, a, b, c, mStep_len hst hsi, hrn⟩
      have hpl := hN.1
      cases it with
      | ts u =>
        obtain ⟨p, rfl, hp, _⟩ := id hv1
        refine ⟨_, rfl, _, _, _, _, _, rfl, .ty _, kd_ok (kd_tup hp), kit_tuple _, _, rfl, ?_⟩
        refine iteT ?_
        obtain ⟨en, hf, hNum⟩ := hG u (List.mem_of_getElem? hit)
        have hst : st1 = st ++ [G u] := (Option.some.inj hst).symm
        refine ⟨_, rfl, .inl ⟨rfl, _, SqL.of hq2⟩, _, rfl, _, rfl, D, p, ks, tkey u, en, rfl, rfl, S2 _ _ hD, fun x hx => S2 _ _ (hK x hx), by rw [tkey_v]; exact hp, hf, q, ps, en.2.2, rfl, rfl, hq2, by omega, ?_⟩
        exact nxt _ _ _ (put_same S2 nq) upd_same (by rw [hst]; exact hN.snoc hNum)
      | wd z =>
        obtain rfl : v = V.str z := id hv1
        refine ⟨_, rfl, _, _, _, _, _, rfl, .ty _, kd_ok rfl, kit_tuple _, _, rfl, ?_⟩
        refine iteF ?_
        have hst : (if z = "~" then _ else _) = some st1 := hst
        refine ⟨_, rfl, rfl, _, rfl, ite2 (fun h => ?_) (fun h => ?_)⟩
        · have h : z = "~" := V.str.inj (of_decide_eq_true h)
          rw [if_pos h] at hst
          obtain ⟨x, hx, rfl⟩ := Option.map_eq_some_iff.mp hst
          obtain ⟨v, hg, hvN, hN1, hp1⟩ := hN.pop hx
          refine ⟨_, rfl, .inl ⟨rfl, _, SqL.of hq2⟩, _, rfl, _, rfl, .inl ⟨rfl, _, SqL.of hq2⟩, q, ps, v, rfl, rfl, hq2, hg, e, x, rfl, hvN, ?_⟩
          have S3 := put_same S2 (o := .lst ps.dropLast) nq
          have hq3 : upd H2 q (.lst ps.dropLast) q = some (.lst ps.dropLast) := upd_same
          generalize upd H2 q (.lst ps.dropLast) = H3 at *
          refine ⟨q, ps.dropLast, _, rfl, rfl, hq3, by rw [List.length_dropLast]; omega, ?_⟩
          exact nxt _ _ _ (put_same S3 nq) upd_same (hN1.snoc (.inr rfl))
        have h1 : ¬ z = "~" := fun y => h (decide_eq_true (by rw [y]))
        rw [if_neg h1] at hst
        refine ⟨_, rfl, rfl, _, rfl, ite2 (fun h => ?_) (fun h => ?_)⟩
        · have h : z = "&" := V.str.inj (of_decide_eq_true h)
          rw [if_pos h] at hst
          obtain ⟨x, hx, hst⟩ := Option.bind_eq_some_iff.mp hst
          obtain ⟨y, hy, rfl⟩ := Option.map_eq_some_iff.mp hst
          obtain ⟨v, hg, hvN, hN1, hp1⟩ := hN.pop hx
          obtain ⟨u, hg2, huN, hN2, hp2⟩ := hN1.pop hy
          refine ⟨_, rfl, .inl ⟨rfl, _, SqL.of hq2⟩, q, ps, v, rfl, rfl, hq2, hg, ?_⟩
          have S3 := put_same S2 (o := .lst ps.dropLast) nq
          have hq3 : upd H2 q (.lst ps.dropLast) q = some (.lst ps.dropLast) := upd_same
          generalize upd H2 q (.lst ps.dropLast) = H3 at *
          refine ⟨_, rfl, .inl ⟨rfl, _, SqL.of hq3⟩, _, rfl, .inl ⟨rfl, _, SqL.of hq3⟩, q, _, u, rfl, rfl, hq3, hg2, _, rfl, y, x, huN, hvN, fun z hz => ?_⟩
          have S4 := put_same S3 (o := .lst ps.dropLast.dropLast) nq
          have hq4 : upd H3 q (.lst ps.dropLast.dropLast) q = some (.lst ps.dropLast.dropLast) := upd_same
          generalize upd H3 q (.lst ps.dropLast.dropLast) = H4 at *
          refine ⟨q, ps.dropLast.dropLast, z, rfl, rfl, hq4, by rw [List.length_dropLast, List.length_dropLast]; omega, ?_⟩
          exact nxt _ _ _ (put_same S4 nq) upd_same (hN2.snoc hz)
        have h2 : ¬ z = "&" := fun y => h (decide_eq_true (by rw [y]))
        rw [if_neg h2] at hst
        refine ⟨_, rfl, rfl, _, rfl, ite2 (fun h => ?_) (fun h => ?_)⟩
        · have h : z = "|" := V.str.inj (of_decide_eq_true h)
          rw [if_pos h] at hst
          obtain ⟨x, hx, hst⟩ := Option.bind_eq_some_iff.mp hst
          obtain ⟨y, hy, rfl⟩ := Option.map_eq_some_iff.mp hst
          obtain ⟨v, hg, hvN, hN1, hp1⟩ := hN.pop hx
          obtain ⟨u, hg2, huN, hN2, hp2⟩ := hN1.pop hy
          refine ⟨_, rfl, .inl ⟨rfl, _, SqL.of hq2⟩, q, ps, v, rfl, rfl, hq2, hg, ?_⟩
          have S3 := put_same S2 (o := .lst ps.dropLast) nq
          have hq3 : upd H2 q (.lst ps.dropLast) q = some (.lst ps.dropLast) := upd_same
          generalize upd H2 q (.lst ps.dropLast) = H3 at *
          refine ⟨_, rfl, .inl ⟨rfl, _, SqL.of hq3⟩, _, rfl, .inl ⟨rfl, _, SqL.of hq3⟩, q, _, u, rfl, rfl, hq3, hg2, _, rfl, y, x, huN, hvN, fun z hz => ?_⟩
          have S4 := put_same S3 (o := .lst ps.dropLast.dropLast) nq
          have hq4 : upd H3 q (.lst ps.dropLast.dropLast) q = some (.lst ps.dropLast.dropLast) := upd_same
          generalize upd H3 q (.lst ps.dropLast.dropLast) = H4 at *
          refine ⟨q, ps.dropLast.dropLast, z, rfl, rfl, hq4, by rw [List.length_dropLast, List.length_dropLast]; omega, ?_⟩
          exact nxt _ _ _ (put_same S4 nq) upd_same (hN2.snoc hz)
        have h3 : ¬ z = "|" := fun y => h (decide_eq_true (by rw [y]))
        rw [if_neg h3] at hst
        cases hst
        refine ⟨_, rfl, .inl ⟨rfl, _, SqL.of hq2⟩, ?_⟩
        refine ⟨_, rfl, rfl, _, rfl, ite2 (fun h => ?_) (fun h => ?_)⟩
        · have h : z = "every" := V.str.inj (of_decide_eq_true h)
          rw [if_pos h] at nxt
          exact ⟨_, rfl, q, ps, _, rfl, rfl, hq2, by omega, nxt _ _ _ (put_same S2 nq) upd_same (hN.snoc (.inr rfl))⟩
        · have h : ¬ z = "every" := fun y => h (decide_eq_true (by rw [y]))
          rw [if_neg h] at nxt
          exact ⟨q, ps, _, rfl, rfl, hq2, by omega, nxt _ _ _ (put_same S2 nq) upd_same (hN.snoc (.inr rfl))⟩
    · rintro σ H2 ⟨st, ps, t4, t5, rfl, S2, hq2, hN, hsi, hrn⟩
      rw [← hlen, List.drop_length] at hrn
      have e1 : st = [markT e G t] := Option.some.inj hrn
      subst e1
      obtain ⟨x, hx, hxN⟩ := hN.get' (i := 0) rfl
      exact ⟨_, rfl, q, _, 0, x, rfl, rfl, SqL.of hq2, atI_nat (j := 0) hx, k x H2 S2 hxN⟩
theorem sc_value_on : FnScope ["code", "row", "found", "item"] ["code", "row"] (defScope s_value_on) := ⟨rfl, rfl, rfl, by decide +kernel, rfl, by decide +kernel, by decide +kernel⟩
theorem ok_value_on {fh fm : Addr} {fdh fdm : FuncData} (F : FnP K "value_on" s_value_on f fd) (T : Free mg) (c_holds : Cal P w K mg base CX0 2 "holds" fh fdh ["test", "row"] (spHolds K)) (c_marks_from : Cal P w K mg base CX0 1 "marks_from" fm fdm ["code", "found", "everywhere"] (spMarks P w)) : FnOk P w K mg base CX0 3 f fd ["code", "row"] (spValueOn K) := by
  refine F.ok sc_value_on (fun vs H Q E h => ?_) (fun cdv A outer s H vs Q E hr h => ⟨_, PSs.nox (pss_cons (ps_if (pt_cmpR op_isN (pv 0) pe_non (nomark _))
 (pss_one (ps_ret pe_non))
 pss_nil)
 (pss_cons (ps_setDcT (i := 2) (own := [("item", 3)]) (hu0_of hr) rfl sc_value_on.nd rfl rfl (sw_trueD rfl rfl rfl (by decide +kernel)) (pi_list (pv 0)) (blkOk_by (N := ["code", "row", "found", "item"]) (sc := defScope s_value_on) (by decide +kernel)) (fun _ _ _ _ _ => (pg_name (i := 3) sc_value_on.nd rfl (Or.inl rfl))) (fun _ _ _ _ _ => (pts_one (pt_val (pe_callB (show CallR _ (.builtin "isinstance") (rIsi K) from call_isi) (by rfl) T.isinstance boot_isinstance (pa_cons (pv 3) (pa_cons (pe_bltn (v := .ty "tuple") (by rfl) T.tuple boot_tuple rfl) pa_nil)))))) (fun _ _ _ _ _ => (pv 3)) (fun _ _ _ _ _ => (pe_cal c_holds (hr.mono (by decide)) (pa_cons (pv 3) (pa_cons (pv 1) pa_nil)))))
 (pss_one (ps_ret (pe_cmpR (op_eqD (hu_of' hr)) (pe_cal c_marks_from (hr.mono (by decide)) (pa_cons (pv 0) (pa_cons (pv 2) (pa_cons pe_int pa_nil)))) pe_int (nomark _)))))), ?_⟩)
  · obtain ⟨v, q, o, r, rfl, _⟩ := h
    rfl
  · obtain ⟨v, q, o, r, rfl, hno, hso, hq, k⟩ := h
    refine ⟨_, rfl, rfl, _, rfl, ?_⟩
    cases o with
    | none =>
      obtain rfl := hno rfl
      exact iteT (k H (Same.refl _))
    | some t =>
      obtain ⟨l, xs, rfl, hl, hI, hn, hwf⟩ := hso t rfl
      refine iteF ?_
      have hlen := hI.1
      have hsl : (100000 : Nat) < sizeLine := by rw [sizeLine_eq]; omega
      refine ⟨_, rfl, l, rfl, ⟨_, SqL.of hl⟩, fun D nD => ?_⟩
      have S0 := same_newH (o := dTO P w D []) nD
      refine Own.walk_list (xs := xs) (fun i H' => FillAt P w H H' D (codeT t) r i) ⟨S0, [], upd_same, (fun _ h => nomatch h), (fun _ h => nomatch h), (fun j u hj => absurd hj (Nat.not_lt_zero j)), Nat.le_refl _⟩ (fun i H' _ h => SqL.of (h.S _ _ hl)) ?_ ?_
      · rintro i v H2 hi hF
        obtain ⟨it, hit, hv⟩ := hI.get hi
        have hv1 : ItmAt H2 it v := hv.lsts (.same hF.S)
        cases it with
        | ts u =>
          obtain ⟨p, rfl, hp, _⟩ := id hv1
          refine ⟨rfl, ?_⟩
          refine ⟨_, rfl, _, _, _, _, _, rfl, .ty _, kd_ok (kd_tup hp), kit_tuple _, _, rfl, ?_⟩
          refine iteT ?_
          obtain ⟨S2, ks, g1, g2, g3, g4, g5⟩ := hF
          have hil : i < (codeT t).length := (List.getElem?_eq_some_iff.mp hit).1
          have ha : H2 p = some (.tup ((tkey u).map lfV)) := by rw [tkey_v]; exact hp
          exact ⟨_, rfl, _, rfl, _, rfl, p, q, u, r, rfl, hp, tup_same S2 hq, hwf.tok (List.mem_of_getElem? hit), ks, tkey u, p, rfl, ha, g1, g2, by omega, FillAt.put S2 nD g1 g2 g3 g4 g5 hit ha⟩
        | wd z =>
          obtain rfl : v = V.str z := id hv1
          refine ⟨rfl, ?_⟩
          refine ⟨_, rfl, _, _, _, _, _, rfl, .ty _, kd_ok rfl, kit_tuple _, _, rfl, ?_⟩
          exact iteF (hF.skip hit)
      · rintro H2 hF
        rw [← hlen] at hF
        have S2 := hF.S
        refine ⟨_, rfl, _, rfl, l, D, xs, t, 1, _, r.length, rfl, S2 _ _ hl, hI.lsts (.same S2), hn, hwf, hF.fnd, fun v H3 S3 hN => ?_⟩
        rw [markT_one] at hN
        obtain ⟨d, hd, hs, he⟩ := eqv_num1 (K := K) (H := H3) hN
        refine ⟨d, .int 1, hd, .int 1, hs, rfl, ?_⟩
        rw [he, b2i_one]
        exact k H3 (S2.trans S3)
theorem sc_is_taken : FnScope ["code", "row"] ["code", "row"] (defScope s_is_taken) := ⟨rfl, rfl, rfl, by decide +kernel, rfl, by decide +kernel, by decide +kernel⟩
theorem ok_is_taken {fh : Addr} {fdh : FuncData} (F : FnP K "is_taken" s_is_taken f fd) (T : Free mg) (c_value_on : Cal P w K mg base CX0 3 "value_on" fh fdh ["code", "row"] (spValueOn K)) : FnOk P w K mg base CX0 4 f fd ["code", "row"] (spIsTaken K) := by
  refine F.ok sc_is_taken (fun vs H Q E h => ?_) (fun cdv A outer s H vs Q E hr h => ⟨_, PSs.nox (pss_one (ps_ret (pe_cmpR op_notF (pe_cal c_value_on (hr.mono (by decide)) (pa_cons (pv 0) (pa_cons (pv 1) pa_nil))) pe_bl (nomark _)))), ?_⟩)
  · obtain ⟨v, q, o, r, rfl, _⟩ := h
    rfl
  · obtain ⟨v, q, o, r, rfl, hno, hso, hq, k⟩ := h
    refine ⟨_, rfl, _, rfl, v, q, o, r, rfl, hno, hso, hq, fun H1 S1 => ?_⟩
    refine ⟨rfl, ?_⟩
    cases o with
    | none => exact .inl ⟨rfl, k H1 S1⟩
    | some t => exact .inr ⟨_, rfl, k H1 S1⟩

end
end K07

namespace Own
open PySem PySem.Spec PyProof.Rows L2
/-! ### ~x of an own class -/
def rUnOwn (C : Addr) (sp : Sp) (E : XK) : V → Hp → VK → Prop := fun x H Q => ∃ (a dx : Addr) (fs : List (Str × V)), x = .ref a ∧ H a = some (.ins C dx fs) ∧ sp [.ref a] H Q E
theorem un_inv_own {X : Cx} {n : Nat} {CX : CXT} {C f : Addr} {fd : FuncData} {ps : List Str} {sp : Sp} {E : XK} (F : FnOk X.prog X.w X.K X.mg X.base CX n f fd ps sp) (hm : Meth X.K C "__invert__" f) (hb : L2.Binds X.K fd ps []) (hx : Passes CX X E) (hr : Room n X.A) : UnR X (unaryOp .Invert) (rUnOwn C sp E) := by
  intro pins s σ H x v Q I rx h
  obtain ⟨a, dx, fs, rfl, ha, hsp⟩ := h
  obtain rfl : v = Value.ref a := rx
  obtain ⟨mA, J, _⟩ := ins_get I.hok ha
  obtain ⟨od, J, _⟩ := J.look
  have hK := I.kIn
  have hf := PySem.W.looks_findIn (M := model X.prog X.w) hK hm.at_
  unfold unaryOp
  refine wpAny_holding ?_
  show wpAny (model X.prog X.w) X.A (bind (callSpecial? (.ref a) "__invert__") _) _ _ _
  unfold callSpecial? specialOf
  refine wpAny_bind (wpAny_bind (wpAny_bind (J.type.here (hf.here ?_))))
  refine wpAny_holding (wpAny_bind ((PySem.W.bind_fn hK _ (beq_iff_eq.mp hm.fn)).here ?_))
  have r2 : Vals [V.ref a] [Value.ref a] := .cons rfl .nil
  refine wpAny_bind (thn (run_own (n := n) F hb hx hr I r2 hsp) fun u s1 ⟨z, H1, I1, rz, q⟩ => ?_)
  exact wpAny_pure (wpAny_pure ⟨z, H1, I1, rz, q⟩)
end Own

namespace Own
open PySem PySem.Spec PyProof.Rows L2
def spContainsF (C : Addr) : Sp := fun vs H Q _ => ∃ (p : Addr) (v : V) (cols : List Str), vs = [.ref p, v] ∧ TabF H C p cols ∧ Known H v ∧ ∀ H', Same H H' → Q (.bl (rowB H v (cols.length : Nat))) H'
/-- thing in cond -/
def spCondIn (CT C : Addr) : Sp := fun vs H Q _ => ∃ (p tb : Addr) (v : V) (cols : List Str) (o : Option Tr) (ws : Option (List Str)), vs = [.ref p, v] ∧ CondAt H C p tb o ws ∧ TabF H CT tb cols ∧ Known H v ∧ (∀ t, o = some t → (codeT t).length ≤ 100000 ∧ TrWf cols.length t) ∧
  (rowB H v (cols.length : Nat) = false → ∀ H', Same H H' → Q (.bl false) H') ∧ (∀ (q : Addr) (r : List Int), v = .ref q → H q = some (.tup (r.map V.int)) → r.length = cols.length → ∀ H', Same H H' → Q (.bl (takB r o)) H') ∧
  (rowB H v (cols.length : Nat) = true → ∃ (q : Addr) (r : List Int), v = .ref q ∧ H q = some (.tup (r.map V.int)) ∧ r.length = cols.length)
def spCondInv (CT C : Addr) : Sp := fun vs H Q _ => ∃ (p tb : Addr) (cols : List Str) (o : Option Tr) (ws : Option (List Str)), vs = [.ref p] ∧ CondAt H C p tb o ws ∧ TabF H CT tb cols ∧ (∀ c ∈ cols, c ∉ wordL) ∧ ∀ q H', Same H H' → CondAt H' C q tb (tNeg o) none → Q (.ref q) H'
end Own

namespace Own
open PySem PySem.Spec PyProof.Rows L2
/-! ### tokens of a text that is put together -/
theorem runEnd_shift (pre s : List Nat) (j lo hi : Nat) : runEnd (pre ++ s) (pre.length + j) lo hi = pre.length + runEnd s j lo hi := by
  unfold runEnd
  rw [show (pre ++ s).drop (pre.length + j) = s.drop j by rw [← List.drop_drop, List.drop_left]]
  omega
theorem get_shift (pre s : List Nat) (j : Nat) : (pre ++ s)[pre.length + j]? = s[j]? := by
  rw [List.getElem?_append_right (by omega)]
  congr 1
  omega
theorem tokEnd_shift (pre s : List Nat) (j : Nat) : tokEnd (pre ++ s) (pre.length + j) = pre.length + tokEnd s j := by
  have e1 : digAt (pre ++ s) (pre.length + j) = pre.length + digAt s j := by
    unfold digAt
    rw [get_shift]
    split <;> omega
  unfold tokEnd
  rw [e1, runEnd_shift, runEnd_shift, show (pre ++ s).drop (pre.length + j) = s.drop j by rw [← List.drop_drop, List.drop_left]]
  by_cases h1 : j < runEnd s j 97 122
  · rw [if_pos h1, if_pos (by omega)]
  · rw [if_neg h1, if_neg (by omega)]
    by_cases h2 : digAt s j < runEnd s (digAt s j) 48 57
    · rw [if_pos h2, if_pos (by omega)]
    · rw [if_neg h2, if_neg (by omega)]
      split <;> omega
def shT (n : Nat) (ps : List (List Nat × Nat)) : List (List Nat × Nat) := ps.map fun p => (p.1, p.2 + n)
theorem shT_shT (n m : Nat) (ps : List (List Nat × Nat)) : shT n (shT m ps) = shT (m + n) ps := by
  unfold shT
  rw [List.map_map]
  congr 1
  funext p
  show (p.1, p.2 + m + n) = (p.1, p.2 + (m + n))
  rw [Nat.add_assoc]
theorem shT_app (n : Nat) (a b : List (List Nat × Nat)) : shT n (a ++ b) = shT n a ++ shT n b := List.map_append
theorem toksF_shift (pre s : List Nat) : ∀ (n j : Nat), toksF (pre ++ s) n (pre.length + j) = shT pre.length (toksF s n j)
  | 0, j => rfl
  | n + 1, j => by
    unfold toksF
    rw [List.length_append, get_shift, tokEnd_shift, toksF_shift pre s n]
    by_cases h : j < s.length
    · rw [if_pos (by omega), if_pos h, shT_app]
      congr 1
      by_cases h2 : s[j]? = some 32
      · rw [if_pos h2, if_pos h2]
        rfl
      · rw [if_neg h2, if_neg h2]
        show _ = [_]
        rw [show (pre ++ s).drop (pre.length + j) = s.drop j by rw [← List.drop_drop, List.drop_left], show pre.length + tokEnd s j - (pre.length + j) = tokEnd s j - j by omega, Nat.add_comm pre.length j]
    · rw [if_neg (by omega), if_neg h]
      rfl
/-- the first token is taken off -/
theorem toks_first {t r : List Nat} (h : tokEnd (t ++ r) 0 = t.length) (hne : t ≠ []) (h32 : t.head? ≠ some 32) : toksL (t ++ r) = (t, 0) :: shT t.length (toksL r) := by
  have hl : 0 < t.length := List.length_pos_iff.mpr hne
  unfold toksL
  rw [toksF_step (by rw [List.length_append]; omega), h]
  have e : (t ++ r)[0]? = t.head? := by
    cases t with
    | nil => exact absurd rfl hne
    | cons c t => rfl
  rw [e, if_neg h32]
  have e2 : toksF (t ++ r) (t ++ r).length (t.length + 0) = shT t.length (toksF r (t ++ r).length 0) := toksF_shift t r _ 0
  rw [Nat.add_zero] at e2
  rw [e2, toksF_more r (t ++ r).length r.length 0 (by rw [List.length_append]; omega) (by omega)]
  rw [List.drop_zero, Nat.sub_zero, List.take_left]
  rfl
theorem toks_blank (r : List Nat) : toksL (32 :: r) = shT 1 (toksL r) := by
  have h : tokEnd (32 :: r) 0 = 1 := by
    unfold tokEnd
    have e1 : runEnd (32 :: r) 0 97 122 = 0 := runEnd_out (c := 32) rfl (by decide)
    have e2 : digAt (32 :: r) 0 = 0 := by unfold digAt; rw [if_neg (by show ¬ some 32 = some 45; decide)]
    have e3 : runEnd (32 :: r) 0 48 57 = 0 := runEnd_out (c := 32) rfl (by decide)
    rw [e1, e2, e3, if_neg (by omega), if_neg (by omega), if_neg]
    rw [List.drop_zero]
    intro m
    unfold longSigns at m
    simp only [List.mem_cons, List.not_mem_nil, or_false, List.take_succ_cons, List.cons.injEq] at m
    rcases m with m | m | m | m | m <;> exact absurd m.1 (by decide)
  unfold toksL
  rw [toksF_step (by rw [List.length_cons]; omega), h, if_pos (show (32 :: r)[0]? = some 32 from rfl), List.nil_append]
  have e2 : toksF ([32] ++ r) (32 :: r).length (([32] : List Nat).length + 0) = shT 1 (toksF r (32 :: r).length 0) := toksF_shift [32] r _ 0
  rw [show toksF (32 :: r) (32 :: r).length 1 = _ from e2, toksF_more r (32 :: r).length r.length 0 (by rw [List.length_cons]; omega) (by omega)]
/-- where a token ends behind which a blank stands, or nothing -/
def tokEnd0 (t : List Nat) : Nat :=
  if 0 < (t.takeWhile (inRun 97 122)).length then (t.takeWhile (inRun 97 122)).length
  else if 0 < ((t.drop (digAt t 0)).takeWhile (inRun 48 57)).length then digAt t 0 + ((t.drop (digAt t 0)).takeWhile (inRun 48 57)).length
  else if (t ++ [32]).take 2 ∈ longSigns then 2 else 1
def aloneB (t : List Nat) : Bool := !t.isEmpty && decide (t.head? ≠ some 32) && decide (tokEnd0 t = t.length)
theorem tw_app (p : Nat → Bool) (t r : List Nat) (h : ∀ c, r.head? = some c → p c = false) : (t ++ r).takeWhile p = t.takeWhile p := by
  induction t with
  | nil =>
    cases r with
    | nil => rfl
    | cons c r => rw [List.nil_append, List.takeWhile_cons, h c rfl]; rfl
  | cons a t ih => rw [List.cons_append, List.takeWhile_cons, List.takeWhile_cons, ih]
/-- what may stand behind a token for sure -/
def Free32 (r : List Nat) : Prop := r = [] ∨ ∃ q, r = 32 :: q
theorem tokEnd_alone {t r : List Nat} (h : aloneB t = true) (hr : Free32 r) : tokEnd (t ++ r) 0 = t.length := by
  unfold aloneB at h
  simp only [Bool.and_eq_true, decide_eq_true_eq] at h
  obtain ⟨⟨h1, h2⟩, h3⟩ := h
  have hne : t ≠ [] := fun e => by rw [e] at h1; cases h1
  obtain ⟨c0, t0, rfl⟩ : ∃ c t', t = c :: t' := by
    cases t with
    | nil => exact absurd rfl hne
    | cons c t => exact ⟨c, t, rfl⟩
  have hp : ∀ lo hi : Nat, 32 < lo → ∀ c, r.head? = some c → inRun lo hi c = false := fun lo hi hlo c hc => by
    rcases hr with rfl | ⟨q, rfl⟩
    · cases hc
    · cases hc
      unfold inRun
      rw [decide_eq_false (by omega), Bool.false_and]
  have e1 : runEnd (c0 :: t0 ++ r) 0 97 122 = ((c0 :: t0).takeWhile (inRun 97 122)).length := by
    unfold runEnd
    rw [List.drop_zero, tw_app _ _ _ (hp 97 122 (by decide)), Nat.zero_add]
  have e2 : digAt (c0 :: t0 ++ r) 0 = digAt (c0 :: t0) 0 := rfl
  have hd := digAt_ge (c0 :: t0) 0
  have e3 : runEnd (c0 :: t0 ++ r) (digAt (c0 :: t0) 0) 48 57 = digAt (c0 :: t0) 0 + (((c0 :: t0).drop (digAt (c0 :: t0) 0)).takeWhile (inRun 48 57)).length := by
    unfold runEnd
    rw [List.drop_append_of_le_length (by rw [List.length_cons]; omega), tw_app _ _ _ (hp 48 57 (by decide))]
  have e4 : (c0 :: t0 ++ r).take 2 ∈ longSigns ↔ (c0 :: t0 ++ [32]).take 2 ∈ longSigns := by
    cases t0 with
    | cons c1 t1 => exact Iff.rfl
    | nil =>
      rcases hr with rfl | ⟨q, rfl⟩
      · have n1 : ([c0] : List Nat) ∉ longSigns := by
          unfold longSigns
          simp
        have n2 : ([c0, 32] : List Nat) ∉ longSigns := by
          unfold longSigns
          simp
        exact ⟨fun z => absurd z n1, fun z => absurd z n2⟩
      · exact Iff.rfl
  unfold tokEnd
  unfold tokEnd0 at h3
  rw [e1, e2, e3]
  by_cases q1 : 0 < ((c0 :: t0).takeWhile (inRun 97 122)).length
  · rw [if_pos q1] at h3 ⊢
    exact h3
  · rw [if_neg q1] at h3 ⊢
    by_cases q2 : 0 < (((c0 :: t0).drop (digAt (c0 :: t0) 0)).takeWhile (inRun 48 57)).length
    · rw [if_pos q2] at h3
      rw [if_pos (by omega)]
      exact h3
    · rw [if_neg q2] at h3
      rw [if_neg (by omega), List.drop_zero]
      by_cases q3 : (c0 :: t0 ++ [32]).take 2 ∈ longSigns
      · rw [if_pos q3] at h3
        rw [if_pos (e4.mpr q3)]
        exact h3
      · rw [if_neg q3] at h3
        rw [if_neg (fun z => q3 (e4.mp z))]
        exact h3
theorem toks_alone {t r : List Nat} (h : aloneB t = true) (hr : Free32 r) : toksL (t ++ r) = (t, 0) :: shT t.length (toksL r) := by
  refine toks_first (tokEnd_alone h hr) ?_ ?_
  · intro e
    rw [e] at h
    cases h
  · unfold aloneB at h
    simp only [Bool.and_eq_true, decide_eq_true_eq] at h
    exact h.1.2
/-- behind it any text may be put -/
def Shut (s : List Nat) (ps : List (List Nat × Nat)) : Prop := ∀ r, toksL (s ++ r) = ps ++ shT s.length (toksL r)
theorem Shut.nil : Shut [] [] := fun r => by
  show toksL r = [] ++ shT 0 (toksL r)
  unfold shT
  rw [List.nil_append]
  exact (List.map_id _).symm
theorem Shut.app {s u : List Nat} {ps qs : List (List Nat × Nat)} (h : Shut s ps) (k : Shut u qs) : Shut (s ++ u) (ps ++ shT s.length qs) := fun r => by
  rw [List.append_assoc, h (u ++ r), k r, shT_app, shT_shT, List.length_append, List.append_assoc, Nat.add_comm]
theorem Shut.blank : Shut [32] [] := fun r => toks_blank r
theorem Shut.blanks : ∀ n, Shut (List.replicate n 32) []
  | 0 => .nil
  | n + 1 => (Shut.blank.app (Shut.blanks n))
theorem Shut.token {t : List Nat} (h : aloneB t = true) (n : Nat) : Shut (t ++ List.replicate (n + 1) 32) [(t, 0)] := fun r => by
  rw [List.append_assoc, toks_alone (r := List.replicate (n + 1) 32 ++ r) h (.inr ⟨List.replicate n 32 ++ r, rfl⟩), Shut.blanks (n + 1) r, List.nil_append, shT_shT, List.length_append, Nat.add_comm]
  rfl
theorem Shut.all {s : List Nat} {ps : List (List Nat × Nat)} (h : Shut s ps) : toksL s = ps := by
  have e := h []
  rw [List.append_nil, show toksL [] = [] from rfl] at e
  rw [e]
  exact List.append_nil _
theorem Shut.put {s t : List Nat} {ps : List (List Nat × Nat)} (h : Shut s ps) (ht : aloneB t = true) (n : Nat) : Shut (s ++ t ++ List.replicate (n + 1) 32) (ps ++ [(t, s.length)]) := by
  have e := h.app (Shut.token ht n)
  rw [← List.append_assoc] at e
  rw [show shT s.length [(t, 0)] = [(t, s.length)] by show [(t, 0 + s.length)] = _; rw [Nat.zero_add]] at e
  exact e
end Own

namespace Own
open PySem PySem.Spec PyProof.Rows L2
/-! ### a text of a condition, as it is put together; what its reading gives -/
inductive Tx where
  | ts (w s x : Str) | wd (w : Str) | neg (t : Tx) | par (t : Tx) | bin (s : Str) (l r : Tx)
def wordsX : Tx → List Str
  | .ts w s x => [w, s, x]
  | .wd w => [w]
  | .neg t => "~" :: wordsX t
  | .par t => "(" :: (wordsX t ++ [(")" : Str)])
  | .bin s l r => wordsX l ++ s :: wordsX r
def itemsX (cols : List Str) : Tx → List Itm
  | .ts w s x => [.ts (tstOf cols w s x)]
  | .wd w => [.wd w]
  | .neg t => .wd "~" :: itemsX cols t
  | .par t => .wd "(" :: (itemsX cols t ++ [.wd ")"])
  | .bin s l r => itemsX cols l ++ .wd s :: itemsX cols r
def treeX (cols : List Str) : Tx → Option Tr
  | .ts w s x => some (.lf (.ts (tstOf cols w s x)))
  | .wd w => if w = "blank" then none else some (.lf (.wd w))
  | .neg t => tNeg (treeX cols t)
  | .par t => treeX cols t
  | .bin s l r => tJoin s (treeX cols l) (treeX cols r)
def lvX : Tx → Nat
  | .bin s _ _ => rank s
  | _ => 3
def WfX (cols : List Str) : Tx → Prop
  | .ts w s x => w ∈ cols ∧ ((s ∈ (["=", "!="] : List Str) ∧ (x ∈ cols ∨ isNum x = true)) ∨ (s ∈ (["<", "<=", ">", ">="] : List Str) ∧ isNum x = true))
  | .wd w => w ∈ (["blank", "every", "none"] : List Str)
  | .neg t => WfX cols t ∧ lvX t = 3
  | .par t => WfX cols t
  | .bin s l r => (s = "&" ∨ s = "|") ∧ WfX cols l ∧ WfX cols r ∧ rank s ≤ lvX l ∧ rank s < lvX r
/-- what is placed, what still waits, behind the items of a text -/
def waitX : Tx → List Str
  | .ts _ _ _ => []
  | .wd _ => []
  | .neg t => waitX t ++ [("~" : Str)]
  | .par _ => []
  | .bin s l r => waitX r ++ [s]
def preX (cols : List Str) : Tx → List Itm
  | .ts w s x => [.ts (tstOf cols w s x)]
  | .wd w => [.wd w]
  | .neg t => preX cols t
  | .par t => preX cols t ++ (waitX t).map .wd
  | .bin s l r => preX cols l ++ (waitX l).map .wd ++ preX cols r
theorem rank_and : rank "&" = 2 := by decide
theorem rank_or : rank "|" = 1 := by decide
theorem rank_neg : rank "~" = 3 := by decide
theorem rank_lp : rank "(" = 0 := by decide
theorem one3 : 1 ≤ 3 ∧ 3 ≤ 3 := by decide
theorem lv_pos {cols : List Str} : ∀ {t : Tx}, WfX cols t → 1 ≤ lvX t ∧ lvX t ≤ 3
  | .ts _ _ _, _ => one3
  | .wd _, _ => one3
  | .neg _, _ => one3
  | .par _, _ => one3
  | .bin s _ _, h => by
    show 1 ≤ rank s ∧ rank s ≤ 3
    rcases h.1 with rfl | rfl <;> decide
theorem wait_rank {cols : List Str} : ∀ {t : Tx}, WfX cols t → ∀ w ∈ waitX t, lvX t ≤ rank w ∧ w ≠ "("
  | .ts _ _ _, _, w, h => by cases h
  | .wd _, _, w, h => by cases h
  | .neg t, ⟨h1, h2⟩, w, h => by
    rcases List.mem_append.mp h with h | h
    · have q := wait_rank h1 w h
      rw [h2] at q
      exact q
    · rw [List.mem_singleton.mp h]
      exact ⟨by show 3 ≤ _; rw [rank_neg]; decide, by decide⟩
  | .par _, _, w, h => by cases h
  | .bin s l r, ⟨hs, hl, hr, h1, h2⟩, w, h => by
    rcases List.mem_append.mp h with h | h
    · have q := wait_rank hr w h
      exact ⟨by show rank s ≤ _; omega, q.2⟩
    · rw [List.mem_singleton.mp h]
      exact ⟨Nat.le_refl _, by rcases hs with rfl | rfl <;> decide⟩
theorem popRank_all {r : Nat} : ∀ (ws : List Str) (pl : List Itm) (W : List Str), (∀ w ∈ ws, r ≤ rank w) → (∀ w, W.head? = some w → rank w < r) → popRank r pl (ws ++ W) = (pl ++ ws.map .wd, W)
  | [], pl, W, _, hW => by
    cases W with
    | nil => simp [popRank]
    | cons w W =>
      rw [List.nil_append, popRank_cons, if_neg (by have := hW w rfl; omega)]
      simp
  | w :: ws, pl, W, h, hW => by
    rw [List.cons_append, popRank_cons, if_pos (h w List.mem_cons_self), popRank_all ws _ W (fun x hx => h x (List.mem_cons_of_mem _ hx)) hW]
    simp
theorem popTo_all : ∀ (ws : List Str) (pl : List Itm) (W : List Str), (∀ w ∈ ws, w ≠ "(") → popTo pl (ws ++ ("(" : Str) :: W) = some (pl ++ ws.map .wd, W)
  | [], pl, W, _ => by
    show (if ("(" : Str) = "(" then _ else _) = _
    rw [if_pos rfl]
    simp
  | w :: ws, pl, W, h => by
    show (if w = "(" then _ else popTo (pl ++ [.wd w]) (ws ++ ("(" : Str) :: W)) = _
    rw [if_neg (h w List.mem_cons_self), popTo_all ws _ W (fun x hx => h x (List.mem_cons_of_mem _ hx))]
    simp
theorem sh_run {cols : List Str} : ∀ {t : Tx}, WfX cols t → ∀ (pl : List Itm) (W : List Str), (lvX t = 3 ∨ ∀ w, W.head? = some w → rank w < lvX t) → shRun (itemsX cols t) pl W = some (pl ++ preX cols t, waitX t ++ W)
  | .ts w s x, _, pl, W, _ => rfl
  | .wd w, h, pl, W, _ => by
    show (shStep pl W (.wd w)).bind _ = _
    rw [shStep_wd]
    have h : w = "blank" ∨ w = "every" ∨ w = "none" := by simpa [WfX] using h
    rcases h with rfl | rfl | rfl <;>
    · rw [if_neg (by decide), if_neg (by decide), if_neg (by decide)]
      rfl
  | .neg t, ⟨h1, h2⟩, pl, W, _ => by
    show (shStep pl W (.wd "~")).bind _ = _
    rw [shStep_wd, if_pos (by decide)]
    show shRun (itemsX cols t) pl ("~" :: W) = _
    rw [sh_run h1 pl _ (.inl h2)]
    show some (pl ++ preX cols t, waitX t ++ ("~" : Str) :: W) = some (pl ++ preX cols t, (waitX t ++ [("~" : Str)]) ++ W)
    rw [List.append_assoc]
    rfl
  | .par t, h, pl, W, _ => by
    have h : WfX cols t := h
    show (shStep pl W (.wd "(")).bind _ = _
    rw [shStep_wd, if_pos (by decide)]
    show shRun (itemsX cols t ++ [.wd ")"]) pl ("(" :: W) = _
    rw [shRun_app, sh_run h pl _ (.inr fun w e => by cases e; rw [rank_lp]; exact (lv_pos h).1)]
    show (shStep (pl ++ preX cols t) (waitX t ++ ("(" : Str) :: W) (.wd ")")).bind _ = _
    rw [shStep_wd, if_neg (by decide), if_pos rfl, popTo_all _ _ _ fun w hw => (wait_rank h w hw).2]
    show some (pl ++ preX cols t ++ (waitX t).map .wd, W) = some (pl ++ (preX cols t ++ (waitX t).map .wd), [] ++ W)
    rw [List.append_assoc]
    rfl
  | .bin s l r, ⟨hs, hl, hr, h1, h2⟩, pl, W, hW => by
    have hs2 : s ∈ (["&", "|"] : List Str) := by rcases hs with rfl | rfl <;> decide
    have hr3 : rank s < 3 := by rcases hs with rfl | rfl <;> decide
    have hW : ∀ w, W.head? = some w → rank w < rank s := by
      rcases hW with q | q
      · have q : rank s = 3 := q
        omega
      · exact q
    show shRun (itemsX cols l ++ .wd s :: itemsX cols r) pl W = _
    rw [shRun_app, sh_run hl pl W (by
      by_cases q : lvX l = 3
      · exact .inl q
      · exact .inr fun w e => by have := hW w e; omega)]
    show (shStep (pl ++ preX cols l) (waitX l ++ W) (.wd s)).bind (fun q => shRun (itemsX cols r) q.1 q.2) = _
    rw [shStep_wd, if_neg (by rcases hs with rfl | rfl <;> decide), if_neg (by rcases hs with rfl | rfl <;> decide), if_pos hs2,
      popRank_all _ _ _ (fun w hw => by have := (wait_rank hl w hw).1; omega) hW]
    show shRun (itemsX cols r) (pl ++ preX cols l ++ (waitX l).map .wd) (s :: W) = _
    rw [sh_run hr _ _ (.inr fun w e => by cases e; exact h2)]
    show some (pl ++ preX cols l ++ (waitX l).map .wd ++ preX cols r, waitX r ++ s :: W) = some (pl ++ (preX cols l ++ (waitX l).map .wd ++ preX cols r), (waitX r ++ [s]) ++ W)
    simp only [List.append_assoc, List.singleton_append, List.cons_append, List.nil_append]
def postX (cols : List Str) (t : Tx) : List Itm := preX cols t ++ (waitX t).map .wd
theorem t_run {cols : List Str} : ∀ {t : Tx}, WfX cols t → ∀ st, tRun (postX cols t) st = some (st ++ [treeX cols t])
  | .ts w s x, _, st => rfl
  | .wd w, h, st => by
    show (tStep st (.wd w)).bind _ = _
    rw [tStep_wd]
    have h : w = "blank" ∨ w = "every" ∨ w = "none" := by simpa [WfX] using h
    rcases h with rfl | rfl | rfl <;>
    · rw [if_neg (by decide), if_neg (by decide)]
      rfl
  | .neg t, ⟨h1, h2⟩, st => by
    show tRun (preX cols t ++ (waitX t ++ [("~" : Str)]).map .wd) st = _
    rw [List.map_append, ← List.append_assoc, tRun_app, show tRun (preX cols t ++ (waitX t).map .wd) st = _ from t_run h1 st]
    show (tStep (st ++ [treeX cols t]) (.wd "~")).bind _ = _
    rw [tStep_wd, if_pos rfl]
    simp [tRun, treeX]
  | .par t, h, st => by
    show tRun (preX cols t ++ (waitX t).map .wd ++ []) st = _
    rw [List.append_nil]
    exact t_run (t := t) h st
  | .bin s l r, ⟨hs, hl, hr, h1, h2⟩, st => by
    show tRun (preX cols l ++ (waitX l).map .wd ++ preX cols r ++ (waitX r ++ [s]).map .wd) st = _
    rw [List.map_append, show preX cols l ++ (waitX l).map Itm.wd ++ preX cols r ++ ((waitX r).map .wd ++ [s].map .wd) = postX cols l ++ (postX cols r ++ [.wd s]) by unfold postX; simp only [List.append_assoc, List.map_cons, List.map_nil]]
    rw [tRun_app, t_run hl, Option.bind_some, tRun_app, t_run hr]
    show (tStep (st ++ [treeX cols l] ++ [treeX cols r]) (.wd s)).bind _ = _
    rw [tStep_wd, if_neg (by rcases hs with rfl | rfl <;> decide), if_pos (by rcases hs with rfl | rfl <;> decide)]
    simp [tRun, treeX]
theorem tree_gram {cols : List Str} {t : Tx} (h : WfX cols t) : treeOf (itemsX cols t) = some (treeX cols t) := by
  unfold treeOf shunt
  rw [sh_run h [] [] (.inr fun w e => by cases e)]
  show (some ([] ++ preX cols t ++ ((waitX t ++ []).map .wd))).bind _ = _
  rw [List.nil_append, List.append_nil]
  show (tRun (postX cols t) []).bind _ = _
  rw [t_run h]
  rfl
theorem items_gram {cols : List Str} (hc : ∀ c ∈ cols, c ∉ wordL) : ∀ {t : Tx}, WfX cols t → Items cols (wordsX t) (itemsX cols t)
  | .ts w s x, ⟨h1, h2⟩ => .ts h1 (by
      rcases h2 with ⟨h, _⟩ | ⟨h, _⟩
      · have : s = "=" ∨ s = "!=" := by simpa using h
        rcases this with rfl | rfl <;> decide
      · have : s = "<" ∨ s = "<=" ∨ s = ">" ∨ s = ">=" := by simpa using h
        rcases this with rfl | rfl | rfl | rfl <;> decide) (by
      rcases h2 with ⟨_, h⟩ | ⟨_, h⟩
      · exact h
      · exact .inr h) .nil
  | .wd w, h => .wd (fun q => hc _ q (by
      have h : w = "blank" ∨ w = "every" ∨ w = "none" := by simpa [WfX] using h
      rcases h with rfl | rfl | rfl <;> decide)) .nil
  | .neg t, ⟨h1, _⟩ => .wd (fun q => hc _ q (by decide)) (items_gram hc h1)
  | .par t, h => .wd (fun q => hc _ q (by decide)) ((items_gram hc (t := t) h).app (.wd (fun q => hc _ q (by decide)) .nil))
  | .bin s l r, ⟨hs, hl, hr, _⟩ => (items_gram hc hl).app (.wd (fun q => hc _ q (by rcases hs with rfl | rfl <;> decide)) (items_gram hc hr))
theorem items_fun {cols ws : List Str} {a b : List Itm} (hs : ∀ s ∈ signL, s ∉ cols) (h : Items cols ws a) (k : Items cols ws b) : a = b := by
  induction h generalizing b with
  | nil => cases k; rfl
  | wd h t ih =>
    cases k with
    | wd h' t' => rw [ih t']
    | ts h' => exact absurd h' h
  | ts h s x t ih =>
    cases k with
    | wd h' t' => exact absurd h h'
    | ts h' s' x' t' => rw [ih t']
/-- a grammatical text is taken -/
theorem wrong_gram {cols : List Str} (hc : ∀ c ∈ cols, c ∉ wordL) {N : Nat} : ∀ {t : Tx}, WfX cols t → ∀ (ps rest : List (List Nat × Nat)) (d : Int), 0 ≤ d → pw ps = wordsX t → wrongAt isNum cols N (ps ++ rest) sATOM d = wrongAt isNum cols N rest sBEHIND d
  | .ts w s x, ⟨h1, h2⟩, ps, rest, d, hd, e => by
    obtain ⟨p1, q1, rfl, e1, r1⟩ := List.map_eq_cons_iff.mp e
    obtain ⟨p2, q2, rfl, e2, r2⟩ := List.map_eq_cons_iff.mp r1
    obtain ⟨p3, q3, rfl, e3, r3⟩ := List.map_eq_cons_iff.mp r2
    obtain rfl := List.map_eq_nil_iff.mp r3
    have nw : w ∉ wordL := hc w h1
    have nn : ∀ z ∈ wordL, w ≠ z := fun z hz q => nw (q ▸ hz)
    show wrongAt isNum cols N (p1 :: p2 :: p3 :: ([] ++ rest)) sATOM d = _
    rw [wrong_str (c := sSIGN) (by
      rw [e1, aft_atom]
      unfold aftAtom
      rw [if_neg (fun q => by rcases List.mem_cons.mp q with q | q; exact nn _ (by decide) q; exact nn _ (by decide) (List.mem_singleton.mp q)), if_neg (fun q => by
        have : w = "blank" ∨ w = "every" ∨ w = "none" := by simpa using q
        rcases this with q | q | q <;> exact nn _ (by decide) q), if_pos h1])]
    rw [e1, dep_of (nn _ (by decide)) (nn _ (by decide))]
    have fin : ∀ cm : Str, (cm = sSIDE ∨ cm = sNUMBER) → (isNum x = true ∨ (cm = sSIDE ∧ x ∈ cols)) → wrongAt isNum cols N (p3 :: ([] ++ rest)) cm d = wrongAt isNum cols N rest sBEHIND d := fun cm hcm hx => by
      rw [wrong_str (c := sBEHIND) (by
        rw [e3]
        unfold aft
        rw [if_neg (by rcases hcm with rfl | rfl <;> decide), if_neg (by rcases hcm with rfl | rfl <;> decide), if_neg (by rcases hcm with rfl | rfl <;> decide), if_pos hx])]
      rw [e3, show dep x d = d from ?_]
      · rfl
      · rcases hx with hx | ⟨_, hx⟩
        · exact num_dep hx
        · exact dep_of (fun q => hc x hx (by rw [q]; decide)) (fun q => hc x hx (by rw [q]; decide))
    rcases h2 with ⟨hs, hx⟩ | ⟨hs, hx⟩
    · rw [wrong_str (c := sSIDE) (by
        rw [e2, aft_sign]
        unfold aftCol
        rw [if_pos hs])]
      rw [e2, sign_dep (by
        have : s = "=" ∨ s = "!=" := by simpa using hs
        rcases this with rfl | rfl <;> decide)]
      exact fin _ (.inl rfl) (hx.elim (fun h => .inr ⟨rfl, h⟩) .inl)
    · have h4 : s = "<" ∨ s = "<=" ∨ s = ">" ∨ s = ">=" := by simpa using hs
      rw [wrong_str (c := sNUMBER) (by
        rw [e2, aft_sign]
        unfold aftCol
        rw [if_neg (by rcases h4 with rfl | rfl | rfl | rfl <;> decide), if_pos hs])]
      rw [e2, sign_dep (by rcases h4 with rfl | rfl | rfl | rfl <;> decide)]
      exact fin _ (.inr rfl) (.inl hx)
  | .wd w, h, ps, rest, d, hd, e => by
    obtain ⟨p1, q1, rfl, e1, r1⟩ := List.map_eq_cons_iff.mp e
    obtain rfl := List.map_eq_nil_iff.mp r1
    have h : w = "blank" ∨ w = "every" ∨ w = "none" := by simpa [WfX] using h
    show wrongAt isNum cols N (p1 :: ([] ++ rest)) sATOM d = _
    rw [wrong_str (c := sBEHIND) (by
      rw [e1, aft_atom]
      unfold aftAtom
      rw [if_neg (by rcases h with rfl | rfl | rfl <;> decide), if_pos (by rcases h with rfl | rfl | rfl <;> decide)])]
    rw [e1, dep_of (by rcases h with rfl | rfl | rfl <;> decide) (by rcases h with rfl | rfl | rfl <;> decide)]
    rfl
  | .neg t, ⟨h1, _⟩, ps, rest, d, hd, e => by
    obtain ⟨p1, q1, rfl, e1, r1⟩ := List.map_eq_cons_iff.mp e
    show wrongAt isNum cols N (p1 :: (q1 ++ rest)) sATOM d = _
    rw [wrong_str (c := sATOM) (by
      rw [e1, aft_atom]
      unfold aftAtom
      rw [if_pos (by decide)])]
    rw [e1, dep_of (by decide) (by decide)]
    exact wrong_gram hc h1 q1 rest d hd r1
  | .par t, h, ps, rest, d, hd, e => by
    obtain ⟨p1, q1, rfl, e1, r1⟩ := List.map_eq_cons_iff.mp e
    obtain ⟨q2, q3, rfl, r2, r3⟩ := List.map_eq_append_iff.mp r1
    obtain ⟨p4, q4, rfl, e4, r4⟩ := List.map_eq_cons_iff.mp r3
    obtain rfl := List.map_eq_nil_iff.mp r4
    show wrongAt isNum cols N (p1 :: (q2 ++ [p4] ++ rest)) sATOM d = _
    rw [wrong_str (c := sATOM) (by
      rw [e1, aft_atom]
      unfold aftAtom
      rw [if_pos (by decide)])]
    rw [e1, show dep "(" d = d + 1 from if_pos rfl, List.append_assoc, wrong_gram hc (t := t) h q2 ([p4] ++ rest) (d + 1) (by omega) r2]
    show wrongAt isNum cols N (p4 :: rest) sBEHIND (d + 1) = _
    rw [wrong_str (c := sBEHIND) (by
      rw [e4, aft_behind]
      unfold aftEnds
      rw [if_neg (by decide), if_pos ⟨rfl, by omega⟩])]
    rw [e4, show dep ")" (d + 1) = d from ?_]
    unfold dep
    rw [if_neg (by decide), if_pos rfl]
    omega
  | .bin s l r, ⟨hs, hl, hr, _⟩, ps, rest, d, hd, e => by
    obtain ⟨q2, q3, rfl, r2, r3⟩ := List.map_eq_append_iff.mp e
    obtain ⟨p4, q4, rfl, e4, r4⟩ := List.map_eq_cons_iff.mp r3
    rw [List.append_assoc, wrong_gram hc hl q2 _ d hd r2]
    show wrongAt isNum cols N (p4 :: (q4 ++ rest)) sBEHIND d = _
    rw [wrong_str (c := sATOM) (by
      rw [e4, aft_behind]
      unfold aftEnds
      rw [if_pos (by rcases hs with rfl | rfl <;> decide)])]
    rw [e4, dep_of (by rcases hs with rfl | rfl <;> decide) (by rcases hs with rfl | rfl <;> decide)]
    exact wrong_gram hc hr q4 rest d hd r4
/-- what the reading of a text gives whose tokens are those of t -/
theorem gram_text {cols : List Str} (hc : ∀ c ∈ cols, c ∉ wordL) (hs : ∀ s ∈ signL, s ∉ cols) {t : Tx} (h : WfX cols t) {z : Str} (hz : cwords z.cps.toList = wordsX t) :
    wrongAt isNum cols z.length (toksL z.cps.toList) sATOM 0 = .non ∧ ∀ its o, Items cols (cwords z.cps.toList) its → treeOf its = some o → o = treeX cols t := by
  refine ⟨?_, fun its o hi ho => ?_⟩
  · have e := wrong_gram hc (N := z.length) h (toksL z.cps.toList) [] 0 (Int.le_refl _) hz
    rw [List.append_nil] at e
    rw [e]
    unfold wrongAt
    rw [if_pos ⟨rfl, rfl⟩]
  · rw [hz] at hi
    rw [items_fun hs hi (items_gram hc h), tree_gram h] at ho
    exact (Option.some.inj ho).symm
/-! ### the value on a row: blank, true or false -/
abbrev Val3 := Option Bool
def join3 (s : Str) : Val3 → Val3 → Val3
  | none, r => r
  | some l, none => some l
  | some l, some r => some (if s = "&" then l && r else l || r)
def ov (r : List Int) (o : Option Tr) : Val3 := o.map (valT r)
theorem ov_join (r : List Int) (s : Str) (a b : Option Tr) : ov r (tJoin s a b) = join3 s (ov r a) (ov r b) := by
  cases a <;> cases b <;> rfl
theorem ov_neg (r : List Int) (a : Option Tr) : ov r (tNeg a) = (ov r a).map (!·) := by
  cases a <;> rfl
theorem takB_ov (r : List Int) (o : Option Tr) : takB r o = (ov r o).getD true := by cases o <;> rfl
def v3 : Val3 → V
  | none => .non
  | some b => .bl b
theorem valV_ov (r : List Int) (o : Option Tr) : valV r o = v3 (ov r o) := by cases o <;> rfl
def OTrWf (m : Nat) (o : Option Tr) : Prop := ∀ t, o = some t → (codeT t).length ≤ 100000 ∧ TrWf m t
theorem treeX_wf {cols : List Str} : ∀ {t : Tx}, WfX cols t → ∀ u, treeX cols t = some u → TrWf cols.length u ∧ (codeT u).length ≤ (wordsX t).length
  | .ts w s x, ⟨h1, h2⟩, u, e => by
    cases e
    refine ⟨?_, by show 1 ≤ 3; decide⟩
    have i1 : cols.idxOf w < cols.length := List.idxOf_lt_length_of_mem h1
    show TOk _ (tstOf cols w s x)
    unfold tstOf
    by_cases q : x ∈ cols
    · rw [if_pos q]
      exact ⟨i1, List.idxOf_lt_length_of_mem q⟩
    · rw [if_neg q]
      exact i1
  | .wd w, h, u, e => by
    have h : w = "blank" ∨ w = "every" ∨ w = "none" := by simpa [WfX] using h
    rcases h with rfl | rfl | rfl
    · cases e
    · cases e
      exact ⟨.inl rfl, Nat.le_refl _⟩
    · cases e
      exact ⟨.inr rfl, Nat.le_refl _⟩
  | .neg t, ⟨h1, _⟩, u, e => by
    obtain ⟨v, hv, rfl⟩ := Option.map_eq_some_iff.mp (show (treeX cols t).map Tr.neg = some u from e)
    have q := treeX_wf h1 v hv
    refine ⟨q.1, ?_⟩
    show (codeT v ++ [_]).length ≤ (_ :: wordsX t).length
    rw [List.length_append, List.length_singleton, List.length_cons]
    omega
  | .par t, h, u, e => by
    have q := treeX_wf (t := t) h u e
    refine ⟨q.1, ?_⟩
    show _ ≤ (_ :: (wordsX t ++ _)).length
    rw [List.length_cons, List.length_append]
    omega
  | .bin s l r, ⟨hs, hl, hr, _⟩, u, e => by
    have e : tJoin s (treeX cols l) (treeX cols r) = some u := e
    show _ ∧ _ ≤ (wordsX l ++ s :: wordsX r).length
    rw [List.length_append, List.length_cons]
    cases h1 : treeX cols l with
    | none =>
      rw [h1] at e
      have q := treeX_wf hr u e
      exact ⟨q.1, by omega⟩
    | some a =>
      have q1 := treeX_wf hl a h1
      cases h2 : treeX cols r with
      | none =>
        rw [h1, h2] at e
        cases e
        exact ⟨q1.1, by omega⟩
      | some b =>
        rw [h1, h2] at e
        cases e
        have q2 := treeX_wf hr b h2
        refine ⟨⟨hs, q1.1, q2.1⟩, ?_⟩
        show (codeT a ++ codeT b ++ [_]).length ≤ _
        rw [List.length_append, List.length_append, List.length_singleton]
        omega
end Own

namespace Own
open PySem PySem.Spec PyProof.Rows L2
/-! ### one & other, None & one, one &= other, of an own class -/
structure BinAt (K : PySem.W.Frag) (C : Addr) (op : Operator) : Prop where
  first : PySem.W.selfFirst K C = true
  r : ∃ g : Addr, PySem.W.findIn K (.ref C) (PySem.dunderR op.info.2) = some (some (.ref g))
  n1 : PySem.W.findIn K (.type "NoneType") (PySem.dunder op.info.2) = some none
  n2 : PySem.W.findIn K (.type "NoneType") (PySem.dunderR op.info.2) = some none
  sub : PySem.W.subIn K (.type "NoneType") (.ref C) = some false
def rBinOwn (C : Addr) (sp : Sp) (E : XK) : R2 := fun x y H Q => ∃ a dx fs, x = .ref a ∧ H a = some (.ins C dx fs) ∧ ((∃ b dx' fs', y = .ref b ∧ H b = some (.ins C dx' fs')) ∨ y = .non) ∧
  sp [.ref a, y] H (fun v H' => ∃ q, v = .ref q ∧ Q (.ref q) H') E
def rRBin (C : Addr) (sp : Sp) (E : XK) : R2 := fun x y H Q => ∃ a dx fs, x = .non ∧ y = .ref a ∧ H a = some (.ins C dx fs) ∧ sp [.ref a, .non] H (fun v H' => ∃ q, v = .ref q ∧ Q (.ref q) H') E
section
variable {X : Cx} {n : Nat} {CX : CXT} {C f : Addr} {fd : FuncData} {ps : List Str} {sp : Sp} {E : XK} {op : Operator}
theorem op_bin_own (Fn : FnOk X.prog X.w X.K X.mg X.base CX n f fd ps sp) (hm : Meth X.K C (PySem.dunder op.info.2) f) (B : BinAt X.K C op) (hb : Binds X.K fd ps []) (hx : Passes CX X E) (hr : Room n X.A) : OpR X (binaryOp op) (rBinOwn C sp E) := by
  intro pins s σ H x y v u Q I rx ry h
  obtain ⟨a, dx, fs, rfl, ha, hy, q⟩ := h
  obtain rfl : v = Value.ref a := rx
  obtain ⟨od, J⟩ := inst_at I ha
  obtain ⟨m, hF⟩ := I.fr
  obtain ⟨g, hg⟩ := B.r
  have back : wpAny (model X.prog X.w) X.A (call (.ref f) [.ref a, u]) (PySem.W.CmpBack (EP X pins σ Q)) X.xe s :=
    thn (run_at (A := X.A) ⟨hr, rfl⟩ Fn hb hx I (show Vals [V.ref a, y] [Value.ref a, u] from .cons rfl (.cons ry .nil)) q) fun w s1 ⟨z, H1, I1, rz, k, ez, q1⟩ => by
      subst ez
      obtain rfl : w = Value.ref k := rz
      exact ⟨.ref k, H1, I1, rfl, q1⟩
  rcases hy with ⟨b, dx', fs', rfl, hb'⟩ | rfl
  · obtain rfl : u = Value.ref b := ry
    obtain ⟨od', J'⟩ := inst_at I hb'
    exact PySem.W.binop_K hF I.ok.mod.kin J J'.type B.first hm.at_ hm.fn back
  · obtain rfl : u = Value.none := ry
    exact PySem.W.ksp_binT (T := "NoneType") hF I.ok.mod.kin J rfl B.first hm.at_ hm.fn hg (.inr ⟨g, rfl⟩) B.n1 B.n2 B.sub back
theorem ip_own (Fn : FnOk X.prog X.w X.K X.mg X.base CX n f fd ps sp) (hm : Meth X.K C (PySem.dunderI op.info.2) f) (hc : PySem.W.selfFirst X.K C = true) (hb : Binds X.K fd ps []) (hx : Passes CX X E) (hr : Room n X.A) :
    PIp X op (fun x y H Q => ∃ a dx fs, x = .ref a ∧ H a = some (.ins C dx fs) ∧ sp [.ref a, y] H (fun v H' => ∃ q, v = .ref q ∧ Q (.ref q) H') E) := by
  intro pins s σ H x y v u Q I rx ry h
  obtain ⟨a, dx, fs, rfl, ha, q⟩ := h
  obtain rfl : v = Value.ref a := rx
  obtain ⟨od, J⟩ := inst_at I ha
  obtain ⟨m, hF⟩ := I.fr
  have back : wpAny (model X.prog X.w) X.A (call (.ref f) [.ref a, u]) (PySem.W.CmpBack (EP X pins σ Q)) X.xe s :=
    thn (run_at (A := X.A) ⟨hr, rfl⟩ Fn hb hx I (show Vals [V.ref a, y] [Value.ref a, u] from .cons rfl (.cons ry .nil)) q) fun w s1 ⟨z, H1, I1, rz, k, ez, q1⟩ => by
      subst ez
      obtain rfl : w = Value.ref k := rz
      exact ⟨.ref k, H1, I1, rfl, q1⟩
  exact PySem.W.ksp_inplace hF I.ok.mod.kin J hc hm.at_ hm.fn back
end
end Own
namespace Own
open PySem PySem.Spec PyProof.Rows L2
section
variable {prog : Program} {w : World} {A : Around} {E : Value → Shared → Prop} {s : Shared} {K : PySem.W.Frag} {x C L f g : Addr} {h₀ : Heap} {m : Str → Option Value} {ox : Obj} {od : Option Obj}
open PySem.W in
theorem rbin_none {op : Operator} {Q : Value → Shared → Prop} (F : Fr h₀ L s.heap m) (X₀ : K.In h₀) (I : InstAt s.heap x ox C od) (hc : selfFirst K C = true)
    (hs : findIn K (.ref C) (PySem.dunder op.info.2) = some (some (.ref g))) (hr : findIn K (.ref C) (dunderR op.info.2) = some (some (.ref f))) (hf : isFn K (.ref f) = true)
    (h1 : findIn K (.type "NoneType") (PySem.dunder op.info.2) = some none) (h2 : findIn K (.type "NoneType") (dunderR op.info.2) = some none)
    (h : wpAny (model prog w) A (call (.ref f) [.ref x, .none]) (PySem.W.CmpBack Q) E s) : wpAny (model prog w) A (binaryOp op .none (.ref x)) Q E s := by
  have X := X₀.keeps F.keep
  obtain ⟨cd, rest, hcd, hm⟩ := ksp_first hc
  rcases hi : op.info with ⟨sym, nm'⟩
  rw [hi] at hs hr h1 h2
  dsimp only at hs hr h1 h2
  have one := ksp_try X I hr hf h
  obtain ⟨hh, g', d, tt, os⟩ := s
  have L1 : Looks (model prog w) hh (typeOf (.ref x)) (.ref C) := I.type
  have L2 : Looks (model prog w) hh (typeOf .none) (.type "NoneType") := Looks.of_pure rfl
  have L3 : Looks (model prog w) hh (fillsNumberSlot (.ref C) nm') true := fills_K X hcd hm hs
  have L4 : Looks (model prog w) hh (fillsNumberSlot (.type "NoneType") nm') ((none.isSome && !isSeqSlot none) || (none.isSome && !isSeqSlot none)) := ksp_fillsT X h1 h2
  have hne : (Value.type "NoneType" == Value.ref C) = false := Bool.eq_false_iff.mpr fun q => by cases beq_iff_eq.mp q
  simp only [binaryOp, hi]
  refine wpAny_holding (wpAny_bind ?_)
  unfold binaryOp1
  refine wpAny_bind (L2.at (wpAny_bind (L1.at (wpAny_bind (L4.at ?_)))))
  simp only [hne, Bool.false_eq_true, if_false]
  refine wpAny_bind (L3.at ?_)
  simp only [Option.isSome_none, Bool.false_and, Bool.or_self, Bool.false_eq_true, if_false]
  ksp_lk
  refine wpAny_mono one (fun r s' hr' => ?_) fun _ _ e => e
  obtain ⟨v, rfl, hq⟩ := hr'
  ksp_lk
  exact hq
end
section
variable {X : Cx} {n : Nat} {CX : CXT} {C f g : Addr} {fd : FuncData} {ps : List Str} {sp : Sp} {E : XK} {op : Operator}
theorem op_rbin_own (Fn : FnOk X.prog X.w X.K X.mg X.base CX n f fd ps sp) (hm : Meth X.K C (PySem.dunderR op.info.2) f) (hs : PySem.W.findIn X.K (.ref C) (PySem.dunder op.info.2) = some (some (.ref g))) (B : BinAt X.K C op) (hb : Binds X.K fd ps []) (hx : Passes CX X E) (hr : Room n X.A) : OpR X (binaryOp op) (rRBin C sp E) := by
  intro pins s σ H x y v u Q I rx ry h
  obtain ⟨a, dx, fs, rfl, rfl, ha, q⟩ := h
  obtain rfl : v = Value.none := rx
  obtain rfl : u = Value.ref a := ry
  obtain ⟨od, J⟩ := inst_at I ha
  obtain ⟨m, hF⟩ := I.fr
  have back : wpAny (model X.prog X.w) X.A (call (.ref f) [.ref a, .none]) (PySem.W.CmpBack (EP X pins σ Q)) X.xe s :=
    thn (run_at (A := X.A) ⟨hr, rfl⟩ Fn hb hx I (show Vals [V.ref a, V.non] [Value.ref a, Value.none] from .cons rfl (.cons rfl .nil)) q) fun w s1 ⟨z, H1, I1, rz, k, ez, q1⟩ => by
      subst ez
      obtain rfl : w = Value.ref k := rz
      exact ⟨.ref k, H1, I1, rfl, q1⟩
  exact rbin_none hF I.ok.mod.kin J B.first hs hm.at_ hm.fn B.n1 B.n2 back
end
end Own

namespace Own
open PySem PySem.Spec PyProof.Rows L2
/-! ### what the methods of a condition do -/
def spWithTree (CT C : Addr) : Sp := fun vs H Q _ => ∃ (tb : Addr) (tv : V) (cols : List Str) (o : Option Tr), vs = [.ref tb, tv] ∧ TabF H CT tb cols ∧ (∀ c ∈ cols, c ∉ wordL) ∧ OTr H o tv ∧ ∀ p H', Same H H' → H p = none → CondAt H' C p tb o none → Q (.ref p) H'
theorem blank_ok (cols : List Str) : wrongAt isNum cols (("blank" : Str)).length (toksL (("blank" : Str)).cps.toList) sATOM 0 = .non := by
  have e : toksL (("blank" : Str)).cps.toList = [("blank".toList.map Char.toNat, 0)] := by decide +kernel
  rw [e]
  have hw : (⟨("blank".toList.map Char.toNat).toArray⟩ : Str) = "blank" := by decide +kernel
  rw [wrong_str (c := sBEHIND) (by
    show aft isNum sATOM (⟨("blank".toList.map Char.toNat).toArray⟩ : Str) 0 cols = _
    rw [hw, aft_atom]
    unfold aftAtom
    rw [if_neg (by decide), if_pos (by decide)])]
  show wrongAt isNum cols _ [] sBEHIND (dep (⟨("blank".toList.map Char.toNat).toArray⟩ : Str) 0) = _
  rw [hw]
  unfold wrongAt dep
  exact if_pos (by decide)
/-- a condition of a table with such columns -/
def CondT (H : Hp) (CT C p : Addr) (cols : List Str) (o : Option Tr) : Prop := ∃ tb ws, CondAt H C p tb o ws ∧ TabF H CT tb cols
theorem CondT.lsts {H H' : Hp} {CT C p : Addr} {cols : List Str} {o : Option Tr} (e : Lsts H H') (h : CondT H CT C p cols o) : CondT H' CT C p cols o := let ⟨tb, ws, h1, h2⟩ := h; ⟨tb, ws, h1.lsts e, h2.lsts e⟩
theorem CondT.ins {H : Hp} {CT C p : Addr} {cols : List Str} {o : Option Tr} (h : CondT H CT C p cols o) : ∃ dx fs, H p = some (.ins C dx fs) := let ⟨_, _, ⟨dx, _, _, h1, _⟩, _⟩ := h; ⟨dx, _, h1⟩
/-- all but the instance at p stays -/
theorem CondAt.lsts' {H H' : Hp} {C p q tb dx : Addr} {fs : List (Str × V)} {o : Option Tr} {ws : Option (List Str)} (hp : H p = some (.ins C dx fs)) (e : Lsts' p H H') (n : q ≠ p) (h : CondAt H C q tb o ws) : CondAt H' C q tb o ws := by
  obtain ⟨dy, tv, wv, h1, h2, h3⟩ := h
  refine ⟨dy, tv, wv, e _ _ n h1, h2.lsts' hp e, ?_⟩
  cases ws with
  | none => exact h3
  | some l =>
    obtain ⟨t, q1, q2⟩ := h3
    exact ⟨t, q1, e _ _ (ne_of q2 hp nofun) q2⟩
theorem TabF.lsts' {H H' : Hp} {CT C p tb dx : Addr} {fs : List (Str × V)} {cols : List Str} (hp : H p = some (.ins C dx fs)) (e : Lsts' p H H') (n : tb ≠ p) (h : TabF H CT tb cols) : TabF H' CT tb cols := by
  obtain ⟨dt, t, h1, h2⟩ := h
  refine ⟨dt, t, e _ _ n h1, h2.lsts' e fun q => ?_⟩
  obtain ⟨o, q1, _⟩ := h2
  rw [q, hp] at q1
  cases q1
theorem tab_ne {H : Hp} {CT C p tb : Addr} {cols : List Str} {o : Option Tr} {tc : Addr} {ws : Option (List Str)} (hT : TabF H CT tb cols) (h : CondAt H C p tc o ws) : tb ≠ p := by
  obtain ⟨dt, t, h1, _⟩ := hT
  obtain ⟨dx, tv, wv, h2, _⟩ := h
  intro e
  rw [e, h2] at h1
  cases h1
/-- the other side of an operator: None, or a condition of a table with the same columns -/
def Operand (H : Hp) (CT C : Addr) (cols : List Str) (y : V) (oy : Option Tr) : Prop := (y = .non ∧ oy = none) ∨ ∃ q, y = .ref q ∧ CondT H CT C q cols oy
theorem Operand.lsts {H H' : Hp} {CT C : Addr} {cols : List Str} {y : V} {oy : Option Tr} (e : Lsts H H') (h : Operand H CT C cols y oy) : Operand H' CT C cols y oy := h.elim .inl fun ⟨q, h1, h2⟩ => .inr ⟨q, h1, h2.lsts e⟩
def spIsOperand (C : Addr) : Sp := fun vs H Q _ => ∃ y : V, vs = [y] ∧ (y = .non ∨ ∃ q dx fs, y = .ref q ∧ H q = some (.ins C dx fs)) ∧ Q (.bl true) H
def spTreeFor (CT C : Addr) : Sp := fun vs H Q _ => ∃ (tb : Addr) (y : V) (cols : List Str) (oy : Option Tr), vs = [.ref tb, y] ∧ TabF H CT tb cols ∧ (∀ c ∈ cols, PyData.strOk c = true) ∧ Operand H CT C cols y oy ∧ ∀ tv H', Same H H' → OTr H' oy tv → Q tv H'
def spOpT (CT C : Addr) (s : Str) : Sp := fun vs H Q _ => ∃ (p tb : Addr) (y : V) (cols : List Str) (o oy : Option Tr) (ws : Option (List Str)), vs = [.ref p, y] ∧ CondAt H C p tb o ws ∧ TabF H CT tb cols ∧ (∀ c ∈ cols, c ∉ wordL) ∧ (∀ c ∈ cols, PyData.strOk c = true) ∧ Operand H CT C cols y oy ∧
  ∀ q H', Same H H' → H q = none → CondAt H' C q tb (tJoin s o oy) none → Q (.ref q) H'
def spROp (CT C : Addr) : Sp := fun vs H Q _ => ∃ (p tb : Addr) (cols : List Str) (o : Option Tr) (ws : Option (List Str)), vs = [.ref p, .non] ∧ CondAt H C p tb o ws ∧ TabF H CT tb cols ∧ (∀ c ∈ cols, c ∉ wordL) ∧ ∀ q H', Same H H' → H q = none → CondAt H' C q tb o none → Q (.ref q) H'
def spInv (CT C : Addr) : Sp := fun vs H Q _ => ∃ (p tb : Addr) (cols : List Str) (o : Option Tr) (ws : Option (List Str)), vs = [.ref p] ∧ CondAt H C p tb o ws ∧ TabF H CT tb cols ∧ (∀ c ∈ cols, c ∉ wordL) ∧ ∀ q H', Same H H' → H q = none → CondAt H' C q tb (tNeg o) none → Q (.ref q) H'
/-- in place: the object on the left has the joint tree, or nothing has happened -/
def spIOp (CT C : Addr) (s : Str) : Sp := fun vs H Q _ => ∃ (p tb : Addr) (y : V) (cols : List Str) (o oy : Option Tr) (ws : Option (List Str)), vs = [.ref p, y] ∧ CondAt H C p tb o ws ∧ TabF H CT tb cols ∧ (∀ c ∈ cols, PyData.strOk c = true) ∧ Operand H CT C cols y oy ∧
  (y = .non → Q (.ref p) H) ∧ (y ≠ .non → ∀ H1 H', Same H H1 → Lsts' p H1 H' → CondAt H' C p tb (tJoin s o oy) none → Q (.ref p) H')
def spCondCall (K : PySem.W.Frag) (C : Addr) : Sp := fun vs H Q _ => ∃ (p q tb : Addr) (o : Option Tr) (ws : Option (List Str)) (r : List Int), vs = [.ref p, .ref q] ∧ CondAt H C p tb o ws ∧ SqT K H q (r.map V.int) ∧ OTrWf r.length o ∧ ∀ H', Same H H' → Q (valV r o) H'
def spCondBool (C : Addr) : Sp := fun vs H Q _ => ∃ (p tb : Addr) (o : Option Tr) (ws : Option (List Str)), vs = [.ref p] ∧ CondAt H C p tb o ws ∧ Q (.bl o.isSome) H
def spCondBlank (C : Addr) : Sp := fun vs H Q _ => ∃ (p tb : Addr) (o : Option Tr) (ws : Option (List Str)), vs = [.ref p] ∧ CondAt H C p tb o ws ∧ Q (.bl o.isNone) H
theorem tJoin_none (s : Str) (o : Option Tr) : tJoin s o none = o := by cases o <;> rfl
def spEqF (C : Addr) : Sp := fun vs H Q _ => ∃ (p : Addr) (y : V) (ys : List Str), vs = [.ref p, y] ∧ TabF H C p ys ∧ (∀ c ∈ ys, PyData.strOk c = true) ∧
  ((∃ q zs, y = .ref q ∧ TabF H C q zs ∧ (∀ c ∈ zs, PyData.strOk c = true) ∧ Q (.bl (decide (ys = zs))) H) ∨ (∃ t, kd H y = some t ∧ (t = .lst ∨ t = .tup ∨ t = .str) ∧ Q (.bl false) H))
end Own

namespace Own
open PySem PySem.Spec PyProof.Rows L2
/-! ### facts of error classes, as tests -/
def oexO (C : Addr) : Option Obj → Bool
  | some ⟨.type "type", _, .cls cd, sl⟩ => (match cd.mro, sl.toList with
    | .ref D :: bm, [_, _, _, _, some (.builtin n), _] => decide (D = C) && (decide (n = "ValueError.__new__") && (!cd.hasDel && (cd.hasDict && PySem.HandSPX.refsVE bm)))
    | _, _ => false)
  | _ => false
theorem oexO_ok {K : PySem.W.Frag} {C : Addr} (q : oexO C (K.lookup C) = true) :
    ∃ nm q N bs bm sn sub ab col dd k0 k1 k2 k3 k5, K.lookup C = some (excClassObj nm q C N bs bm true sn sub ab col dd k0 k1 k2 k3 k5 "ValueError.__new__") ∧ PySem.HandSPX.refsVE bm = true := by
  unfold oexO at q
  split at q
  · rename_i dd cd sl ho
    split at q
    · rename_i D bm k0 k1 k2 k3 n k5 hm hs
      simp only [Bool.and_eq_true, Bool.not_eq_true', decide_eq_true_eq] at q
      obtain ⟨rfl, rfl, hdel, hdict, hbm⟩ := q
      obtain ⟨nm, bs, mro, ns, qn, hd, sn, sub, ab, col, del⟩ := cd
      dsimp only at hm hdel hdict
      subst hm hdel hdict
      obtain ⟨sl⟩ := sl
      dsimp only at hs
      subst hs
      exact ⟨nm, qn, ns, bs, bm, sn, sub, ab, col, dd, k0, k1, k2, k3, k5, ho, hbm⟩
    · cases q
  · cases q
def oexB (K : PySem.W.Frag) (C : Addr) : Bool := oexO C (K.lookup C) && (He.eqO (PySem.W.findIn K (.ref C) "__setattr__") (some (some (.builtin "object.__setattr__"))) && (decide (PySem.W.subIn K (.ref C) (.type "BaseException") = some true) && (decide (PySem.W.typeIn K (.ref C) = some (.type "type")) && PySem.W.keepIn K (.ref C))))
theorem oexB_ok {K : PySem.W.Frag} {C : Addr} (h : oexB K C = true) : OexC K C := by
  obtain ⟨h1, h⟩ := Bool.and_eq_true_iff.mp h
  obtain ⟨h2, h⟩ := Bool.and_eq_true_iff.mp h
  obtain ⟨h3, h⟩ := Bool.and_eq_true_iff.mp h
  obtain ⟨h4, h5⟩ := Bool.and_eq_true_iff.mp h
  exact ⟨oexO_ok h1, He.eqO_ok h2, of_decide_eq_true h3, of_decide_eq_true h4, h5⟩
def baseB (K : PySem.W.Frag) (B : Addr) : Bool := PySem.W.readsIn K B (.type "type") && (He.eqO (PySem.W.specialIn K (.ref B) "__getattribute__") (some (some (.builtin "type.__getattribute__"))) && (match PySem.W.findCls K (.ref B) (.type "type") "__init__" with
  | some (.val (.builtin n)) => decide (n = "ValueError.__init__")
  | _ => false))
theorem baseB_ok {K : PySem.W.Frag} {B : Addr} (h : baseB K B = true) : BaseI K B := by
  obtain ⟨h1, h⟩ := Bool.and_eq_true_iff.mp h
  obtain ⟨h2, h3⟩ := Bool.and_eq_true_iff.mp h
  refine ⟨⟨h1, He.eqO_ok h2⟩, ?_⟩
  clear h h1 h2
  split at h3
  · rename_i n e
    rw [e, of_decide_eq_true h3]
  · cases h3
def excCB (K : PySem.W.Frag) (D : Addr) : Bool := xfB K D && (He.eqO (PySem.W.findIn K (.ref D) "__class__") (some (some (.builtin "object.__class__"))) && (He.eqO (PySem.W.specialIn K (.builtin "object.__class__") "__get__") (some (some (.builtin "getset_descriptor.__get__"))) &&
  (decide (PySem.W.takesIn K (.builtin "object.__class__") = some true) && decide (PySem.W.mroIn K D (.type "object") = some true))))
theorem excCB_ok {K : PySem.W.Frag} {D : Addr} (h : excCB K D = true) : XfC K D ∧ ExcC K D := by
  obtain ⟨h1, h⟩ := Bool.and_eq_true_iff.mp h
  obtain ⟨h2, h⟩ := Bool.and_eq_true_iff.mp h
  obtain ⟨h3, h⟩ := Bool.and_eq_true_iff.mp h
  obtain ⟨h4, h5⟩ := Bool.and_eq_true_iff.mp h
  have x := xfB_ok h1
  exact ⟨x, ⟨x.ga, x.gg, x.exC, x.hdC, He.eqO_ok h2, He.eqO_ok h3, of_decide_eq_true h4, of_decide_eq_true h5⟩⟩
end Own

namespace Own
open PySem PySem.Spec PyProof.Rows L2
/-! ### more facts for heads: ==, !=; operators; properties, classmethods and their defs -/
def neqB (K : PySem.W.Frag) (C : Addr) : Bool := He.eqO (PySem.W.findIn K (.ref C) "__class__") (some (some (.builtin "object.__class__"))) && (He.eqO (PySem.W.specialIn K (.builtin "object.__class__") "__get__") (some (some (.builtin "getset_descriptor.__get__"))) &&
  (decide (PySem.W.takesIn K (.builtin "object.__class__") = some true) && (decide (PySem.W.mroIn K C (.type "object") = some true) && (He.eqO (PySem.W.findIn K (.ref C) "__ne__") (some (some (.builtin "object.__ne__"))) &&
  ((["list", "tuple", "str"] : List String).all fun t => decide (PySem.W.kitOne K (.type t) (.ref C) = some false) && PySem.W.notFirst K C (.type t))))))
theorem neq_at {K : PySem.W.Frag} {C : Addr} (c : Cls K C) (h : neqB K C = true) : NeAt K C := by
  unfold neqB at h
  obtain ⟨h1, h⟩ := Bool.and_eq_true_iff.mp h
  obtain ⟨h2, h⟩ := Bool.and_eq_true_iff.mp h
  obtain ⟨h3, h⟩ := Bool.and_eq_true_iff.mp h
  obtain ⟨h4, h⟩ := Bool.and_eq_true_iff.mp h
  obtain ⟨h5, h⟩ := Bool.and_eq_true_iff.mp h
  have q := List.all_eq_true.mp h
  have qL := Bool.and_eq_true_iff.mp (q "list" (by simp))
  have qT := Bool.and_eq_true_iff.mp (q "tuple" (by simp))
  have qS := Bool.and_eq_true_iff.mp (q "str" (by simp))
  exact ⟨c, He.eqO_ok h1, He.eqO_ok h2, of_decide_eq_true h3, of_decide_eq_true h4, He.eqO_ok h5, of_decide_eq_true qL.1, of_decide_eq_true qT.1, of_decide_eq_true qS.1, qL.2, qT.2, qS.2⟩
def opB (K : PySem.W.Frag) (C : Addr) (nm rnm : Str) : Bool := PySem.W.selfFirst K C && ((match PySem.W.findIn K (.ref C) rnm with
  | some (some (.ref _)) => true
  | _ => false) && (He.eqO (PySem.W.findIn K (.type "NoneType") nm) (some none) && (He.eqO (PySem.W.findIn K (.type "NoneType") rnm) (some none) && decide (PySem.W.subIn K (.type "NoneType") (.ref C) = some false))))
theorem op_at {K : PySem.W.Frag} {C : Addr} {op : Operator} {nm rnm : Str} (h : opB K C nm rnm = true) (e1 : PySem.dunder op.info.2 = nm) (e2 : PySem.dunderR op.info.2 = rnm) : BinAt K C op := by
  unfold opB at h
  obtain ⟨h1, h⟩ := Bool.and_eq_true_iff.mp h
  obtain ⟨h2, h⟩ := Bool.and_eq_true_iff.mp h
  obtain ⟨h3, h⟩ := Bool.and_eq_true_iff.mp h
  obtain ⟨h4, h5⟩ := Bool.and_eq_true_iff.mp h
  refine ⟨h1, ?_, by rw [e1]; exact He.eqO_ok h3, by rw [e2]; exact He.eqO_ok h4, of_decide_eq_true h5⟩
  rw [e2]
  split at h2
  · rename_i g e
    exact ⟨g, e⟩
  · cases h2
/-- the def within a property, a classmethod -/
def recA (K : PySem.W.Frag) (C : Addr) (f : Str) (kind : String) : Addr × Addr := match PySem.W.findIn K (.ref C) f with
  | some (some (.ref p)) => (match PySem.W.recIn K p kind with
    | some (.ref g :: _) => (p, g)
    | _ => (p, 0))
  | _ => (0, 0)
def seeF (K : PySem.W.Frag) (g : Addr) : Option FuncData := (K.lookup g).bind fun o => match o.data with
  | .func fd => some fd
  | _ => none
def whatF (fd : FuncData) : Str × Str × Arguments × FuncBody × Scope × Addr × List (Str × Addr) × Addr := (fd.name, fd.qualname, fd.params, fd.body, fd.scope, fd.globals, fd.closure, fd.builtins)
def seenF (K : PySem.W.Frag) (g : Addr) : He.FnW := (seeF K g).map whatF
def fitF (K : PySem.W.Frag) (g : Addr) (q : Str) : Bool := PySem.W.keepIn K (.ref g) && (match seeF K g with
  | some fd => PySem.W.codeIn K fd.code q && (He.dflB K fd.defaults [] && He.kwdB K fd.kwdefaults [])
  | none => false)
theorem fun_at {K : PySem.W.Frag} {g : Addr} {d : He.DefD} (e : seenF K g = d.val) (c : fitF K g d.qual = true) : ∃ fd, FunD K d.name d.qual d.params d.body d.scope [] [] g fd := by
  obtain ⟨kp, c⟩ := Bool.and_eq_true_iff.mp c
  obtain ⟨fd, hf, hw⟩ := Option.map_eq_some_iff.mp (show (seeF K g).map whatF = some _ from e)
  rw [hf] at c
  obtain ⟨c1, c⟩ := Bool.and_eq_true_iff.mp c
  obtain ⟨c2, c3⟩ := Bool.and_eq_true_iff.mp c
  obtain ⟨o, ho, hd⟩ := Option.bind_eq_some_iff.mp hf
  obtain ⟨oc, od, dt, osl⟩ := o
  have hd : dt = .func fd := by
    cases dt <;> first | (cases hd; rfl) | cases hd
  subst hd
  obtain ⟨n1, n2, n3, n4, n5, n6, n7, n8, n9, n10, n11, n12, n13, n14, n15⟩ := fd
  simp only [whatF, Prod.mk.injEq] at hw
  obtain ⟨rfl, rfl, rfl, rfl, rfl, rfl, rfl, rfl⟩ := hw
  exact ⟨_, ⟨oc, od, n8, n9, n10, n11, n12, n13, n14, osl, rfl, ho, c1, He.dflB_ok c2, He.kwdB_ok c3⟩, kp⟩
/-- a property of a class -/
def propB (K : PySem.W.Frag) (C : Addr) (f : Str) : Bool := He.eqO (PySem.W.findIn K (.ref C) f) (some (some (.ref (recA K C f "property").1))) && (He.eqO (PySem.W.specialIn K (.ref (recA K C f "property").1) "__get__") (some (some (.builtin "property.__get__"))) &&
  (decide (PySem.W.takesIn K (.ref (recA K C f "property").1) = some true) && (match PySem.W.recIn K (recA K C f "property").1 "property" with
    | some (.ref g :: _) => decide (g = (recA K C f "property").2)
    | _ => false)))
theorem prop_at {K : PySem.W.Frag} {C : Addr} {f : Str} (h : propB K C f = true) : PropOf K C f (recA K C f "property").1 (recA K C f "property").2 := by
  unfold propB at h
  obtain ⟨h1, h⟩ := Bool.and_eq_true_iff.mp h
  obtain ⟨h2, h⟩ := Bool.and_eq_true_iff.mp h
  obtain ⟨h3, h4⟩ := Bool.and_eq_true_iff.mp h
  refine ⟨He.eqO_ok h1, He.eqO_ok h2, of_decide_eq_true h3, ?_⟩
  split at h4
  · rename_i g r e
    exact ⟨r, by rw [e, of_decide_eq_true h4]⟩
  · cases h4
/-- a class whose objects may be called -/
def callB (K : PySem.W.Frag) (C : Addr) : Bool := He.eqO (PySem.W.findIn K (.ref C) "__call__") (some (some (.ref (He.ma K C "__call__")))) && (PySem.W.isFn K (.ref (He.ma K C "__call__")) && PySem.W.fnIn K (He.ma K C "__call__"))
theorem call_at {K : PySem.W.Frag} {C : Addr} (h : callB K C = true) : StX.CallO K C (He.ma K C "__call__") := by
  unfold callB at h
  obtain ⟨h1, h⟩ := Bool.and_eq_true_iff.mp h
  obtain ⟨h2, h3⟩ := Bool.and_eq_true_iff.mp h
  exact ⟨He.eqO_ok h1, h2, h3⟩
/-- a def that is held where it stands -/
structure CalG (P : Program) (w : World) (K : PySem.W.Frag) (mg : Str → Option Value) (base : Heap) (CX : CXT) (k : Nat) (g : Addr) (fd : FuncData) (ps : List Str) (sp : Sp) : Prop where
  ok : FnOk P w K mg base CX k g fd ps sp
  b : Binds K fd ps []
theorem CalG.raw {P : Program} {w : World} {K : PySem.W.Frag} {mg : Str → Option Value} {base : Heap} {CX : CXT} {k : Nat} {g : Addr} {fd : FuncData} {ps : List Str} {sp : Sp} (c : CalG P w K mg base CX k g fd ps sp) : FnR P w K mg base CX k g sp :=
  FnR.imp (FnOk.raw c.ok c.b .nil) fun vs H Q E h => by rw [List.append_nil]; exact h
section
variable {X : Cx} {k : Nat} {C g p : Addr} {fd : FuncData} {ps : List Str} {sp : Sp} {e fe : Expr} {es : List Expr} {pos : Pos} {f : Str} {ta tf : TE} {t : TA}
/-- e.f, a property by its name -/
theorem pe_propG (he : PE X e ta) (c : Cls X.K C) (hp : PropOf X.K C f p g) (F : CalG X.prog X.w X.K X.mg X.base CX0 k g fd ps sp) (hr : Room (k + 1) X.A) (hab : attributeBase e f X.env (eval e X.env) = eval e X.env := by rfl) : PE X (.Attribute e f pos) (tProp C sp [] E0 ta) :=
  pe_prop he c hp F.ok hr F.b .nil pass0 hab
theorem pe_callG (hf : PE X fe tf) (c : StX.CallO X.K C g) (F : CalG X.prog X.w X.K X.mg X.base CX0 k g fd ps sp) (hr : Room k X.A) (ha : PA X (e :: es) t)
    (ht : eval (.Call fe (e :: es) [] pos) X.env = (do callWith pos (← eval fe X.env) [] (backTo pos (starEach (e :: es) X.env)) (backToKw pos (keywordEach [] X.env))) := by rfl)
    (he : starEach (e :: es) X.env = (false, eval e X.env) :: starEach es X.env := by rfl) (hpl : (backTo pos (starEach es X.env)).any (·.1) = false := by rfl) : PE X (.Call fe (e :: es) [] pos) (StX.tCallO X C sp E0 tf t) :=
  StX.pe_callO hf c F.raw hr pass0 ha ht he hpl
end
end Own
namespace Own
open PySem PySem.Spec PyProof.Rows L2
/-- cond(e, ..), where cond gives an instance of C -/
def tCallC (C : Addr) (sp : Sp) (tf : TE) (t : TA) : TE := fun σ H Q => tf σ H fun y H1 => ∃ a, y = V.ref a ∧ t σ H1 fun vs H2 => (∃ dx fs, H2 a = some (.ins C dx fs)) ∧ sp (V.ref a :: vs) H2 Q E0
theorem pe_callC {X : Cx} {k : Nat} {C g : Addr} {fd : FuncData} {ps : List Str} {sp : Sp} {e fe : Expr} {es : List Expr} {pos : Pos} {tf : TE} {t : TA} (hf : PE X fe tf) (c : StX.CallO X.K C g) (F : CalG X.prog X.w X.K X.mg X.base CX0 k g fd ps sp) (hr : Room k X.A) (ha : PA X (e :: es) t)
    (ht : eval (.Call fe (e :: es) [] pos) X.env = (do callWith pos (← eval fe X.env) [] (backTo pos (starEach (e :: es) X.env)) (backToKw pos (keywordEach [] X.env))) := by rfl)
    (he : starEach (e :: es) X.env = (false, eval e X.env) :: starEach es X.env := by rfl) (hpl : (backTo pos (starEach es X.env)).any (·.1) = false := by rfl) : PE X (.Call fe (e :: es) [] pos) (tCallC C sp tf t) := by
  constructor
  intro pins s0 σ H0 Q I0 hq
  refine Call_ (thn (hf.run pins s0 σ H0 _ I0 hq) fun u1 s1 ⟨y1, H1, I1, r1, a1, e1, q1⟩ => ?_) ht
  cases e1
  cases r1
  refine StX.callO_with (thn (ha.run pos pins s1 σ H1 _ I1 q1) fun us s2 ⟨vs, H2, I2, r2, ⟨dx, fs, hi⟩, q2⟩ => ?_) he hpl
  have hI : StX.InsC X H2 a1 C := .inr ⟨dx, fs, hi⟩
  obtain ⟨ox, od, J, hd⟩ := StX.insC_at I2 hI
  exact ⟨⟨C, ox, od, J, hd⟩, StX.run_callO c F.raw hr pass0 I2 hI r2 q2⟩
end Own

namespace K07
open PySem PySem.Spec PyProof.Rows L2 Own
structure TxN (mg : Str → Option Value) (CT C : Addr) : Prop extends Free mg where
  g_Table : mg "Table" = some (.ref CT)
  g_Cond : mg "Cond" = some (.ref C)
section
variable {P : Program} {w : World} {K : PySem.W.Frag} {mg : Str → Option Value} {base : Heap} {f C : Addr} {fd : FuncData}
theorem sc_with_tree : FnScope ["table", "tree", "made"] ["table", "tree"] (defScope s_with_tree) := ⟨rfl, rfl, rfl, by decide +kernel, rfl, by decide +kernel, by decide +kernel⟩
theorem ok_with_tree {CT CB fi : Addr} {fdi : FuncData} (F : FnP K "with_tree" s_with_tree f fd) (T : Free mg) (TD : TxD K C) (c_Cond : CalI P w K mg base (L2.CX P w) 6 "Cond" C fi fdi ["self", "text", "table"] (spCondX K CT C CB)) : FnOk P w K mg base (L2.CX P w) 8 f fd ["table", "tree"] (spWithTree CT C) := by
  refine F.ok sc_with_tree (fun vs H Q E h => ?_) (fun cdv A outer s H vs Q E hr h => ⟨_, (pss_cons (ps_set (i := 2) sc_with_tree.nd rfl (Or.inl rfl) (pe_mkrX c_Cond (hr.mono (by decide)) (takes_of rfl rfl rfl rfl) (pa_cons pe_str (pa_cons (pv 0) pa_nil))))
 (pss_cons (ps_fld (pv 2) (pv 1) rfl)
 (pss_cons (ps_fld (pv 2) pe_non rfl)
 (pss_one (ps_ret (pv 2)))))), ?_⟩)
  · obtain ⟨tb, tv, cols, o, rfl, _⟩ := h
    rfl
  · obtain ⟨tb, tv, cols, o, rfl, hT, hw, ho, k⟩ := h
    refine ⟨_, rfl, fun p dx np ndx hne => ?_⟩
    have S0 : Same H (upd (upd H dx (.own p)) p (.ins C dx [])) := (same_newH ndx).trans (same_newH (by rw [upd_ne hne.symm]; exact np))
    refine ⟨p, tb, dx, .str "blank", .str, cols, rfl, upd_same, hT.lsts (.same S0), hw, rfl, (fun z e => by cases e; decide +kernel), (fun q => absurd rfl q), ?_, ?_⟩
    · rintro z its o' ez _ _ _ H1 B1 ⟨d1, tv1, wv1, hp1, _, _⟩
      have S1 : Same H H1 := made_same np ndx B1
      refine ⟨rfl, ?_⟩
      refine ⟨_, rfl, _, rfl, p, C, d1, _, rfl, hp1, TD.cl, TD.nTr, (by show 3 < 1000; decide), ?_⟩
      have hp2 : upd H1 p (.ins C d1 (putF "_tree" tv [("table", .ref tb), ("_tree", tv1), ("_words", wv1)])) p = some (.ins C d1 [("table", .ref tb), ("_tree", tv), ("_words", wv1)]) := upd_same
      have S2 := put_same S1 (o := .ins C d1 (putF "_tree" tv [("table", .ref tb), ("_tree", tv1), ("_words", wv1)])) np
      generalize upd H1 p (.ins C d1 (putF "_tree" tv [("table", .ref tb), ("_tree", tv1), ("_words", wv1)])) = H2 at *
      refine ⟨_, rfl, p, C, d1, _, rfl, hp2, TD.cl, TD.nW, (by show 3 < 1000; decide), ?_⟩
      have S3 := put_same S2 (o := .ins C d1 (putF "_words" V.non [("table", .ref tb), ("_tree", tv), ("_words", wv1)])) np
      exact ⟨_, rfl, k p _ S3 np ⟨d1, tv, .non, upd_same, ho.lsts (.same S3), rfl⟩⟩
    · rintro z i ez hwr
      cases ez
      rw [blank_ok] at hwr
      cases hwr
theorem sc_Tableeq : FnScope ["self", "other"] ["self", "other"] (defScope s_Tableeq) := ⟨rfl, rfl, rfl, by decide +kernel, rfl, by decide +kernel, by decide +kernel⟩
theorem ok_TableeqF {CT : Addr} (F : FnM K "__eq__" "Table.__eq__" s_Tableeq f fd) (T : TxN mg CT C) (TC : TxC K CT) (N : NeAt K CT) : FnOk P w K mg base CX0 1 f fd ["self", "other"] (spEqF CT) := by
  refine F.ok sc_Tableeq (fun vs H Q E h => ?_) (fun cdv A outer s H vs Q E hr h => ⟨_, PSs.nox (pss_one (ps_ret (pe_and (pe_callB call_isi (by rfl) T.isinstance boot_isinstance (pa_cons (pv 1) (pa_cons (pe_glob (v := .ref _) (by rfl) T.g_Table rfl) pa_nil))) (pe_one (pe_cmpR (op_eqD (hu_of' hr)) (pe_fld (pv 0) rfl) (pe_fld (pv 1) rfl) (nomark _)))))), ?_⟩)
  · obtain ⟨p, y, ys, rfl, _⟩ := h
    rfl
  · obtain ⟨p, y, ys, rfl, ⟨dx, t, hp, ht⟩, hw, k⟩ := h
    rcases k with ⟨q, zs, rfl, ⟨dy, u, hq, hu⟩, hz, k⟩ | ⟨t1, ht1, h3, k⟩
    · have kC : PySem.W.kitOne K (.ref CT) (.ref CT) = some true := by
        unfold PySem.W.kitOne
        rw [if_pos (beq_self_eq_true _)]
      refine ⟨_, rfl, _, _, _, _, _, rfl, .own _, N.ty hq, kC, _, rfl, iteT ?_⟩
      refine ⟨_, rfl, p, CT, dx, _, _, rfl, hp, TC.cl, TC.nC, rfl, _, rfl, q, CT, dy, _, _, rfl, hq, TC.cl, TC.nC, rfl, ?_⟩
      refine ⟨_, _, .tup ht.seq (dp_strs ys), .tup hu.seq (dp_strs zs), strs_shapedT (List.all_eq_true.mpr hw), strs_shapedT (List.all_eq_true.mpr hz), ?_⟩
      rw [eqv_tups]
      exact k
    · have kC : PySem.W.kitOne K (.type t1.nm) (.ref CT) = some false := by
        rcases h3 with rfl | rfl | rfl
        · exact N.kL
        · exact N.kT
        · exact N.kS
      refine ⟨_, rfl, _, _, _, _, _, rfl, .own _, kd_ok ht1, kC, _, rfl, iteF ?_⟩
      exact k
theorem sc_is_operand : FnScope ["thing"] ["thing"] (defScope s_is_operand) := ⟨rfl, rfl, rfl, by decide +kernel, rfl, by decide +kernel, by decide +kernel⟩
theorem ok_is_operand {CT : Addr} (F : FnP K "is_operand" s_is_operand f fd) (T : TxN mg CT C) (N : NeAt K C) : FnOk P w K mg base CX0 1 f fd ["thing"] (spIsOperand C) := by
  refine F.ok sc_is_operand (fun vs H Q E h => ?_) (fun cdv A outer s H vs Q E hr h => ⟨_, PSs.nox (pss_one (ps_ret (pe_or (pe_cmpR op_isN (pv 0) pe_non (nomark _)) (pe_one (pe_callB call_isi (by rfl) T.isinstance boot_isinstance (pa_cons (pv 0) (pa_cons (pe_glob (v := .ref _) (by rfl) T.g_Cond rfl) pa_nil))))))), ?_⟩)
  · obtain ⟨y, rfl, _⟩ := h
    rfl
  · obtain ⟨y, rfl, hy, k⟩ := h
    rcases hy with rfl | ⟨q, dx, fs, rfl, hq⟩
    · exact ⟨_, rfl, rfl, _, rfl, iteT k⟩
    · have kC : PySem.W.kitOne K (.ref C) (.ref C) = some true := by
        unfold PySem.W.kitOne
        rw [if_pos (beq_self_eq_true _)]
      refine ⟨_, rfl, rfl, _, rfl, iteF ?_⟩
      exact ⟨_, rfl, _, _, _, _, _, rfl, .own _, N.ty hq, kC, k⟩
theorem sc_tree_for : FnScope ["table", "cond"] ["table", "cond"] (defScope s_tree_for) := ⟨rfl, rfl, rfl, by decide +kernel, rfl, by decide +kernel, by decide +kernel⟩
theorem ok_tree_for {CT fe : Addr} {fde : FuncData} (F : FnP K "tree_for" s_tree_for f fd) (T : TxN mg CT C) (TD : TxD K C) (NT : NeAt K CT) (c_Tableeq : CalM P w K mg base CX0 1 CT "__eq__" fe fde ["self", "other"] (spEqF CT)) : FnOk P w K mg base CX0 3 f fd ["table", "cond"] (spTreeFor CT C) := by
  refine F.ok sc_tree_for (fun vs H Q E h => ?_) (fun cdv A outer s H vs Q E hr h => ⟨_, PSs.nox (pss_cons (ps_if (pt_cmpR op_isN (pv 1) pe_non (nomark _))
 (pss_one (ps_ret pe_non))
 pss_nil)
 (pss_cons (ps_if (pt_cmpR (op_ne_cal NT c_Tableeq (hr.mono (by decide))) (pe_fld (pv 1) rfl) (pv 0) (nomark _))
 (pss_one ps_never)
 pss_nil)
 (pss_one (ps_ret (pe_fld (pv 1) rfl))))), ?_⟩)
  · obtain ⟨tb, y, cols, oy, rfl, _⟩ := h
    rfl
  · obtain ⟨tb, y, cols, oy, rfl, hT, hok, hy, k⟩ := h
    rcases hy with ⟨rfl, rfl⟩ | ⟨q, rfl, tb2, ws, ⟨dx, tv, wv, hq, ho, _⟩, hT2⟩
    · exact ⟨_, rfl, rfl, _, rfl, iteT (k .non H (Same.refl _) rfl)⟩
    · refine ⟨_, rfl, rfl, _, rfl, iteF ?_⟩
      obtain ⟨dt, t, htb, _⟩ := id hT
      obtain ⟨dt2, t2, htb2, _⟩ := id hT2
      refine ⟨_, rfl, q, C, dx, _, _, rfl, hq, TD.cl, TD.nT, rfl, _, rfl, tb2, dt2, _, .ref CT, rfl, htb2, NT.ty htb, NT.self, tb2, .ref tb, cols, rfl, hT2, hok, .inl ⟨tb, cols, rfl, hT, hok, _, rfl, ?_⟩⟩
      rw [decide_eq_true (rfl : cols = cols)]
      refine ⟨_, rfl, iteF ?_⟩
      exact ⟨_, rfl, q, C, dx, _, _, rfl, hq, TD.cl, TD.nTr, rfl, k _ _ (Same.refl _) ho⟩
theorem sc_Condand : FnScope ["self", "other"] ["self", "other"] (defScope s_Condand) := ⟨rfl, rfl, rfl, by decide +kernel, rfl, by decide +kernel, by decide +kernel⟩
theorem ok_Condand {CT fi ft fj fw : Addr} {fdi fdt fdj fdw : FuncData} (F : FnM K "__and__" "Cond.__and__" s_Condand f fd) (T : Free mg) (TD : TxD K C) (c_is_operand : Cal P w K mg base CX0 1 "is_operand" fi fdi ["thing"] (spIsOperand C)) (c_tree_for : Cal P w K mg base CX0 3 "tree_for" ft fdt ["table", "cond"] (spTreeFor CT C))
    (c_joined : Cal P w K mg base CX0 1 "joined" fj fdj ["sign", "left", "right"] spJoin) (c_with_tree : Cal P w K mg base CX0 8 "with_tree" fw fdw ["table", "tree"] (spWithTree CT C)) : FnOk P w K mg base CX0 9 f fd ["self", "other"] (spOpT CT C "&") := by
  refine F.ok sc_Condand (fun vs H Q E h => ?_) (fun cdv A outer s H vs Q E hr h => ⟨_, PSs.nox (pss_cons (ps_if (pt_not (pt_val (pe_cal c_is_operand (hr.mono (by decide)) (pa_cons (pv 1) pa_nil))))
 (pss_one ps_never)
 pss_nil)
 (pss_one (ps_ret (pe_cal c_with_tree (hr.mono (by decide)) (pa_cons (pe_fld (pv 0) rfl) (pa_cons (pe_cal c_joined (hr.mono (by decide)) (pa_cons pe_str (pa_cons (pe_fld (pv 0) rfl) (pa_cons (pe_cal c_tree_for (hr.mono (by decide)) (pa_cons (pe_fld (pv 0) rfl) (pa_cons (pv 1) pa_nil))) pa_nil)))) pa_nil)))))), ?_⟩)
  · obtain ⟨p, tb, y, cols, o, oy, ws, rfl, _⟩ := h
    rfl
  · obtain ⟨p, tb, y, cols, o, oy, ws, rfl, ⟨dx, tv, wv, hp, ho, hwv⟩, hT, hw, hok, hy, k⟩ := h
    refine ⟨_, rfl, y, rfl, hy.elim (fun z => .inl z.1) (fun ⟨q, e, hc⟩ => .inr (let ⟨dx, fs, z⟩ := hc.ins; ⟨q, dx, fs, e, z⟩)), _, rfl, iteF ?_⟩
    refine ⟨_, rfl, p, C, dx, _, _, rfl, hp, TD.cl, TD.nT, rfl, _, rfl, p, C, dx, _, _, rfl, hp, TD.cl, TD.nTr, rfl, _, rfl, p, C, dx, _, _, rfl, hp, TD.cl, TD.nT, rfl, _, rfl, tb, y, cols, oy, rfl, hT, hok, hy, fun tv2 H1 S1 ho1 => ?_⟩
    refine ⟨_, tv, tv2, o, oy, rfl, ho.lsts (.same S1), ho1, fun tv3 H2 S2 ho2 => ?_⟩
    exact ⟨tb, tv3, cols, _, rfl, hT.lsts (.same (S1.trans S2)), hw, ho2, fun q H3 S3 nq hc => k q H3 (S1.trans (S2.trans S3)) ((S1.trans S2).free nq) hc⟩
theorem sc_Condor : FnScope ["self", "other"] ["self", "other"] (defScope s_Condor) := ⟨rfl, rfl, rfl, by decide +kernel, rfl, by decide +kernel, by decide +kernel⟩
theorem ok_Condor {CT fi ft fj fw : Addr} {fdi fdt fdj fdw : FuncData} (F : FnM K "__or__" "Cond.__or__" s_Condor f fd) (T : Free mg) (TD : TxD K C) (c_is_operand : Cal P w K mg base CX0 1 "is_operand" fi fdi ["thing"] (spIsOperand C)) (c_tree_for : Cal P w K mg base CX0 3 "tree_for" ft fdt ["table", "cond"] (spTreeFor CT C))
    (c_joined : Cal P w K mg base CX0 1 "joined" fj fdj ["sign", "left", "right"] spJoin) (c_with_tree : Cal P w K mg base CX0 8 "with_tree" fw fdw ["table", "tree"] (spWithTree CT C)) : FnOk P w K mg base CX0 9 f fd ["self", "other"] (spOpT CT C "|") := by
  refine F.ok sc_Condor (fun vs H Q E h => ?_) (fun cdv A outer s H vs Q E hr h => ⟨_, PSs.nox (pss_cons (ps_if (pt_not (pt_val (pe_cal c_is_operand (hr.mono (by decide)) (pa_cons (pv 1) pa_nil))))
 (pss_one ps_never)
 pss_nil)
 (pss_one (ps_ret (pe_cal c_with_tree (hr.mono (by decide)) (pa_cons (pe_fld (pv 0) rfl) (pa_cons (pe_cal c_joined (hr.mono (by decide)) (pa_cons pe_str (pa_cons (pe_fld (pv 0) rfl) (pa_cons (pe_cal c_tree_for (hr.mono (by decide)) (pa_cons (pe_fld (pv 0) rfl) (pa_cons (pv 1) pa_nil))) pa_nil)))) pa_nil)))))), ?_⟩)
  · obtain ⟨p, tb, y, cols, o, oy, ws, rfl, _⟩ := h
    rfl
  · obtain ⟨p, tb, y, cols, o, oy, ws, rfl, ⟨dx, tv, wv, hp, ho, hwv⟩, hT, hw, hok, hy, k⟩ := h
    refine ⟨_, rfl, y, rfl, hy.elim (fun z => .inl z.1) (fun ⟨q, e, hc⟩ => .inr (let ⟨dx, fs, z⟩ := hc.ins; ⟨q, dx, fs, e, z⟩)), _, rfl, iteF ?_⟩
    refine ⟨_, rfl, p, C, dx, _, _, rfl, hp, TD.cl, TD.nT, rfl, _, rfl, p, C, dx, _, _, rfl, hp, TD.cl, TD.nTr, rfl, _, rfl, p, C, dx, _, _, rfl, hp, TD.cl, TD.nT, rfl, _, rfl, tb, y, cols, oy, rfl, hT, hok, hy, fun tv2 H1 S1 ho1 => ?_⟩
    refine ⟨_, tv, tv2, o, oy, rfl, ho.lsts (.same S1), ho1, fun tv3 H2 S2 ho2 => ?_⟩
    exact ⟨tb, tv3, cols, _, rfl, hT.lsts (.same (S1.trans S2)), hw, ho2, fun q H3 S3 nq hc => k q H3 (S1.trans (S2.trans S3)) ((S1.trans S2).free nq) hc⟩
theorem sc_Condrand : FnScope ["self", "other"] ["self", "other"] (defScope s_Condrand) := ⟨rfl, rfl, rfl, by decide +kernel, rfl, by decide +kernel, by decide +kernel⟩
theorem ok_Condrand {CT fw : Addr} {fdw : FuncData} (F : FnM K "__rand__" "Cond.__rand__" s_Condrand f fd) (T : Free mg) (TD : TxD K C) (c_with_tree : Cal P w K mg base CX0 8 "with_tree" fw fdw ["table", "tree"] (spWithTree CT C)) : FnOk P w K mg base CX0 9 f fd ["self", "other"] (spROp CT C) := by
  refine F.ok sc_Condrand (fun vs H Q E h => ?_) (fun cdv A outer s H vs Q E hr h => ⟨_, PSs.nox (pss_cons (ps_if (pt_cmpR op_notN (pv 1) pe_non (nomark _))
 (pss_one ps_never)
 pss_nil)
 (pss_one (ps_ret (pe_cal c_with_tree (hr.mono (by decide)) (pa_cons (pe_fld (pv 0) rfl) (pa_cons (pe_fld (pv 0) rfl) pa_nil)))))), ?_⟩)
  · obtain ⟨p, tb, cols, o, ws, rfl, _⟩ := h
    rfl
  · obtain ⟨p, tb, cols, o, ws, rfl, ⟨dx, tv, wv, hp, ho, hwv⟩, hT, hw, k⟩ := h
    refine ⟨_, rfl, rfl, _, rfl, iteF ?_⟩
    exact ⟨_, rfl, p, C, dx, _, _, rfl, hp, TD.cl, TD.nT, rfl, _, rfl, p, C, dx, _, _, rfl, hp, TD.cl, TD.nTr, rfl, tb, tv, cols, o, rfl, hT, hw, ho, k⟩
theorem sc_Condror : FnScope ["self", "other"] ["self", "other"] (defScope s_Condror) := ⟨rfl, rfl, rfl, by decide +kernel, rfl, by decide +kernel, by decide +kernel⟩
theorem ok_Condror {CT fw : Addr} {fdw : FuncData} (F : FnM K "__ror__" "Cond.__ror__" s_Condror f fd) (T : Free mg) (TD : TxD K C) (c_with_tree : Cal P w K mg base CX0 8 "with_tree" fw fdw ["table", "tree"] (spWithTree CT C)) : FnOk P w K mg base CX0 9 f fd ["self", "other"] (spROp CT C) := by
  refine F.ok sc_Condror (fun vs H Q E h => ?_) (fun cdv A outer s H vs Q E hr h => ⟨_, PSs.nox (pss_cons (ps_if (pt_cmpR op_notN (pv 1) pe_non (nomark _))
 (pss_one ps_never)
 pss_nil)
 (pss_one (ps_ret (pe_cal c_with_tree (hr.mono (by decide)) (pa_cons (pe_fld (pv 0) rfl) (pa_cons (pe_fld (pv 0) rfl) pa_nil)))))), ?_⟩)
  · obtain ⟨p, tb, cols, o, ws, rfl, _⟩ := h
    rfl
  · obtain ⟨p, tb, cols, o, ws, rfl, ⟨dx, tv, wv, hp, ho, hwv⟩, hT, hw, k⟩ := h
    refine ⟨_, rfl, rfl, _, rfl, iteF ?_⟩
    exact ⟨_, rfl, p, C, dx, _, _, rfl, hp, TD.cl, TD.nT, rfl, _, rfl, p, C, dx, _, _, rfl, hp, TD.cl, TD.nTr, rfl, tb, tv, cols, o, rfl, hT, hw, ho, k⟩
theorem sc_Condinvert : FnScope ["self"] ["self"] (defScope s_Condinvert) := ⟨rfl, rfl, rfl, by decide +kernel, rfl, by decide +kernel, by decide +kernel⟩
theorem ok_Condinvert {CT fw fn : Addr} {fdw fdn : FuncData} (F : FnM K "__invert__" "Cond.__invert__" s_Condinvert f fd) (T : Free mg) (TD : TxD K C) (c_with_tree : Cal P w K mg base CX0 8 "with_tree" fw fdw ["table", "tree"] (spWithTree CT C)) (c_negated : Cal P w K mg base CX0 1 "negated" fn fdn ["tree"] spNeg) : FnOk P w K mg base CX0 9 f fd ["self"] (spInv CT C) := by
  refine F.ok sc_Condinvert (fun vs H Q E h => ?_) (fun cdv A outer s H vs Q E hr h => ⟨_, PSs.nox (pss_one (ps_ret (pe_cal c_with_tree (hr.mono (by decide)) (pa_cons (pe_fld (pv 0) rfl) (pa_cons (pe_cal c_negated (hr.mono (by decide)) (pa_cons (pe_fld (pv 0) rfl) pa_nil)) pa_nil))))), ?_⟩)
  · obtain ⟨p, tb, cols, o, ws, rfl, _⟩ := h
    rfl
  · obtain ⟨p, tb, cols, o, ws, rfl, ⟨dx, tv, wv, hp, ho, hwv⟩, hT, hw, k⟩ := h
    refine ⟨_, rfl, p, C, dx, _, _, rfl, hp, TD.cl, TD.nT, rfl, _, rfl, p, C, dx, _, _, rfl, hp, TD.cl, TD.nTr, rfl, tv, o, rfl, ho, fun v' H1 S1 ho1 => ?_⟩
    exact ⟨tb, v', cols, tNeg o, rfl, hT.lsts (.same S1), hw, ho1, fun q H2 S2 nq hc => k q H2 (S1.trans S2) (S1.free nq) hc⟩
theorem sc_Condiand : FnScope ["self", "other"] ["self", "other"] (defScope s_Condiand) := ⟨rfl, rfl, rfl, by decide +kernel, rfl, by decide +kernel, by decide +kernel⟩
theorem ok_Condiand {CT fi ft fj : Addr} {fdi fdt fdj : FuncData} (F : FnM K "__iand__" "Cond.__iand__" s_Condiand f fd) (T : Free mg) (TD : TxD K C) (c_is_operand : Cal P w K mg base CX0 1 "is_operand" fi fdi ["thing"] (spIsOperand C)) (c_tree_for : Cal P w K mg base CX0 3 "tree_for" ft fdt ["table", "cond"] (spTreeFor CT C))
    (c_joined : Cal P w K mg base CX0 1 "joined" fj fdj ["sign", "left", "right"] spJoin) : FnOk P w K mg base CX0 4 f fd ["self", "other"] (spIOp CT C "&") := by
  refine F.ok sc_Condiand (fun vs H Q E h => ?_) (fun cdv A outer s H vs Q E hr h => ⟨_, PSs.nox (pss_cons (ps_if (pt_not (pt_val (pe_cal c_is_operand (hr.mono (by decide)) (pa_cons (pv 1) pa_nil))))
 (pss_one ps_never)
 pss_nil)
 (pss_cons (ps_if (pt_cmpR op_notN (pv 1) pe_non (nomark _))
 (pss_cons (ps_fld (pv 0) (pe_cal c_joined (hr.mono (by decide)) (pa_cons pe_str (pa_cons (pe_fld (pv 0) rfl) (pa_cons (pe_cal c_tree_for (hr.mono (by decide)) (pa_cons (pe_fld (pv 0) rfl) (pa_cons (pv 1) pa_nil))) pa_nil)))) rfl)
 (pss_one (ps_fld (pv 0) pe_non rfl)))
 pss_nil)
 (pss_one (ps_ret (pv 0))))), ?_⟩)
  · obtain ⟨p, tb, y, cols, o, oy, ws, rfl, _⟩ := h
    rfl
  · obtain ⟨p, tb, y, cols, o, oy, ws, rfl, ⟨dx, tv, wv, hp, ho, hwv⟩, hT, hok, hy, k1, k2⟩ := h
    refine ⟨_, rfl, y, rfl, hy.elim (fun z => .inl z.1) (fun ⟨q, e, hc⟩ => .inr (let ⟨dx, fs, z⟩ := hc.ins; ⟨q, dx, fs, e, z⟩)), _, rfl, iteF ?_⟩
    refine ⟨_, rfl, rfl, _, rfl, ite2 (fun hn => ?_) (fun hn => ?_)⟩
    · have hy0 : y ≠ .non := fun e => by rw [e] at hn; cases hn
      refine ⟨_, rfl, p, C, dx, _, _, rfl, hp, TD.cl, TD.nTr, rfl, _, rfl, p, C, dx, _, _, rfl, hp, TD.cl, TD.nT, rfl, _, rfl, tb, y, cols, oy, rfl, hT, hok, hy, fun tv2 H1 S1 ho1 => ?_⟩
      refine ⟨_, tv, tv2, o, oy, rfl, ho.lsts (.same S1), ho1, fun tv3 H2 S2 ho2 => ?_⟩
      have S := S1.trans S2
      have hp2 := S _ _ hp
      refine ⟨_, rfl, p, C, dx, _, rfl, hp2, TD.cl, TD.nTr, (by show 3 < 1000; decide), ?_⟩
      have L3 : Lsts' p H2 (upd H2 p (.ins C dx (putF "_tree" tv3 [("table", .ref tb), ("_tree", tv), ("_words", wv)]))) := Lsts'.put
      have hp3 : upd H2 p (.ins C dx (putF "_tree" tv3 [("table", .ref tb), ("_tree", tv), ("_words", wv)])) p = some (.ins C dx [("table", .ref tb), ("_tree", tv3), ("_words", wv)]) := upd_same
      have ho3 := ho2.lsts' hp2 L3
      generalize upd H2 p (.ins C dx (putF "_tree" tv3 [("table", .ref tb), ("_tree", tv), ("_words", wv)])) = H3 at *
      refine ⟨_, rfl, p, C, dx, _, rfl, hp3, TD.cl, TD.nW, (by show 3 < 1000; decide), ?_⟩
      have L4 : Lsts' p H3 (upd H3 p (.ins C dx (putF "_words" V.non [("table", .ref tb), ("_tree", tv3), ("_words", wv)]))) := Lsts'.put
      exact ⟨_, rfl, k2 hy0 H2 _ S (fun a u n e => L4 _ _ n (L3 _ _ n e)) ⟨dx, tv3, .non, upd_same, ho3.lsts' hp3 L4, rfl⟩⟩
    · have hy0 : y = .non := by simpa using hn
      exact ⟨_, rfl, k1 hy0⟩
theorem sc_Condior : FnScope ["self", "other"] ["self", "other"] (defScope s_Condior) := ⟨rfl, rfl, rfl, by decide +kernel, rfl, by decide +kernel, by decide +kernel⟩
theorem ok_Condior {CT fi ft fj : Addr} {fdi fdt fdj : FuncData} (F : FnM K "__ior__" "Cond.__ior__" s_Condior f fd) (T : Free mg) (TD : TxD K C) (c_is_operand : Cal P w K mg base CX0 1 "is_operand" fi fdi ["thing"] (spIsOperand C)) (c_tree_for : Cal P w K mg base CX0 3 "tree_for" ft fdt ["table", "cond"] (spTreeFor CT C))
    (c_joined : Cal P w K mg base CX0 1 "joined" fj fdj ["sign", "left", "right"] spJoin) : FnOk P w K mg base CX0 4 f fd ["self", "other"] (spIOp CT C "|") := by
  refine F.ok sc_Condior (fun vs H Q E h => ?_) (fun cdv A outer s H vs Q E hr h => ⟨_, PSs.nox (pss_cons (ps_if (pt_not (pt_val (pe_cal c_is_operand (hr.mono (by decide)) (pa_cons (pv 1) pa_nil))))
 (pss_one ps_never)
 pss_nil)
 (pss_cons (ps_if (pt_cmpR op_notN (pv 1) pe_non (nomark _))
 (pss_cons (ps_fld (pv 0) (pe_cal c_joined (hr.mono (by decide)) (pa_cons pe_str (pa_cons (pe_fld (pv 0) rfl) (pa_cons (pe_cal c_tree_for (hr.mono (by decide)) (pa_cons (pe_fld (pv 0) rfl) (pa_cons (pv 1) pa_nil))) pa_nil)))) rfl)
 (pss_one (ps_fld (pv 0) pe_non rfl)))
 pss_nil)
 (pss_one (ps_ret (pv 0))))), ?_⟩)
  · obtain ⟨p, tb, y, cols, o, oy, ws, rfl, _⟩ := h
    rfl
  · obtain ⟨p, tb, y, cols, o, oy, ws, rfl, ⟨dx, tv, wv, hp, ho, hwv⟩, hT, hok, hy, k1, k2⟩ := h
    refine ⟨_, rfl, y, rfl, hy.elim (fun z => .inl z.1) (fun ⟨q, e, hc⟩ => .inr (let ⟨dx, fs, z⟩ := hc.ins; ⟨q, dx, fs, e, z⟩)), _, rfl, iteF ?_⟩
    refine ⟨_, rfl, rfl, _, rfl, ite2 (fun hn => ?_) (fun hn => ?_)⟩
    · have hy0 : y ≠ .non := fun e => by rw [e] at hn; cases hn
      refine ⟨_, rfl, p, C, dx, _, _, rfl, hp, TD.cl, TD.nTr, rfl, _, rfl, p, C, dx, _, _, rfl, hp, TD.cl, TD.nT, rfl, _, rfl, tb, y, cols, oy, rfl, hT, hok, hy, fun tv2 H1 S1 ho1 => ?_⟩
      refine ⟨_, tv, tv2, o, oy, rfl, ho.lsts (.same S1), ho1, fun tv3 H2 S2 ho2 => ?_⟩
      have S := S1.trans S2
      have hp2 := S _ _ hp
      refine ⟨_, rfl, p, C, dx, _, rfl, hp2, TD.cl, TD.nTr, (by show 3 < 1000; decide), ?_⟩
      have L3 : Lsts' p H2 (upd H2 p (.ins C dx (putF "_tree" tv3 [("table", .ref tb), ("_tree", tv), ("_words", wv)]))) := Lsts'.put
      have hp3 : upd H2 p (.ins C dx (putF "_tree" tv3 [("table", .ref tb), ("_tree", tv), ("_words", wv)])) p = some (.ins C dx [("table", .ref tb), ("_tree", tv3), ("_words", wv)]) := upd_same
      have ho3 := ho2.lsts' hp2 L3
      generalize upd H2 p (.ins C dx (putF "_tree" tv3 [("table", .ref tb), ("_tree", tv), ("_words", wv)])) = H3 at *
      refine ⟨_, rfl, p, C, dx, _, rfl, hp3, TD.cl, TD.nW, (by show 3 < 1000; decide), ?_⟩
      have L4 : Lsts' p H3 (upd H3 p (.ins C dx (putF "_words" V.non [("table", .ref tb), ("_tree", tv3), ("_words", wv)]))) := Lsts'.put
      exact ⟨_, rfl, k2 hy0 H2 _ S (fun a u n e => L4 _ _ n (L3 _ _ n e)) ⟨dx, tv3, .non, upd_same, ho3.lsts' hp3 L4, rfl⟩⟩
    · have hy0 : y = .non := by simpa using hn
      exact ⟨_, rfl, k1 hy0⟩
theorem sc_Condbool : FnScope ["self"] ["self"] (defScope s_Condbool) := ⟨rfl, rfl, rfl, by decide +kernel, rfl, by decide +kernel, by decide +kernel⟩
theorem ok_Condbool (F : FnM K "__bool__" "Cond.__bool__" s_Condbool f fd) (T : Free mg) (TD : TxD K C) : FnOk P w K mg base CX0 1 f fd ["self"] (spCondBool C) := by
  refine F.ok sc_Condbool (fun vs H Q E h => ?_) (fun cdv A outer s H vs Q E hr h => ⟨_, PSs.nox (pss_one (ps_ret (pe_cmpR op_notN (pe_fld (pv 0) rfl) pe_non (nomark _)))), ?_⟩)
  · obtain ⟨p, tb, o, ws, rfl, _⟩ := h
    rfl
  · obtain ⟨p, tb, o, ws, rfl, ⟨dx, tv, wv, hp, ho, hwv⟩, k⟩ := h
    refine ⟨_, rfl, p, C, dx, _, _, rfl, hp, TD.cl, TD.nTr, rfl, rfl, ?_⟩
    rw [ho.non]
    cases o <;> exact k
theorem sc_Condcall : FnScope ["self", "row"] ["self", "row"] (defScope s_Condcall) := ⟨rfl, rfl, rfl, by decide +kernel, rfl, by decide +kernel, by decide +kernel⟩
theorem ok_Condcall {fv fc : Addr} {fdv fdc : FuncData} (F : FnM K "__call__" "Cond.__call__" s_Condcall f fd) (T : Free mg) (TD : TxD K C) (c_value_on : Cal P w K mg base CX0 3 "value_on" fv fdv ["code", "row"] (spValueOn K)) (c_code_of : Cal P w K mg base CX0 1 "code_of" fc fdc ["tree"] spCodeOf) : FnOk P w K mg base CX0 4 f fd ["self", "row"] (spCondCall K C) := by
  refine F.ok sc_Condcall (fun vs H Q E h => ?_) (fun cdv A outer s H vs Q E hr h => ⟨_, PSs.nox (pss_one (ps_ret (pe_cal c_value_on (hr.mono (by decide)) (pa_cons (pe_cal c_code_of (hr.mono (by decide)) (pa_cons (pe_fld (pv 0) rfl) pa_nil)) (pa_cons (pv 1) pa_nil))))), ?_⟩)
  · obtain ⟨p, q, tb, o, ws, r, rfl, _⟩ := h
    rfl
  · obtain ⟨p, q, tb, o, ws, r, rfl, ⟨dx, tv, wv, hp, ho, hwv⟩, hq, hwf, k⟩ := h
    refine ⟨_, rfl, p, C, dx, _, _, rfl, hp, TD.cl, TD.nTr, rfl, tv, o, rfl, ho, fun t e => (hwf t e).1, fun e => ?_, fun t e l xs H2 S2 nl hl hI => ?_⟩
    · subst e
      exact ⟨_, rfl, .non, q, none, r, rfl, fun _ => rfl, fun t e => (nomatch e), hq, k⟩
    · subst e
      exact ⟨_, rfl, .ref l, q, some t, r, rfl, fun e => (nomatch e), fun t2 e => ⟨l, xs, rfl, hl, by cases e; exact ⟨hI, (hwf t rfl).1, (hwf t rfl).2⟩⟩, tup_same S2 hq, fun H3 S3 => k H3 (S2.trans S3)⟩

theorem sc_Cond_is_blank : FnScope ["self"] ["self"] (defScope s_Cond_is_blank) := ⟨rfl, rfl, rfl, by decide +kernel, rfl, by decide +kernel, by decide +kernel⟩
theorem ok_Cond_is_blank (F : FnM K "is_blank" "Cond.is_blank" s_Cond_is_blank f fd) (T : Free mg) (TD : TxD K C) : FnOk P w K mg base CX0 1 f fd ["self"] (spCondBlank C) := by
  refine F.ok sc_Cond_is_blank (fun vs H Q E h => ?_) (fun cdv A outer s H vs Q E hr h => ⟨_, PSs.nox (pss_one (ps_ret (pe_cmpR op_isN (pe_fld (pv 0) rfl) pe_non (nomark _)))), ?_⟩)
  · obtain ⟨p, tb, o, ws, rfl, _⟩ := h
    rfl
  · obtain ⟨p, tb, o, ws, rfl, ⟨dx, tv, wv, hp, ho, hwv⟩, k⟩ := h
    refine ⟨_, rfl, p, C, dx, _, _, rfl, hp, TD.cl, TD.nTr, rfl, rfl, ?_⟩
    rw [ho.non]
    cases o <;> exact k


end
end K07

namespace K07
open PySem PySem.Spec PyProof.Rows L2 Own
def spLongS : Sp := fun vs H Q _ => ∃ (b : Addr) (m : Int), vs = [.ref b, .int m] ∧ Bag H b ∧ 0 < m ∧ m ≤ 33 ∧ ∀ (n : Int) (H' : Hp), n.natAbs < 10 ^ (6 * m.toNat) → But b H H' → Bag H' b → Q (.int n) H'
section
variable {P : Program} {w : World} {K : PySem.W.Frag} {mg : Str → Option Value} {base : Heap} {f C : Addr} {fd : FuncData}
theorem sc_is_integer : FnScope ["thing"] ["thing"] (defScope s_is_integer) := ⟨rfl, rfl, rfl, by decide +kernel, rfl, by decide +kernel, by decide +kernel⟩
theorem ok_is_integer (F : FnP K "is_integer" s_is_integer f fd) (T : Free mg) : FnOk P w K mg base CX0 1 f fd ["thing"] spIsInt := by
  refine F.ok sc_is_integer (fun vs H Q E h => ?_) (fun cdv A outer s H vs Q E hr h => ⟨_, PSs.nox (pss_one (ps_ret (pe_and (pe_callB call_isi (by rfl) T.isinstance boot_isinstance (pa_cons (pv 0) (pa_cons (pe_bltn (v := .ty "int") (by rfl) T.int boot_int rfl) pa_nil))) (pe_one (pe_not (pe_callB call_isi (by rfl) T.isinstance boot_isinstance (pa_cons (pv 0) (pa_cons (pe_bltn (v := .ty "bool") (by rfl) T.bool boot_bool rfl) pa_nil)))))))), ?_⟩)
  · obtain ⟨v, t, rfl, _⟩ := h
    rfl
  · obtain ⟨v, t, rfl, ht, k⟩ := h
    refine ⟨_, rfl, _, _, _, _, _, rfl, .ty _, kd_ok ht, kit_int t, _, rfl, ?_⟩
    rw [← int_not_bool ht] at k
    refine ite2 (fun h1 => ?_) (fun h1 => ?_)
    · rw [h1] at k
      exact ⟨_, rfl, _, _, _, _, _, rfl, .ty _, kd_ok ht, kit_bool t, _, rfl, k⟩
    · rw [Bool.not_eq_true] at h1
      rw [h1] at k
      exact k

theorem sc_Tablecontains : FnScope ["self", "thing", "part"] ["self", "thing"] (defScope s_Tablecontains) := ⟨rfl, rfl, rfl, by decide +kernel, rfl, by decide +kernel, by decide +kernel⟩
theorem ok_TablecontainsF {aK fi : Addr} {fdi : FuncData} (F : FnM K "__contains__" "Table.__contains__" s_Tablecontains f fd) (T : Txt K mg aK) (TC : TxC K C) (c_is_integer : Cal P w K mg base CX0 1 "is_integer" fi fdi ["thing"] spIsInt) : FnOk P w K mg base CX0 2 f fd ["self", "thing"] (spContainsF C) := by
  refine F.ok sc_Tablecontains (fun vs H Q E h => ?_) (fun cdv A outer s H vs Q E hr h => ⟨_, PSs.nox (pss_cons (ps_if (PW.pt (pw_or (pt_not (pt_val (pe_callB call_isi (by rfl) T.isinstance boot_isinstance (pa_cons (pv 1) (pa_cons (pe_bltn (v := .ty "tuple") (by rfl) T.tuple boot_tuple rfl) pa_nil))))) (pw_or1 (pt_cmpR op_ne (pe_callB call_len_seq (by rfl) T.len boot_len (pa_cons (pv 1) pa_nil)) (pe_callB call_len_seq (by rfl) T.len boot_len (pa_cons (pe_fld (pv 0) rfl) pa_nil)) (nomark _)))))
 (pss_one (ps_ret pe_bl))
 pss_nil)
 (pss_one (ps_ret (pe_callB (cr_all rfl) (by rfl) T.all boot_all (pa_cons (pe_lc (own := [("part", 2)]) rfl sc_Tablecontains.nd (pi_tup (pv 1)) (blkOk_by (N := ["self", "thing", "part"]) (sc := defScope s_Tablecontains) (by decide +kernel)) (fun _ _ _ _ _ => (pg_name (i := 2) sc_Tablecontains.nd rfl (Or.inl rfl))) (fun _ _ _ _ _ => pts_nil) (fun _ _ _ _ _ => (pe_cal c_is_integer (hr.mono (by decide)) (pa_cons (pv 2) pa_nil)))) pa_nil))))), ?_⟩)
  · obtain ⟨p, v, cols, rfl, _⟩ := h
    rfl
  · obtain ⟨p, v, cols, rfl, ⟨dx, ct, hp, hct⟩, ⟨⟨t, ht⟩, hk⟩, k⟩ := h
    obtain ⟨cs, ecs⟩ : ∃ cs, cs = cols.map V.str := ⟨_, rfl⟩
    have elen : cols.length = cs.length := by rw [ecs, List.length_map]
    rw [← ecs] at hct
    rw [elen] at k
    refine ⟨_, rfl, _, _, _, _, _, rfl, .ty _, kd_ok ht, kit_tuple t, _, rfl, ?_⟩
    by_cases e : t = .tup
    · subst e
      obtain ⟨a, xs, rfl, ha⟩ := kd_tuple ht
      obtain ⟨hlen, hx⟩ := hk a xs rfl ha
      refine iteNS rfl ?_
      refine ⟨_, rfl, a, xs, rfl, .inr (SqT.of ha), _, rfl, p, C, dx, _, _, rfl, hp, TC.cl, TC.nC, rfl, ct, cs, rfl, .inr hct.seq, rfl, _, rfl, ?_⟩
      by_cases em : (xs.length : Int) = (cs.length : Nat)
      · rw [decide_eq_true (show V.int (xs.length : Int) = V.int (cs.length : Int) by rw [em])]
        refine iteF ?_
        refine ⟨_, rfl, a, rfl, ⟨xs, SqT.of ha⟩, fun D nD => ?_⟩
        have naD := ne_of_none ha nD
        refine lc_tup (xs := xs) (fun i H' => H' = upd H D (.lst (((xs.take i).map isIntV).map V.bl))) rfl (fun i H' _ e => ?_) (fun i x H' hx1 e => ?_) (fun H' e => ?_)
        · subst e
          exact SqT.of (by rw [upd_ne naD]; exact ha)
        · subst e
          refine ⟨rfl, ?_⟩
          obtain ⟨t2, ht2⟩ := hx x (List.mem_of_getElem? hx1)
          have ht3 : kd (upd H D (.lst (((xs.take i).map isIntV).map V.bl))) x = some t2 := kd_same ht2 (same_newH nD)
          refine ⟨_, rfl, x, t2, rfl, ht3, _, upd_same, small1000 (by simp; omega), ?_⟩
          rw [upd_upd, map_take_snoc isIntV hx1, List.map_append] <;> rfl
        · subst e
          refine ⟨D, xs.map isIntV, rfl, SqL.of (by rw [upd_same, List.take_length]), ?_⟩
          have q := k (upd H D (.lst (((xs.take xs.length).map isIntV).map V.bl))) (same_newH nD)
          rw [rowB_tup ha, decide_eq_true em, Bool.true_and] at q
          rw [all_id_map]
          exact q
      · rw [decide_eq_false (show ¬ V.int (xs.length : Int) = V.int (cs.length : Int) from fun z => em (V.int.inj z))]
        refine iteT ?_
        have q := k H (Same.refl H)
        rw [rowB_tup ha, decide_eq_false em] at q
        exact q
    · rw [decide_eq_false e]
      refine iteT ?_
      have q := k H (Same.refl H)
      rw [rowB_not ht e] at q
      exact q

theorem sc_Condcontains : FnScope ["self", "thing"] ["self", "thing"] (defScope s_Condcontains) := ⟨rfl, rfl, rfl, by decide +kernel, rfl, by decide +kernel, by decide +kernel⟩
theorem ok_Condcontains {CT fi ft fc : Addr} {fdi fdt fdc : FuncData} (F : FnM K "__contains__" "Cond.__contains__" s_Condcontains f fd) (T : Free mg) (TD : TxD K C) (c_Tablecontains : CalM P w K mg base CX0 2 CT "__contains__" fi fdi ["self", "thing"] (spContainsF CT)) (c_is_taken : Cal P w K mg base CX0 4 "is_taken" ft fdt ["code", "row"] (spIsTaken K)) (c_code_of : Cal P w K mg base CX0 1 "code_of" fc fdc ["tree"] spCodeOf) : FnOk P w K mg base CX0 5 f fd ["self", "thing"] (spCondIn CT C) := by
  refine F.ok sc_Condcontains (fun vs H Q E h => ?_) (fun cdv A outer s H vs Q E hr h => ⟨_, PSs.nox (pss_one (ps_ret (pe_and (pe_cmpR (op_in_cal c_Tablecontains (hr.mono (by decide))) (pv 1) (pe_fld (pv 0) rfl) (by rfl)) (pe_one (pe_cal c_is_taken (hr.mono (by decide)) (pa_cons (pe_cal c_code_of (hr.mono (by decide)) (pa_cons (pe_fld (pv 0) rfl) pa_nil)) (pa_cons (pv 1) pa_nil))))))), ?_⟩)
  · obtain ⟨p, tb, v, cols, o, ws, rfl, _⟩ := h
    rfl
  · obtain ⟨p, tb, v, cols, o, ws, rfl, ⟨dx, tv, wv, hp, ho, hwv⟩, hT, hK, hwf, kF, kT, hrow⟩ := h
    obtain ⟨dt, a, htb, ha⟩ := id hT
    refine ⟨_, rfl, _, rfl, p, C, dx, _, _, rfl, hp, TD.cl, TD.nT, rfl, tb, dt, _, rfl, htb, tb, v, cols, rfl, hT, hK, fun H1 S1 => ⟨_, rfl, ?_⟩⟩
    cases hb : rowB H v (cols.length : Nat) with
    | false =>
      exact ⟨_, rfl, iteF (kF hb H1 S1)⟩
    | true =>
      refine ⟨_, rfl, iteT ?_⟩
      obtain ⟨q, r, rfl, hq, hrl⟩ := hrow hb
      have hp1 := S1 _ _ hp
      have ho1 := ho.lsts (.same S1)
      refine ⟨_, rfl, p, C, dx, _, _, rfl, hp1, TD.cl, TD.nTr, rfl, tv, o, rfl, ho1, fun t e => (hwf t e).1, fun e => ?_, fun t e l xs H2 S2 nl hl hI => ?_⟩
      · subst e
        exact ⟨_, rfl, .non, q, none, r, rfl, fun _ => rfl, fun t e => (nomatch e), SqT.of (S1 _ _ hq), fun H3 S3 => kT q r rfl hq hrl H3 (S1.trans S3)⟩
      · subst e
        exact ⟨_, rfl, .ref l, q, some t, r, rfl, fun e => (nomatch e), fun t2 e => ⟨l, xs, rfl, hl, by cases e; exact ⟨hI, (hwf t rfl).1, by rw [hrl]; exact (hwf t rfl).2⟩⟩, SqT.of (S2 _ _ (S1 _ _ hq)), fun H3 S3 => kT q r rfl hq hrl H3 (S1.trans (S2.trans S3))⟩

theorem sc_law_long : FnScope ["bag", "blocks", "worth", "turn"] ["bag", "blocks"] (defScope s_law_long) := ⟨rfl, rfl, rfl, by decide +kernel, rfl, by decide +kernel, by decide +kernel⟩
theorem ok_longS {ft : Addr} {fdt : FuncData} (F : FnP K "_law_long" s_law_long f fd) (T : Free mg) (c_law_take : Cal P w K mg base CX0 1 "_law_take" ft fdt ["bag", "many"] spTake) : FnOk P w K mg base CX0 2 f fd ["bag", "blocks"] spLongS := by
  refine F.ok sc_law_long (fun vs H Q E h => ?_) (fun cdv A outer s H vs Q E hr h => ⟨_, PSs.nox (pss_cons (ps_if (pt_cmpR op_eq (pe_cal c_law_take (hr.mono (by decide)) (pa_cons (pv 0) (pa_cons pe_int pa_nil))) pe_int (nomark _))
 (pss_one (ps_ret (pe_op op_sub (pe_cal c_law_take (hr.mono (by decide)) (pa_cons (pv 0) (pa_cons pe_int pa_nil))) pe_int)))
 pss_nil)
 (pss_cons (ps_set (i := 2) sc_law_long.nd rfl (Or.inl rfl) pe_int)
 (pss_cons (ps_for PassesOwn.never rfl (pi_range1 (by rfl) T.range (pa_cons (pe_op op_add pe_int (pe_cal c_law_take (hr.mono (by decide)) (pa_cons (pv 0) (pa_cons (pv 1) pa_nil)))) pa_nil)) (pg_name (i := 3) sc_law_long.nd rfl (Or.inl rfl))
 (pss_one (ps_set (i := 2) sc_law_long.nd rfl (Or.inl rfl) (pe_op op_add (pe_op op_mul (pv 2) (pe_op op_pow pe_int pe_int)) (pe_cal c_law_take (hr.mono (by decide)) (pa_cons (pv 0) (pa_cons (pe_op op_pow pe_int pe_int) pa_nil)))))))
 (pss_one (ps_ret (pe_ifExp (pt_cmpR op_eq (pe_cal c_law_take (hr.mono (by decide)) (pa_cons (pv 0) (pa_cons pe_int pa_nil))) pe_int (nomark _)) (pv 2) (pe_un un_neg (pv 2)))))))), ?_⟩)
  · obtain ⟨b, m, rfl, _⟩ := h
    rfl
  · obtain ⟨b, m, rfl, hb, hm0, hm3, k⟩ := h
    refine ⟨_, rfl, b, _, rfl, hb, by decide, by decide, fun d0 H0 g0 g1 B0 hb0 => ?_⟩
    refine ⟨rfl, _, rfl, ite2 (fun _ => ?_) (fun _ => ?_)⟩
    · refine ⟨_, rfl, b, _, rfl, hb0, by decide, by decide, fun d H1 h0 h1 B1 hb1 => ?_⟩
      refine ⟨_, _, rfl, rfl, k _ _ ?_ (B0.trans B1) hb1⟩
      have h6 : (10 : Nat) ^ 6 ≤ 10 ^ (6 * m.toNat) := Nat.pow_le_pow_right (by decide) (by omega)
      omega
    refine ⟨_, rfl, _, rfl, b, _, rfl, hb0, by omega, by omega, fun d H1 h0 h1 B1' hb1 => ?_⟩
    have B1 := B0.trans B1'
    refine ⟨_, _, rfl, rfl, _, rfl, by omega, by omega, ?_⟩
    refine for_range (fun i σ H' => ∃ (n : Int) (tv : Option V), σ = [some (.ref b), some (.int m), some (.int n), tv] ∧ But b H H' ∧ Bag H' b ∧ 0 ≤ n ∧ n < 10 ^ (6 * i)) ⟨0, none, rfl, B1, hb1, by decide, by decide⟩ ?_ ?_
    · rintro i σ H' hi ⟨n, tv, rfl, B, hB, n0, n1⟩
      refine ⟨_, rfl, _, _, rfl, rfl, ⟨by decide, by decide, by decide⟩, _, _, rfl, rfl, .inr ⟨by decide, by decide⟩, ?_⟩
      refine ⟨_, rfl, _, _, rfl, rfl, ⟨by decide, by decide, by decide⟩, b, _, rfl, hB, by decide, by decide, fun d H3 h0 h1 B3 hb3 => ?_⟩
      have e1 : d < 1000000 := h1
      have e2 : (10 : Int) ^ (6 * (i + 1)) = 10 ^ (6 * i) * 1000000 := by rw [Nat.mul_add, Int.pow_add]; rfl
      refine ⟨_, _, rfl, rfl, _, _, rfl, B.trans B3, hb3, ?_, ?_⟩
      · show 0 ≤ n * 1000000 + d
        omega
      · show n * 1000000 + d < _
        rw [e2]
        omega
    · rintro σ H' ⟨n, tv, rfl, B, hB, n0, n1⟩
      have hle : 10 ^ (6 * (1 + d - 0).toNat) ≤ (10 : Int) ^ (6 * m.toNat) := pow10_le (by omega)
      have hn : n.natAbs < 10 ^ (6 * m.toNat) := by
        have h2 : n < (10 : Int) ^ (6 * m.toNat) := by
          refine Int.lt_of_lt_of_le ?_ hle
          simpa using n1
        have h3 : (10 : Int) ^ (6 * m.toNat) = ((10 ^ (6 * m.toNat) : Nat) : Int) := pow10_cast _
        omega
      refine ⟨_, rfl, b, _, rfl, hB, by decide, by decide, fun d H3 h0 h1 B3 hb3 => ?_⟩
      refine ⟨rfl, _, rfl, ite2 (fun _ => ?_) (fun _ => ?_)⟩
      · exact ⟨_, rfl, k _ _ hn (B.trans B3) hb3⟩
      · exact ⟨_, rfl, _, rfl, k _ _ (by rw [Int.natAbs_neg]; exact hn) (B.trans B3) hb3⟩

end
end K07

namespace Own
open PySem PySem.Spec PyProof.Rows L2
/-! ### numbers as texts -/
theorem str_ext {a b : Str} (h : a.cps.toList = b.cps.toList) : a = b := by
  obtain ⟨a⟩ := a
  obtain ⟨b⟩ := b
  have : a = b := Array.toList_inj.mp h
  rw [this]
def digC (m : Nat) : List Nat := (Nat.toDigits 10 m).map Char.toNat
theorem digC_lt {m : Nat} (h : m < 10) : digC m = [48 + m] := by
  have q : ∀ m ∈ List.range 10, digC m = [48 + m] := by decide +kernel
  exact q m (List.mem_range.mpr h)
theorem digC_step {m : Nat} (h : 10 ≤ m) : digC m = digC (m / 10) ++ [48 + m % 10] := by
  have hm : m % 10 < 10 := Nat.mod_lt m (by decide)
  have t : Nat.toDigits 10 (m / 10) ++ Nat.toDigits 10 (m % 10) = Nat.toDigits 10 (10 * (m / 10) + m % 10) := Nat.toDigits_append_toDigits (by decide) (by omega) hm
  rw [Nat.div_add_mod] at t
  unfold digC
  rw [← t, List.map_append]
  congr 1
  exact digC_lt hm
theorem digC_all : ∀ m : Nat, NumText.AllDigits (digC m) := fun m => by
  induction m using Nat.strongRecOn with
  | _ m ih =>
    by_cases h : m < 10
    · rw [digC_lt h]
      intro c hc
      rw [List.mem_singleton.mp hc]
      omega
    · rw [digC_step (by omega)]
      intro c hc
      rcases List.mem_append.mp hc with hc | hc
      · exact ih (m / 10) (by omega) c hc
      · rw [List.mem_singleton.mp hc]
        omega
theorem digC_len : ∀ (k m : Nat), m < 10 ^ (k + 1) → 1 ≤ (digC m).length ∧ (digC m).length ≤ k + 1
  | 0, m, h => by
    rw [digC_lt (by omega)]
    show 1 ≤ 1 ∧ 1 ≤ 0 + 1
    decide
  | k + 1, m, h => by
    by_cases q : m < 10
    · rw [digC_lt q]
      exact ⟨by show 1 ≤ 1; decide, by show 1 ≤ k + 1 + 1; omega⟩
    · have e : 10 ^ (k + 1 + 1) = 10 ^ (k + 1) * 10 := Nat.pow_succ ..
      have := digC_len k (m / 10) (by omega)
      rw [digC_step (by omega), List.length_append, List.length_singleton]
      omega
theorem digC_head : ∀ m : Nat, m ≠ 0 → (digC m)[0]? ≠ some 48 := fun m => by
  induction m using Nat.strongRecOn with
  | _ m ih =>
    intro h0
    by_cases h : m < 10
    · rw [digC_lt h]
      show some (48 + m) ≠ some 48
      intro e
      have := Option.some.inj e
      omega
    · rw [digC_step (by omega)]
      have q := ih (m / 10) (by omega) (by omega)
      cases e : digC (m / 10) with
      | nil =>
        have l := (digC_len (m / 10) (m / 10) (Nat.lt_of_lt_of_le (Nat.lt_pow_self (by decide)) (Nat.pow_le_pow_right (by decide) (by omega)))).1
        rw [e] at l
        exact absurd l (by decide)
      | cons c r =>
        rw [e] at q
        exact q
/-- the text of an integer -/
def numS (n : Int) : Str := Str.ofString (toString n)
def numC : Int → List Nat
  | .ofNat m => digC m
  | .negSucc k => 45 :: digC (k + 1)
theorem numS_cps (n : Int) : (numS n).cps.toList = numC n := by
  cases n with
  | ofNat m => exact PySem.W.KIN.signs_num m
  | negSucc k =>
    unfold numS
    rw [signs_ofString]
    show (("-" ++ Nat.repr (k + 1)) : String).toList.map Char.toNat = _
    rw [String.toList_append, List.map_append, Nat.toList_repr]
    rfl
/-- a number of at most thirty digits -/
def Num30 (n : Int) : Prop := n.natAbs < 10 ^ 30
theorem numC_ne (n : Int) : ∃ c r, numC n = c :: r ∧ (c = 45 ∨ (48 ≤ c ∧ c ≤ 57)) := by
  cases n with
  | ofNat m =>
    have l := (digC_len m m (Nat.lt_of_lt_of_le (Nat.lt_pow_self (by decide)) (Nat.pow_le_pow_right (by decide) (by omega)))).1
    have a := digC_all m
    show ∃ c r, digC m = c :: r ∧ _
    cases e : digC m with
    | nil => rw [e] at l; exact absurd l (by decide)
    | cons c r => rw [e] at a; exact ⟨c, r, rfl, .inr (a c List.mem_cons_self)⟩
  | negSucc k => exact ⟨_, _, rfl, .inl rfl⟩
theorem digC_ne (m : Nat) : digC m ≠ [] := fun e => by
  have l := (digC_len m m (Nat.lt_of_lt_of_le (Nat.lt_pow_self (by decide)) (Nat.pow_le_pow_right (by decide) (by omega)))).1
  rw [e] at l
  exact absurd l (by decide)
theorem tw_all {p : Nat → Bool} {l : List Nat} (h : ∀ c ∈ l, p c = true) : l.takeWhile p = l := NumText.takeWhile_all h
theorem inRun_dig {l : List Nat} (h : NumText.AllDigits l) : ∀ c ∈ l, inRun 48 57 c = true := fun c hc => by
  have := h c hc
  unfold inRun
  simp [this.1, this.2]
theorem str_len (z : Str) : z.length = z.cps.toList.length := Array.length_toList.symm
theorem numS_ok {n : Int} (h : Num30 n) : isNum (numS n) = true ∧ numV (numS n) = n ∧ (numS n).length ≤ 31 := by
  have hc := numS_cps n
  have hl : (numS n).length = (numC n).length := by rw [str_len, hc]
  have key : ∀ (m : Nat) (d : Str), d.cps.toList = digC m → m < 10 ^ 30 → Txt.removeprefix (numS n) "-" = d → (m = 0 → numS n = "0") → isNum (numS n) = true := by
    intro m d hd hm hr h0
    have l := digC_len 29 m hm
    have dl : d.length = (digC m).length := by rw [str_len, hd]
    unfold isNum
    rw [hr]
    dsimp only
    rw [if_neg]
    · by_cases q : m = 0
      · rw [decide_eq_true (h0 q), Bool.true_or]
      · rw [hd, decide_eq_true (digC_head m q), Bool.or_true]
    · rw [dl, hd]
      rintro (z | z | z)
      · omega
      · unfold runEnd at z
        rw [List.drop_zero, tw_all (inRun_dig (digC_all m))] at z
        omega
      · omega
  cases n with
  | ofNat m =>
    have hm : m < 10 ^ 30 := h
    have hc : (numS (.ofNat m)).cps.toList = digC m := hc
    have l := digC_len 29 m hm
    have hr : Txt.removeprefix (numS (.ofNat m)) "-" = numS (.ofNat m) := by
      refine str_ext ?_
      rw [rempre_minus, if_neg]
      rw [hc]
      intro e
      cases ed : digC m with
      | nil => exact digC_ne m ed
      | cons c r =>
        rw [ed] at e
        cases e
        have := digC_all m 45 (by rw [ed]; exact List.mem_cons_self)
        omega
    refine ⟨key m _ hc hm hr (fun z => by rw [z]; decide +kernel), ?_, by rw [hl]; show (digC m).length ≤ _; omega⟩
    unfold numV
    rw [intText_digits (by rw [hc]; exact digC_all m) (by rw [hc]; exact digC_ne m) (by rw [hl]; show (digC m).length ≤ _; omega), hc]
    show (Option.some ((NumText.digitsVal ((Nat.toDigits 10 m).map Char.toNat) : Nat) : Int)).getD 0 = _
    rw [PySem.W.KIN.val_back]
    rfl
  | negSucc k =>
    have hm : k + 1 < 10 ^ 30 := h
    have hc : (numS (.negSucc k)).cps.toList = 45 :: digC (k + 1) := hc
    have l := digC_len 29 (k + 1) hm
    have hr : (Txt.removeprefix (numS (.negSucc k)) "-").cps.toList = digC (k + 1) := by
      rw [rempre_minus, if_pos (by rw [hc]; rfl), hc]
      rfl
    refine ⟨key (k + 1) _ hr hm rfl (fun z => by omega), ?_, by rw [hl]; show (digC (k + 1)).length + 1 ≤ _; omega⟩
    unfold numV
    rw [intText_neg hc (digC_all _) (digC_ne _) (by rw [hl]; show (digC (k + 1)).length + 1 ≤ _; omega)]
    show (Option.some (-((NumText.digitsVal ((Nat.toDigits 10 (k + 1)).map Char.toNat) : Nat) : Int))).getD 0 = _
    rw [PySem.W.KIN.val_back]
    rfl
/-! ### tokens one behind the other -/
theorem tw_cut (p : Nat → Bool) : ∀ (t r : List Nat) (c : Nat), ((t ++ [c]).takeWhile p).length ≤ t.length → (t ++ c :: r).takeWhile p = (t ++ [c]).takeWhile p
  | [], r, c, h => by
    rw [List.nil_append, List.nil_append, List.takeWhile_cons, List.takeWhile_cons]
    rw [List.nil_append, List.takeWhile_cons] at h
    by_cases q : p c = true
    · rw [if_pos q] at h
      exact absurd h (by rw [List.length_cons]; exact Nat.not_succ_le_zero _)
    · rw [if_neg q, if_neg q]
  | a :: t, r, c, h => by
    rw [List.cons_append, List.cons_append, List.takeWhile_cons, List.takeWhile_cons]
    rw [List.cons_append, List.takeWhile_cons] at h
    by_cases q : p a = true
    · rw [if_pos q] at h ⊢
      rw [if_pos q, tw_cut p t r c (by rw [List.length_cons, List.length_cons] at h; omega)]
    · rw [if_neg q, if_neg q]
/-- where a token ends is seen by the next sign alone -/
theorem tokEnd_next {t r : List Nat} {c : Nat} (hne : t ≠ []) (h : tokEnd (t ++ [c]) 0 = t.length) : tokEnd (t ++ c :: r) 0 = t.length := by
  obtain ⟨a, t0, rfl⟩ : ∃ a t', t = a :: t' := by
    cases t with
    | nil => exact absurd rfl hne
    | cons a t => exact ⟨a, t, rfl⟩
  have e2 : digAt (a :: t0 ++ c :: r) 0 = digAt (a :: t0 ++ [c]) 0 := rfl
  have hd := digAt_ge (a :: t0 ++ [c]) 0
  have e4 : (a :: t0 ++ c :: r).take 2 = (a :: t0 ++ [c]).take 2 := by
    cases t0 with
    | nil => rfl
    | cons b t1 => rfl
  have dr : ∀ i, i ≤ 1 → ∀ s, (a :: t0 ++ s).drop i = (a :: t0).drop i ++ s := fun i hi s => List.drop_append_of_le_length (by rw [List.length_cons]; omega)
  unfold tokEnd at h ⊢
  rw [e2, List.drop_zero, e4]
  rw [List.drop_zero] at h
  by_cases q1 : 0 < runEnd (a :: t0 ++ [c]) 0 97 122
  · rw [if_pos q1] at h
    have e1 : runEnd (a :: t0 ++ c :: r) 0 97 122 = runEnd (a :: t0 ++ [c]) 0 97 122 := by
      unfold runEnd at h ⊢
      rw [List.drop_zero, tw_cut _ _ _ _ (by rw [List.drop_zero] at h; omega), List.drop_zero]
    rw [e1, if_pos q1]
    exact h
  · rw [if_neg q1] at h
    have e1 : runEnd (a :: t0 ++ c :: r) 0 97 122 = runEnd (a :: t0 ++ [c]) 0 97 122 := by
      unfold runEnd at q1 ⊢
      rw [List.drop_zero, tw_cut _ _ _ _ (by rw [List.drop_zero] at q1; omega), List.drop_zero]
    rw [e1, if_neg q1]
    generalize digAt (a :: t0 ++ [c]) 0 = i at *
    by_cases q2 : i < runEnd (a :: t0 ++ [c]) i 48 57
    · rw [if_pos q2] at h
      have e3 : runEnd (a :: t0 ++ c :: r) i 48 57 = runEnd (a :: t0 ++ [c]) i 48 57 := by
        unfold runEnd at h ⊢
        rw [dr i (by omega), dr i (by omega)] at *
        rw [tw_cut _ _ _ _ (by rw [List.length_drop]; omega)]
      rw [e3, if_pos q2]
      exact h
    · rw [if_neg q2] at h
      have e3 : runEnd (a :: t0 ++ c :: r) i 48 57 = runEnd (a :: t0 ++ [c]) i 48 57 := by
        unfold runEnd at q2 ⊢
        rw [dr i (by omega), dr i (by omega)] at *
        rw [tw_cut _ _ _ _ (by omega)]
      rw [e3, if_neg q2]
      exact h
/-- tokens, each with the number of blanks behind it -/
def flatT : List (List Nat × Nat) → List Nat
  | [] => []
  | (t, n) :: r => t ++ (List.replicate n 32 ++ flatT r)
def OkT : List (List Nat × Nat) → Prop
  | [] => True
  | (t, n) :: r => aloneB t = true ∧ (0 < n ∨ r = [] ∨ ∃ p q c s, r = p :: q ∧ p.1 = c :: s ∧ tokEnd (t ++ [c]) 0 = t.length) ∧ OkT r
theorem shT_fst (n : Nat) (ps : List (List Nat × Nat)) : (shT n ps).map (·.1) = ps.map (·.1) := by
  unfold shT
  rw [List.map_map]
  rfl
theorem toks_blanks : ∀ (n : Nat) (r : List Nat), (toksL (List.replicate n 32 ++ r)).map (·.1) = (toksL r).map (·.1)
  | 0, r => rfl
  | n + 1, r => by
    rw [List.replicate_succ, List.cons_append, toks_blank, shT_fst, toks_blanks n r]
theorem flat_toks : ∀ {ps : List (List Nat × Nat)}, OkT ps → (toksL (flatT ps)).map (·.1) = ps.map (·.1)
  | [], _ => rfl
  | (t, n) :: r, ⟨h1, h2, h3⟩ => by
    have hne : t ≠ [] := fun e => by
      rw [e] at h1
      cases h1
    have h32 : t.head? ≠ some 32 := by
      unfold aloneB at h1
      simp only [Bool.and_eq_true, decide_eq_true_eq] at h1
      exact h1.1.2
    have e : tokEnd (t ++ (List.replicate n 32 ++ flatT r)) 0 = t.length := by
      rcases h2 with h2 | h2 | ⟨p, q, c, s, rfl, hp, h2⟩
      · obtain ⟨k, rfl⟩ : ∃ k, n = k + 1 := ⟨n - 1, by omega⟩
        exact tokEnd_alone h1 (.inr ⟨List.replicate k 32 ++ flatT r, rfl⟩)
      · subst h2
        cases n with
        | zero => exact tokEnd_alone h1 (.inl rfl)
        | succ k => exact tokEnd_alone h1 (.inr ⟨List.replicate k 32 ++ flatT [], rfl⟩)
      · cases n with
        | succ k => exact tokEnd_alone h1 (.inr ⟨List.replicate k 32 ++ flatT (p :: q), rfl⟩)
        | zero =>
          obtain ⟨u, m⟩ := p
          have hp : u = c :: s := hp
          subst hp
          exact tokEnd_next hne h2
    show (toksL (t ++ (List.replicate n 32 ++ flatT r))).map (·.1) = t :: r.map (·.1)
    rw [toks_first e hne h32, List.map_cons, shT_fst, toks_blanks, flat_toks h3]
theorem cwords_flat {ps : List (List Nat × Nat)} (h : OkT ps) (n : Nat) : cwords (List.replicate n 32 ++ flatT ps) = ps.map fun p => ⟨p.1.toArray⟩ := by
  unfold cwords
  have e : (toksL (List.replicate n 32 ++ flatT ps)).map (·.1) = ps.map (·.1) := by rw [toks_blanks, flat_toks h]
  have e2 := congrArg (List.map fun l : List Nat => (⟨l.toArray⟩ : Str)) e
  rw [List.map_map, List.map_map] at e2
  exact e2
theorem tokEnd_dig {cs : List Nat} (h : NumText.AllDigits cs) (hne : cs ≠ []) (c : List Nat) (hc : ∀ x, c.head? = some x → inRun 48 57 x = false) : tokEnd (cs ++ c) 0 = cs.length ∧ tokEnd (45 :: cs ++ c) 0 = (45 :: cs).length := by
  obtain ⟨a, r, rfl⟩ : ∃ a t', cs = a :: t' := by
    cases cs with
    | nil => exact absurd rfl hne
    | cons a t => exact ⟨a, t, rfl⟩
  have ha := h a List.mem_cons_self
  have tw : ((a :: r ++ c).takeWhile (inRun 48 57)) = a :: r := by
    rw [tw_app _ _ _ hc]
    exact tw_all (inRun_dig h)
  have na : inRun 97 122 a = false := by
    unfold inRun
    rw [decide_eq_false (by omega), Bool.false_and]
  constructor
  · unfold tokEnd
    rw [show runEnd (a :: r ++ c) 0 97 122 = 0 from runEnd_out (c := a) rfl na, if_neg (by omega)]
    have ed : digAt (a :: r ++ c) 0 = 0 := by
      unfold digAt
      rw [if_neg (by show ¬ some a = some 45; intro e; cases e; omega)]
    rw [ed]
    have e3 : runEnd (a :: r ++ c) 0 48 57 = (a :: r).length := by
      unfold runEnd
      rw [List.drop_zero, tw, Nat.zero_add]
    rw [e3, if_pos (by rw [List.length_cons]; omega)]
  · unfold tokEnd
    rw [show runEnd (45 :: (a :: r) ++ c) 0 97 122 = 0 from runEnd_out (c := 45) rfl (by decide), if_neg (by omega)]
    have ed : digAt (45 :: (a :: r) ++ c) 0 = 1 := by
      unfold digAt
      exact if_pos rfl
    rw [ed]
    have e3 : runEnd (45 :: (a :: r) ++ c) 1 48 57 = (45 :: a :: r).length := by
      unfold runEnd
      show 1 + ((a :: r ++ c).takeWhile _).length = _
      rw [tw, List.length_cons (a := 45)]
      omega
    rw [e3, if_pos (by rw [List.length_cons, List.length_cons]; omega)]
theorem tokEnd_num (n : Int) (c : List Nat) (hc : ∀ x, c.head? = some x → inRun 48 57 x = false) : tokEnd (numC n ++ c) 0 = (numC n).length := by
  cases n with
  | ofNat m => exact (tokEnd_dig (digC_all m) (digC_ne m) c hc).1
  | negSucc k => exact (tokEnd_dig (digC_all (k + 1)) (digC_ne _) c hc).2
theorem alone_of {t : List Nat} (hne : t ≠ []) (h32 : t.head? ≠ some 32) (h : tokEnd (t ++ [32]) 0 = t.length) : aloneB t = true := by
  unfold aloneB
  rw [decide_eq_true h32, Bool.and_true, Bool.and_eq_true]
  refine ⟨by cases t with
    | nil => exact absurd rfl hne
    | cons a t => rfl, decide_eq_true ?_⟩
  obtain ⟨a, t0, rfl⟩ : ∃ a t', t = a :: t' := by
    cases t with
    | nil => exact absurd rfl hne
    | cons a t => exact ⟨a, t, rfl⟩
  have hp : ∀ lo hi : Nat, 32 < lo → ∀ c, ([32] : List Nat).head? = some c → inRun lo hi c = false := fun lo hi hlo c hc => by
    cases hc
    unfold inRun
    rw [decide_eq_false (by omega), Bool.false_and]
  have e1 : runEnd (a :: t0 ++ [32]) 0 97 122 = ((a :: t0).takeWhile (inRun 97 122)).length := by
    unfold runEnd
    rw [List.drop_zero, tw_app _ _ _ (hp 97 122 (by decide)), Nat.zero_add]
  have e2 : digAt (a :: t0 ++ [32]) 0 = digAt (a :: t0) 0 := rfl
  have hd := digAt_ge (a :: t0) 0
  have e3 : runEnd (a :: t0 ++ [32]) (digAt (a :: t0) 0) 48 57 = digAt (a :: t0) 0 + (((a :: t0).drop (digAt (a :: t0) 0)).takeWhile (inRun 48 57)).length := by
    unfold runEnd
    rw [List.drop_append_of_le_length (by rw [List.length_cons]; omega), tw_app _ _ _ (hp 48 57 (by decide))]
  unfold tokEnd at h
  unfold tokEnd0
  rw [e1, e2, e3, List.drop_zero] at h
  by_cases q1 : 0 < ((a :: t0).takeWhile (inRun 97 122)).length
  · rw [if_pos q1] at h ⊢
    exact h
  · rw [if_neg q1] at h ⊢
    by_cases q2 : 0 < (((a :: t0).drop (digAt (a :: t0) 0)).takeWhile (inRun 48 57)).length
    · rw [if_pos (by omega)] at h
      rw [if_pos q2]
      exact h
    · rw [if_neg (by omega)] at h
      rw [if_neg q2]
      exact h
theorem num_alone (n : Int) : aloneB (numC n) = true := by
  obtain ⟨c, r, e, hc⟩ := numC_ne n
  refine alone_of (by rw [e]; exact List.cons_ne_nil _ _) (by rw [e]; intro q; cases q; omega) (tokEnd_num n [32] fun x hx => by cases hx; decide)
theorem num_fits (n : Int) {c : Nat} (hc : inRun 48 57 c = false) : tokEnd (numC n ++ [c]) 0 = (numC n).length := tokEnd_num n [c] fun x hx => by cases hx; exact hc
end Own

namespace Own
open PySem PySem.Spec PyProof.Rows L2
/-! ### what laws about conditions share -/
theorem fn_mono {P : Program} {w : World} {K : PySem.W.Frag} {mg : Str → Option Value} {base : Heap} {CX : CXT} {k : Nat} {f : Addr} {fd : FuncData} {ps : List Str} {sp sp' : Sp} (F : FnOk P w K mg base CX k f fd ps sp) (h : ∀ vs H Q E, sp' vs H Q E → sp vs H Q E) : FnOk P w K mg base CX k f fd ps sp' :=
  ⟨fun vs H Q E q => F.len vs H Q E (h _ _ _ _ q), fun A outer s H args us vs Q E hr e0 hb r q => F.run A outer s H args us vs Q E hr e0 hb r (h _ _ _ _ q)⟩
/-- Cond(text, table), the text one that can be read -/
def spCondR (CT C : Addr) : Sp := fun vs H Q _ => ∃ (p tb dx : Addr) (z : Str) (cols : List Str) (t : Tx), vs = [.ref p, .str z, .ref tb] ∧ H p = some (.ins C dx []) ∧ TabF H CT tb cols ∧ (∀ c ∈ cols, c ∉ wordL) ∧ (∀ s ∈ signL, s ∉ cols) ∧ WfX cols t ∧
  cwords z.cps.toList = wordsX t ∧ z.length ≤ 100000 ∧ ∀ H', But p H H' → CondAt H' C p tb (treeX cols t) (some (wordsX t)) → Q .non H'
theorem condR_of {K : PySem.W.Frag} {CT C CB : Addr} {vs : List V} {H : Hp} {Q : VK} {E : XK} (h : spCondR CT C vs H Q E) : spCondX K CT C CB vs H Q E0 := by
  obtain ⟨p, tb, dx, z, cols, t, rfl, hp, hT, hc, hs, hw, hz, hl, k⟩ := h
  obtain ⟨g1, g2⟩ := gram_text hc hs hw hz
  refine ⟨p, tb, dx, .str z, .str, cols, rfl, hp, hT, hc, rfl, (fun z' e => by cases e; exact hl), (fun n => absurd rfl n), ?_, ?_⟩
  · rintro z' its o e _ hI ho H' B hA
    cases e
    rw [g2 its o hI ho, hz] at hA
    exact k H' B hA
  · rintro z' i e hwr
    cases e
    rw [g1] at hwr
    cases hwr
/-- columns of a law -/
structure ColOk (cols : List Str) : Prop where
  nw : ∀ c ∈ cols, c ∉ wordL
  ns : ∀ s ∈ signL, s ∉ cols
  al : ∀ c ∈ cols, aloneB c.cps.toList = true
  lo : ∀ c ∈ cols, ∃ a r, c.cps.toList = a :: r ∧ 97 ≤ a
  ln : ∀ c ∈ cols, c.length ≤ 1000
  due : dueV (cols.map V.str) = .non
  nd : cols.Nodup
  len : cols.length ≤ 3
def colB (cols : List Str) : Bool := cols.all (fun c => !decide (c ∈ wordL) && (!decide (c ∈ signL) && (aloneB c.cps.toList && (decide (97 ≤ c.cps.toList.headD 0) && decide (c.length ≤ 1000))))) && (decide (dueV (cols.map V.str) = .non) && (decide cols.Nodup && decide (cols.length ≤ 3)))
theorem col_ok {cols : List Str} (h : colB cols = true) : ColOk cols := by
  unfold colB at h
  simp only [Bool.and_eq_true, List.all_eq_true, decide_eq_true_eq, Bool.not_eq_true', decide_eq_false_iff_not] at h
  obtain ⟨h1, h2, h3, h4⟩ := h
  refine ⟨fun c hc => (h1 c hc).1, fun s hs hc => (h1 s hc).2.1 hs, fun c hc => (h1 c hc).2.2.1, fun c hc => ?_, fun c hc => (h1 c hc).2.2.2.2, h2, h3, h4⟩
  have q := (h1 c hc).2.2.2.1
  cases e : c.cps.toList with
  | nil => rw [e] at q; exact absurd q (by decide)
  | cons a r => rw [e] at q; exact ⟨a, r, rfl, q⟩
theorem num_col {cols : List Str} (hc : ColOk cols) (n : Int) : numS n ∉ cols := fun h => by
  obtain ⟨a, r, e, ha⟩ := hc.lo _ h
  rw [numS_cps] at e
  obtain ⟨c, r', e', hc'⟩ := numC_ne n
  rw [e'] at e
  cases e
  omega
theorem sign_split {s : Str} (h : s ∈ signL) : s ∈ (["=", "!="] : List Str) ∨ s ∈ (["<", "<=", ">", ">="] : List Str) := by
  have q : ∀ s ∈ signL, s ∈ (["=", "!="] : List Str) ∨ s ∈ (["<", "<=", ">", ">="] : List Str) := by decide
  exact q s h
theorem wf_num {cols : List Str} {w s : Str} (hw : w ∈ cols) (hs : s ∈ signL) {n : Int} (hn : Num30 n) : WfX cols (.ts w s (numS n)) :=
  ⟨hw, (sign_split hs).elim (fun h => .inl ⟨h, .inr (numS_ok hn).1⟩) fun h => .inr ⟨h, (numS_ok hn).1⟩⟩
theorem tst_num {cols : List Str} (hc : ColOk cols) {w s : Str} {n : Int} (hn : Num30 n) : tstOf cols w s (numS n) = (cols.idxOf w, s, .inr n) := by
  unfold tstOf
  rw [if_neg (num_col hc n), (numS_ok hn).2.1]
theorem tst_col {cols : List Str} {w s x : Str} (hx : x ∈ cols) : tstOf cols w s x = (cols.idxOf w, s, .inl (cols.idxOf x)) := by
  unfold tstOf
  rw [if_pos hx]
theorem sign_alone {s : Str} (h : s ∈ signL) : aloneB s.cps.toList = true ∧ s.length ≤ 2 := by
  have q : ∀ s ∈ signL, aloneB s.cps.toList = true ∧ s.length ≤ 2 := by decide +kernel
  exact q s h
/-- three tokens with a blank between two -/
theorem words3 {a b c : Str} (ha : aloneB a.cps.toList = true) (hb : aloneB b.cps.toList = true) (hc : aloneB c.cps.toList = true) {z : Str} (hz : z.cps.toList = a.cps.toList ++ (32 :: (b.cps.toList ++ (32 :: c.cps.toList)))) : cwords z.cps.toList = [a, b, c] := by
  have ok : OkT [(a.cps.toList, 1), (b.cps.toList, 1), (c.cps.toList, 0)] := ⟨ha, .inl (by decide), hb, .inl (by decide), hc, .inr (.inl rfl), trivial⟩
  have e := cwords_flat ok 0
  have e2 : List.replicate 0 32 ++ flatT [(a.cps.toList, 1), (b.cps.toList, 1), (c.cps.toList, 0)] = z.cps.toList := by
    rw [hz]
    simp [flatT]
  rw [e2] at e
  exact e
theorem num_aloneS (n : Int) : aloneB (numS n).cps.toList = true := by rw [numS_cps]; exact num_alone n
theorem numS_eq (n : Int) : (toString n : Str) = numS n := rfl
theorem log_198 {n : Int} (h : n.natAbs < 10 ^ 202) : n.natAbs.log2 < 1920 := by
  by_cases q : n.natAbs = 0
  · rw [q]; decide
  · rw [Nat.log2_lt q]
    exact Nat.lt_trans h (by decide +kernel)
end Own
namespace Own
open PySem PySem.Spec PyProof.Rows L2
theorem pickS {P : Str → Prop} (R : Str → Prop) {G : Prop} (main : (∀ z, R z → P z) → G) (rest : ∀ z, R z → P z) : G := main rest
theorem pickB {P : Bool → Prop} (R : Bool → Prop) {G : Prop} (main : (∀ z, R z → P z) → G) (rest : ∀ z, R z → P z) : G := main rest
end Own
namespace Own
open PySem PySem.Spec PyProof.Rows L2
theorem app_cps3 (a b c : Str) : (a ++ b ++ c).cps.toList = a.cps.toList ++ (b.cps.toList ++ c.cps.toList) := by
  rw [cps_app, cps_app, List.append_assoc]
/-- column, sign and number, as a law puts them together -/
theorem test_text {cols : List Str} (hc : ColOk cols) {w s m : Str} (hw : w ∈ cols) (hs : s ∈ signL) {n : Int} (hn : Num30 n) (hm : m.cps.toList = 32 :: (s.cps.toList ++ [32])) :
    cwords ((w ++ m) ++ (toString n : Str)).cps.toList = wordsX (.ts w s (numS n)) ∧ ((w ++ m) ++ (toString n : Str)).length ≤ 100000 ∧ WfX cols (.ts w s (numS n)) ∧ treeX cols (.ts w s (numS n)) = some (.lf (.ts (cols.idxOf w, s, .inr n))) := by
  refine ⟨words3 (hc.al w hw) (sign_alone hs).1 (num_aloneS n) (by rw [app_cps3, hm]; simp [numS]), ?_, wf_num hw hs hn, ?_⟩
  · rw [Str.length_append, Str.length_append]
    have h1 := hc.ln w hw
    have h2 : m.length = s.length + 2 := by
      rw [str_len, hm, str_len]
      simp
    have h3 := (sign_alone hs).2
    have h4 : (toString n : Str).length ≤ 31 := (numS_ok hn).2.2
    omega
  · show some (Tr.lf (.ts (tstOf cols w s (numS n)))) = _
    rw [tst_num hc hn]
theorem num30 {n : Int} (h : n.natAbs < 10 ^ (6 * (5 : Int).toNat)) : Num30 n := h
theorem num30_log {n : Int} (h : Num30 n) : n.natAbs.log2 < 1920 := log_198 (Nat.lt_of_lt_of_le h (Nat.pow_le_pow_right (by decide) (by decide)))
end Own
namespace Own
open PySem PySem.Spec PyProof.Rows L2
/-- a condition is made from a text that can be read -/
theorem mk_cond {H : Hp} {CT C tb : Addr} {cols : List Str} (hT : TabF H CT tb cols) (ck : ColOk cols) {z : Str} {t : Tx} (x1 : cwords z.cps.toList = wordsX t) (x2 : z.length ≤ 100000) (x3 : WfX cols t) {R : Addr → Hp → Prop} {E : XK}
    (k : ∀ p H', Same H H' → CondAt H' C p tb (treeX cols t) (some (wordsX t)) → R p H') :
    ∀ p dx, H p = none → H dx = none → dx ≠ p → spCondR CT C [.ref p, .str z, .ref tb] (upd (upd H dx (.own p)) p (.ins C dx [])) (fun v H' => v = .non ∧ R p H') E := fun p dx np ndx ned => by
  have s : Same H (upd (upd H dx (.own p)) p (.ins C dx [])) := (same_newH (o := .own p) ndx).trans (same_newH (o := .ins C dx []) (by rw [upd_ne ned.symm]; exact np))
  exact ⟨p, tb, dx, z, cols, t, rfl, upd_same, hT.lsts (.same s), ck.nw, ck.ns, x3, x1, x2, fun H' B hc => ⟨rfl, k p H' (made_same np ndx B) hc⟩⟩
end Own
namespace Own
theorem ite_f {b : Bool} {L R : Prop} (h : b = false) (k : R) : if b = true then L else R := by
  rw [if_neg (by rw [h]; exact nofun)]
  exact k
theorem ite_t {b : Bool} {L R : Prop} (h : b = true) (k : L) : if b = true then L else R := by
  rw [if_pos h]
  exact k
theorem ne_self {α : Type} [DecidableEq α] (x : α) : (!decide (x = x)) = false := by simp
end Own
namespace Own
open PySem PySem.Spec PyProof.Rows L2
/-- two ways to a value, one way on -/
theorem pickT {σ : L2.St} {H : Hp} {Q : VK} (R : Str → Prop) {G : Prop} (main : (∀ z, R z → tC (V.str z) σ H Q) → G) (rest : ∀ z, R z → tC (V.str z) σ H Q) : G := main rest
end Own

namespace Own
open PySem PySem.Spec PyProof.Rows L2
/-- a list of one's own at l that grows: its items are known, none of them the bag or the list -/
structure Parts (H : Hp) (b l : Addr) (ps : List V) (H' : Hp) : Prop where
  but : But b H H'
  bag : Bag H' b
  lb : l ≠ b
  nl : H l = none
  hl : H' l = some (.lst ps)
  kn : ∀ x ∈ ps, (∃ t, kd H' x = some t) ∧ x ≠ .ref b ∧ x ≠ .ref l
section
variable {H H' H2 : Hp} {b l z : Addr} {ps : List V} {v : V} {o : HO} {t : Kd}
theorem Parts.start (B : But b H H') (hb : Bag H' b) (nl : H' l = none) : Parts H b l [] (upd H' l (.lst [])) :=
  ⟨B.new nl, hb.new nl, (hb.ne nl).symm, B.free (hb.ne nl).symm nl, upd_same, fun x h => by cases h⟩
theorem Parts.on (S : Parts H b l ps H') (B : But b H' H2) (hb : Bag H2 b) : Parts H b l ps H2 :=
  ⟨S.but.trans B, hb, S.lb, S.nl, B _ _ S.lb S.hl, fun x hx => let ⟨⟨t, ht⟩, n1, n2⟩ := S.kn x hx; ⟨⟨t, kd_but ht B n1⟩, n1, n2⟩⟩
theorem Parts.new (S : Parts H b l ps H') (nz : H' z = none) : Parts H b l ps (upd H' z o) := S.on (But.new But.refl nz) (S.bag.new nz)
theorem Parts.same (S : Parts H b l ps H') (s : Same H' H2) : Parts H b l ps H2 := S.on (.same s) (S.bag.same s)
theorem Parts.set (S : Parts H b l ps H') {qs : List V} (h : ∀ x ∈ qs, (∃ t, kd H' x = some t) ∧ x ≠ .ref b ∧ x ≠ .ref l) : Parts H b l qs (upd H' l (.lst qs)) :=
  ⟨S.but.putb S.nl, S.bag.put S.lb.symm, S.lb, S.nl, upd_same, fun x hx => let ⟨⟨t, ht⟩, n1, n2⟩ := h x hx; ⟨⟨t, kd_put ht n2⟩, n1, n2⟩⟩
theorem Parts.snoc (S : Parts H b l ps H') (h : (∃ t, kd H' v = some t) ∧ v ≠ .ref b ∧ v ≠ .ref l) : Parts H b l (ps ++ [v]) (upd H' l (.lst (ps ++ [v]))) := S.set fun x hx => by
  rcases List.mem_append.mp hx with hx | hx
  · exact S.kn x hx
  · rw [List.mem_singleton.mp hx]
    exact h
theorem int_kn {H : Hp} {b l : Addr} (i : Int) : (∃ t, kd H (.int i) = some t) ∧ V.int i ≠ .ref b ∧ V.int i ≠ .ref l := ⟨⟨_, rfl⟩, nofun, nofun⟩
/-- another list, with some of the items -/
theorem Parts.fresh (S : Parts H b l ps H') (nz : H' z = none) {qs : List V} (h : ∀ x ∈ qs, x ∈ ps) : Parts H b z qs (upd H' z (.lst qs)) := by
  have nzb : z ≠ b := (S.bag.ne nz).symm
  refine ⟨S.but.new nz, S.bag.new nz, nzb, S.but.free nzb nz, upd_same, fun x hx => ?_⟩
  obtain ⟨⟨t, ht⟩, n1, n2⟩ := S.kn x (h x hx)
  exact ⟨⟨t, kd_new ht nz⟩, n1, kd_ne ht nz⟩
theorem Parts.tup (S : Parts H b l ps H') (hl : ps.length ≤ 1000) (nz : H' z = none) : Known (upd H' z (.tup ps)) (.ref z) := known_tup upd_same hl fun x hx => let ⟨⟨t, ht⟩, _⟩ := S.kn x hx; ⟨t, kd_new ht nz⟩
end
/-- one of some values that were there is drawn: what is known of it -/
theorem kn_of {H H' : Hp} {b l : Addr} {v : V} {t : Kd} (h : kd H v = some t) (B : But b H H') (n1 : v ≠ .ref b) (n2 : v ≠ .ref l) : (∃ t, kd H' v = some t) ∧ v ≠ .ref b ∧ v ≠ .ref l := ⟨⟨t, kd_but h B n1⟩, n1, n2⟩
/-- what is a row of m columns is a tuple of m integers -/
theorem rowB_row {H : Hp} {v : V} {m : Nat} (hk : Known H v) (h : rowB H v (m : Nat) = true) : ∃ (q : Addr) (r : List Int), v = .ref q ∧ H q = some (.tup (r.map V.int)) ∧ r.length = m := by
  obtain ⟨⟨t, ht⟩, _⟩ := hk
  by_cases e : t = .tup
  · subst e
    obtain ⟨a, xs, rfl, ha⟩ := kd_tuple ht
    rw [rowB_tup ha, Bool.and_eq_true, decide_eq_true_eq] at h
    obtain ⟨h1, h2⟩ := h
    have hx : ∀ x ∈ xs, ∃ i, x = V.int i := fun x hx => by
      have q := List.all_eq_true.mp h2 x hx
      cases x <;> first | exact ⟨_, rfl⟩ | cases q
    obtain ⟨r, hr⟩ : ∃ r : List Int, xs = r.map V.int := by
      clear h1 h2 ha ht
      induction xs with
      | nil => exact ⟨[], rfl⟩
      | cons x xs ih =>
        obtain ⟨i, rfl⟩ := hx x List.mem_cons_self
        obtain ⟨r, rfl⟩ := ih fun y hy => hx y (List.mem_cons_of_mem _ hy)
        exact ⟨i :: r, rfl⟩
    subst hr
    rw [List.length_map] at h1
    exact ⟨a, r, rfl, ha, by omega⟩
  · rw [rowB_not ht e] at h
    cases h
end Own

namespace Own
open PySem PySem.Spec PyProof.Rows L2
/-! ### values of conditions on rows, as laws reckon them -/
/-- a list of what is due: None, True or False -/
def Dues (H : Hp) (l : Addr) (as : List Val3) : Prop := H l = some (.lst (as.map v3))
def spNum : Sp := fun vs H Q _ => ∃ b : Addr, vs = [.ref b] ∧ Bag H b ∧ ∀ (n : Int) (H' : Hp), Num30 n → But b H H' → Bag H' b → Q (.int n) H'
def spJoined : Sp := fun vs H Q _ => ∃ (s : Str) (l1 l2 : Addr) (as bs : List Val3), vs = [.str s, .ref l1, .ref l2] ∧ (s = "&" ∨ s = "|") ∧ Dues H l1 as ∧ Dues H l2 bs ∧ as.length = bs.length ∧ as.length ≤ 1000 ∧
  ∀ (l : Addr) (H' : Hp), Same H H' → H l = none → Dues H' l (List.zipWith (join3 s) as bs) → Q (.ref l) H'
def valsOf (rs : List (List Int)) (o : Option Tr) : List Val3 := rs.map fun r => ov r o
theorem vals_join (rs : List (List Int)) (s : Str) (a b : Option Tr) : valsOf rs (tJoin s a b) = List.zipWith (join3 s) (valsOf rs a) (valsOf rs b) := by
  unfold valsOf
  rw [List.zipWith_map]
  rw [List.zipWith_self]
  congr 1
  funext r
  exact ov_join r s a b
theorem vals_neg (rs : List (List Int)) (a : Option Tr) : valsOf rs (tNeg a) = (valsOf rs a).map (Option.map (!·)) := by
  unfold valsOf
  rw [List.map_map]
  congr 1
  funext r
  exact ov_neg r a
theorem vals_len (rs : List (List Int)) (a : Option Tr) : (valsOf rs a).length = rs.length := List.length_map ..
theorem v3_non (a : Val3) : decide (v3 a = .non) = a.isNone := by cases a <;> rfl
theorem zip_snoc3 {as bs : List Val3} {i : Nat} {x y : Val3} (s : Str) (hx : as[i]? = some x) (hy : bs[i]? = some y) : List.zipWith (join3 s) (as.take (i + 1)) (bs.take (i + 1)) = List.zipWith (join3 s) (as.take i) (bs.take i) ++ [join3 s x y] := by
  have h1 := (List.getElem?_eq_some_iff.mp hx).1
  have h2 := (List.getElem?_eq_some_iff.mp hy).1
  rw [take_snoc hx, take_snoc hy]
  exact List.zipWith_append (by rw [List.length_take, List.length_take]; omega)
/-- rows in a list -/
def RowsAt (H : Hp) (l : Addr) (rs : List (List Int)) : Prop := ∃ xs, H l = some (.lst xs) ∧ Al (fun r v => IntT H v r) rs xs
theorem RowsAt.lsts {H H' : Hp} {l : Addr} {rs : List (List Int)} (h : RowsAt H l rs) (hl : ∀ xs, H l = some (.lst xs) → H' l = some (.lst xs)) (e : Lsts H H') : RowsAt H' l rs := by
  obtain ⟨xs, h1, h2⟩ := h
  exact ⟨xs, hl _ h1, h2.mono fun r v q => q.lsts e⟩
theorem RowsAt.same {H H' : Hp} {l : Addr} {rs : List (List Int)} (h : RowsAt H l rs) (e : Same H H') : RowsAt H' l rs := h.lsts (fun _ q => e _ _ q) (.same e)
/-- cond(row) for each row -/
def spTold (K : PySem.W.Frag) (C : Addr) : Sp := fun vs H Q _ => ∃ (p tb rl : Addr) (o : Option Tr) (ws : Option (List Str)) (rs : List (List Int)), vs = [.ref p, .ref rl] ∧ CondAt H C p tb o ws ∧ RowsAt H rl rs ∧ rs.length ≤ 1000 ∧ (∀ r ∈ rs, OTrWf r.length o) ∧
  ∀ (l : Addr) (H' : Hp), Same H H' → H l = none → Dues H' l (valsOf rs o) → Q (.ref l) H'
end Own
namespace Own
open PySem PySem.Spec PyProof.Rows L2
def osz (o : Option Tr) : Nat := match o with
  | none => 0
  | some t => (codeT t).length
theorem osz_join (s : Str) (a b : Option Tr) : osz (tJoin s a b) ≤ osz a + osz b + 1 := by
  cases a <;> cases b <;> unfold osz tJoin <;> simp only [codeT, List.length_append, List.length_singleton] <;> omega
theorem osz_neg (a : Option Tr) : osz (tNeg a) ≤ osz a + 1 := by
  cases a with
  | none => exact Nat.zero_le _
  | some t => show (codeT t ++ [_]).length ≤ _; rw [List.length_append]; exact Nat.le_refl _
/-- its tests are of columns of a row of m, its size is at most n -/
def OWf (m n : Nat) (o : Option Tr) : Prop := (∀ t, o = some t → TrWf m t) ∧ osz o ≤ n
theorem OWf.tr {m n : Nat} {o : Option Tr} (h : OWf m n o) (hn : n ≤ 100000) : OTrWf m o := fun t e => ⟨by
  have q := h.2
  rw [e] at q
  exact Nat.le_trans q hn, h.1 t e⟩
theorem OWf.mono {m n k : Nat} {o : Option Tr} (h : OWf m n o) (hn : n ≤ k) : OWf m k o := ⟨h.1, Nat.le_trans h.2 hn⟩
theorem OWf.join {m n k : Nat} {s : Str} {a b : Option Tr} (hs : s = "&" ∨ s = "|") (h : OWf m n a) (g : OWf m k b) : OWf m (n + k + 1) (tJoin s a b) := by
  refine ⟨fun t e => ?_, Nat.le_trans (osz_join s a b) (by have := h.2; have := g.2; omega)⟩
  cases a with
  | none => exact g.1 t e
  | some x =>
    cases b with
    | none => exact h.1 t e
    | some y =>
      cases e
      exact ⟨hs, h.1 x rfl, g.1 y rfl⟩
theorem OWf.neg {m n : Nat} {a : Option Tr} (h : OWf m n a) : OWf m (n + 1) (tNeg a) := by
  refine ⟨fun t e => ?_, Nat.le_trans (osz_neg a) (by have := h.2; omega)⟩
  cases a with
  | none => cases e
  | some x => cases e; exact h.1 x rfl
theorem OWf.non (m n : Nat) : OWf m n none := ⟨fun t e => (nomatch e), Nat.zero_le _⟩
theorem vals_const {rs : List (List Int)} {o : Option Tr} {c : Val3} (h : ∀ r ∈ rs, ov r o = c) : valsOf rs o = List.replicate rs.length c := by
  unfold valsOf
  rw [List.eq_replicate_iff]
  refine ⟨List.length_map .., fun x hx => ?_⟩
  obtain ⟨r, hr, rfl⟩ := List.mem_map.mp hx
  exact h r hr
theorem rep_map {α β : Type} (f : α → β) (n : Nat) (x : α) : (List.replicate n x).map f = List.replicate n (f x) := List.map_replicate
/-- a word as a whole text -/
def wordV3 (w : Str) : Val3 := if w = "blank" then none else some (decide (w = "every"))
theorem word_text {w : Str} (h : w = "blank" ∨ w = "every" ∨ w = "none") (cols : List Str) : cwords w.cps.toList = wordsX (.wd w) ∧ w.length ≤ 100000 ∧ WfX cols (.wd w) ∧ (∀ r, ov r (treeX cols (.wd w)) = wordV3 w) ∧ ∀ m, OWf m 1 (treeX cols (.wd w)) := by
  refine ⟨?_, ?_, ?_, ?_, ?_⟩
  · rcases h with rfl | rfl | rfl <;> decide +kernel
  · rcases h with rfl | rfl | rfl <;> decide +kernel
  · show _ ∈ _
    rcases h with rfl | rfl | rfl <;> decide
  · intro r
    rcases h with rfl | rfl | rfl <;> rfl
  · intro m
    rcases h with rfl | rfl | rfl
    · exact OWf.non _ _
    · exact ⟨fun t e => by cases e; exact .inl rfl, Nat.le_refl _⟩
    · exact ⟨fun t e => by cases e; exact .inr rfl, Nat.le_refl _⟩
theorem ts_wf {m a : Nat} (h : a < m) (s : Str) (n : Int) : OWf m 1 (some (.lf (.ts (a, s, .inr n)))) := ⟨fun t e => by cases e; exact h, Nat.le_refl _⟩
theorem ts_wfc {m a b : Nat} (h : a < m) (g : b < m) (s : Str) : OWf m 1 (some (.lf (.ts (a, s, .inl b)))) := ⟨fun t e => by cases e; exact ⟨h, g⟩, Nat.le_refl _⟩
def cols2 : List Str := ["id", "owner"]
theorem cols2_ok : ColOk cols2 := col_ok (by decide +kernel)
theorem cols2_str : ∀ c ∈ cols2, PyData.strOk c = true := by decide +kernel
end Own
namespace Own
open PySem PySem.Spec PyProof.Rows L2
theorem pickV {P : V → Prop} (R : V → Prop) {G : Prop} (main : (∀ z, R z → P z) → G) (rest : ∀ z, R z → P z) : G := main rest
theorem RowsAt.but {H H' : Hp} {b l : Addr} {rs : List (List Int)} (h : RowsAt H l rs) (hb : Bag H b) (n : l ≠ b) (e : But b H H') : RowsAt H' l rs := h.lsts (fun _ q => e _ _ n q) (Lsts.but hb e)
/-- < and >= of a column and a number -/
theorem hold_lt {cols : List Str} (hc : ColOk cols) {i : Nat} {w : Str} (hw : cols[i]? = some w) {r : List Int} {n : Int} (b : Bool) : holdB r (cols.idxOf w, (if b = true then "<" else ">=" : Str), .inr n) = (decide (r.getD i 0 < n) == b) := by
  have e : cols.idxOf w = i := by
    obtain ⟨h1, rfl⟩ := List.getElem?_eq_some_iff.mp hw
    exact hc.nd.idxOf_getElem i h1
  rw [e]
  cases b
  · show cmpB ">=" _ _ = _
    unfold cmpB
    rw [if_neg (by decide), if_neg (by decide), if_neg (by decide), if_neg (by decide), if_neg (by decide)]
    by_cases h : r.getD i 0 < n
    · rw [decide_eq_true h, decide_eq_false (by omega)]
      rfl
    · rw [decide_eq_false h, decide_eq_true (by omega)]
      rfl
  · show cmpB "<" _ _ = _
    unfold cmpB
    rw [if_neg (by decide), if_neg (by decide), if_pos rfl]
    cases decide (r.getD i 0 < n) <;> rfl
end Own
namespace Own
open PySem PySem.Spec PyProof.Rows L2
/-- .. at an address where nothing was -/
theorem mk_condF {H : Hp} {CT C tb : Addr} {cols : List Str} (hT : TabF H CT tb cols) (ck : ColOk cols) {z : Str} {t : Tx} (x1 : cwords z.cps.toList = wordsX t) (x2 : z.length ≤ 100000) (x3 : WfX cols t) {R : Addr → Hp → Prop} {E : XK}
    (k : ∀ p H', Same H H' → H p = none → CondAt H' C p tb (treeX cols t) (some (wordsX t)) → R p H') :
    ∀ p dx, H p = none → H dx = none → dx ≠ p → spCondR CT C [.ref p, .str z, .ref tb] (upd (upd H dx (.own p)) p (.ins C dx [])) (fun v H' => v = .non ∧ R p H') E := fun p dx np ndx ned => by
  have s : Same H (upd (upd H dx (.own p)) p (.ins C dx [])) := (same_newH (o := .own p) ndx).trans (same_newH (o := .ins C dx []) (by rw [upd_ne ned.symm]; exact np))
  exact ⟨p, tb, dx, z, cols, t, rfl, upd_same, hT.lsts (.same s), ck.nw, ck.ns, x3, x1, x2, fun H' B hc => ⟨rfl, k p H' (made_same np ndx B) np hc⟩⟩
end Own

namespace Own
open PySem PySem.Spec PyProof.Rows L2
theorem rep_one (c : Nat) : ∀ (n : Nat) (a : Array Nat), (List.replicate n (#[c] : Array Nat)).foldl (· ++ ·) a = a ++ (List.replicate n c).toArray
  | 0, a => by simp
  | n + 1, a => by
    rw [List.replicate_succ, List.foldl_cons, rep_one c n, List.replicate_succ]
    apply Array.ext'
    simp
/-- one sign, many times -/
theorem op_mulS {X : Cx} : OpR X (binaryOp .Mult) (fun x y H Q => ∃ (c n : Nat), x = .str ⟨#[c]⟩ ∧ y = .int (n : Nat) ∧ n ≤ 1000 ∧ Q (.str ⟨(List.replicate n c).toArray⟩) H) := by
  intro pins s σ H x y v u Q I rx ry h
  obtain ⟨c, n, rfl, rfl, hn, q⟩ := h
  obtain ⟨t, rfl⟩ := rx
  obtain ⟨t2, rfl⟩ := ry
  have e1 : (⟨#[c]⟩ : Str).length = 1 := rfl
  refine PySem.P.mul_str (by simp; omega) (fun h1 _ => ?_) (fun _ _ => ?_) ?_
  · rw [e1]
    have : (1 : Int) ≤ (2 ^ 63 - 1) / (n : Int) := Int.le_ediv_of_mul_le (by omega) (by omega)
    omega
  · rw [e1]
    unfold Builtin.Str.tooLong
    rw [decide_eq_false]
    rw [sizeLine_eq]
    omega
  · match n, hn, q with
    | 0, _, q => exact ⟨by decide, ⟨.str ⟨#[]⟩, H, I.tok _, ⟨_, rfl⟩, q⟩⟩
    | 1, _, q => exact ⟨.str ⟨#[c]⟩, H, I, ⟨t, rfl⟩, q⟩
    | n + 2, hn, q =>
      rw [if_neg (by omega), if_neg (by rw [e1]; simp; omega)]
      have e2 : ((n + 2 : Nat) : Int).toNat = n + 2 := by omega
      have e3 := rep_one c (n + 2) #[]
      rw [show (#[] : Array Nat) ++ (List.replicate (n + 2) c).toArray = (List.replicate (n + 2) c).toArray by simp] at e3
      rw [e2]
      show Made.post (Made.str ⟨(List.replicate (n + 2) (#[c] : Array Nat)).foldl (· ++ ·) #[]⟩) _ _
      rw [e3]
      exact ⟨by rw [sizeLine_eq]; show (List.replicate (n + 2) c).toArray.size ≤ _; rw [List.size_toArray, List.length_replicate]; omega, ⟨.str ⟨(List.replicate (n + 2) c).toArray⟩, H, I.tok _, ⟨_, rfl⟩, q⟩⟩
end Own

namespace Own
open PySem PySem.Spec PyProof.Rows L2
/-! ### tokens that stand alone, and lists of them -/
def tkB (w : Str) : Bool := aloneB w.cps.toList && decide (w.length ≤ 40) && PyData.strOk w
def TkOk (w : Str) : Prop := tkB w = true
theorem TkOk.alone {w : Str} (h : TkOk w) : aloneB w.cps.toList = true := by
  unfold TkOk tkB at h
  simp only [Bool.and_eq_true] at h
  exact h.1.1
theorem TkOk.len {w : Str} (h : TkOk w) : w.length ≤ 40 := by
  unfold TkOk tkB at h
  simp only [Bool.and_eq_true, decide_eq_true_eq] at h
  exact h.1.2
theorem TkOk.ok {w : Str} (h : TkOk w) : PyData.strOk w = true := by
  unfold TkOk tkB at h
  simp only [Bool.and_eq_true] at h
  exact h.2
theorem tk_num {i : Int} (h1 : -100 ≤ i) (h2 : i < 200) : TkOk (toString i) := by
  have q : ∀ k : Fin 300, tkB (toString ((k.val : Int) - 100)) = true := by decide +kernel
  have e := q ⟨(i + 100).toNat, by omega⟩
  rw [show (((i + 100).toNat : Nat) : Int) - 100 = i by omega] at e
  exact e
theorem mem_tk {ws : List Str} (h : ws.all tkB = true) {v : V} (hv : v ∈ ws.map V.str) : ∃ w, v = .str w ∧ TkOk w := by
  obtain ⟨w, hw, rfl⟩ := List.mem_map.mp hv
  exact ⟨w, rfl, List.all_eq_true.mp h w hw⟩
/-- a list of tokens that grows -/
structure FS (H : Hp) (b l : Addr) (ws : List Str) (n : Nat) (H' : Hp) : Prop where
  but : But b H H'
  bag : Bag H' b
  nl : H l = none
  lb : l ≠ b
  hl : H' l = some (.lst (ws.map V.str))
  ok : ∀ w ∈ ws, TkOk w
  len : ws.length ≤ n
section
variable {H H' H2 : Hp} {b l p z : Addr} {ws vs : List Str} {n m : Nat} {w : Str} {o : HO}
theorem FS.on (S : FS H b l ws n H') (B : But b H' H2) (hb : Bag H2 b) : FS H b l ws n H2 := ⟨S.but.trans B, hb, S.nl, S.lb, B _ _ S.lb S.hl, S.ok, S.len⟩
theorem FS.new (S : FS H b l ws n H') (nz : H' z = none) : FS H b l ws n (upd H' z o) := S.on (But.new But.refl nz) (S.bag.new nz)
theorem FS.more (S : FS H b l ws n H') (h : n ≤ m) : FS H b l ws m H' := ⟨S.but, S.bag, S.nl, S.lb, S.hl, S.ok, Nat.le_trans S.len h⟩
theorem FS.put (S : FS H b l ws n H') (hw : TkOk w) : FS H b l (ws ++ [w]) (n + 1) (upd H' l (.lst (ws.map V.str ++ [V.str w]))) := by
  refine ⟨S.but.putb S.nl, S.bag.put S.lb.symm, S.nl, S.lb, by rw [upd_same, List.map_append]; rfl, fun x hx => ?_, by rw [List.length_append, List.length_singleton]; have := S.len; omega⟩
  rcases List.mem_append.mp hx with h | h
  · exact S.ok x h
  · rw [List.mem_singleton.mp h]
    exact hw
theorem FS.cat (S : FS H b l ws n H') (np : H' p = none) (hv : ∀ w ∈ vs, TkOk w) : FS H b p (ws ++ vs) (n + vs.length) (upd H' p (.lst (ws.map V.str ++ vs.map V.str))) := by
  have npb : p ≠ b := (S.bag.ne np).symm
  refine ⟨S.but.putb (S.but.free npb np), S.bag.new np, S.but.free npb np, npb, by rw [upd_same, List.map_append], fun x hx => ?_, by rw [List.length_append]; have := S.len; omega⟩
  rcases List.mem_append.mp hx with h | h
  · exact S.ok x h
  · exact hv x h
end
/-- the state of the law's making of tokens -/
def TkI (H : Hp) (b cl : Addr) (n : Nat) (σ : L2.St) (H' : Hp) : Prop := ∃ (l : Addr) (ws : List Str) (d : Nat) (t4 t5 t6 : Option V), σ = [some (.ref b), some (.ref cl), some (.ref l), some (.int (d : Nat)), t4, t5, t6] ∧ FS H b l ws n H' ∧ ws.length + d ≤ n
theorem FS.to {H : Hp} {b l : Addr} {ws : List Str} {n m : Nat} {H' : Hp} (S : FS H b l ws n H') (h : ws.length ≤ m) : FS H b l ws m H' := ⟨S.but, S.bag, S.nl, S.lb, S.hl, S.ok, h⟩
theorem strs_lst {ws : List Str} (h : ∀ w ∈ ws, PyData.strOk w = true) : SeqAt.shaped (.list (ws.map PyData.str)) = true := shaped_lst fun d hd => by
  obtain ⟨z, hz, rfl⟩ := List.mem_map.mp hd
  exact ⟨by simp only [PyData.canLay0]; exact h z hz, by simp only [PyData.depth]⟩
def Tks (H : Hp) (b cl : Addr) (cols : List Str) : Prop := Bag H b ∧ cl ≠ b ∧ H cl = some (.lst (cols.map V.str)) ∧ cols ≠ [] ∧ cols.length ≤ 3 ∧ ∀ w ∈ cols, TkOk w
def spToks8 : Sp := fun vs H Q _ => ∃ (b cl : Addr) (cols : List Str), vs = [.ref b, .ref cl] ∧ Tks H b cl cols ∧ ∀ (l : Addr) (ws : List Str) (H' : Hp), FS H b l ws 100 H' → Q (.ref l) H'
def spSpoilt8 : Sp := fun vs H Q _ => ∃ (b tl cl : Addr) (ws cols : List Str), vs = [.ref b, .ref tl, .ref cl] ∧ Tks H b cl cols ∧ tl ≠ b ∧ H tl = some (.lst (ws.map V.str)) ∧ (∀ w ∈ ws, TkOk w) ∧ ws.length ≤ 200 ∧
  ∀ (l : Addr) (vs : List Str) (H' : Hp), FS H b l vs (ws.length + 1) H' → Q (.ref l) H'
def spIsNum8 : Sp := fun vs H Q _ => ∃ w : Str, vs = [.str w] ∧ w.length ≤ 1000 ∧ ∀ H', Same H H' → Q (.bl (isNum w)) H'
abbrev zipT (ws : List Str) (qs : List Nat) : List (List Nat × Nat) := List.zipWith (fun w q => (w.cps.toList, q)) ws qs
def spDue8 : Sp := fun vs H Q _ => ∃ (tl pl cl : Addr) (ws cols : List Str) (qs : List Nat) (n : Nat), vs = [.ref tl, .ref pl, .int n, .ref cl] ∧ H tl = some (.lst (ws.map V.str)) ∧ H pl = some (.lst (qs.map fun (q : Nat) => V.int q)) ∧ H cl = some (.lst (cols.map V.str)) ∧
  cols.length ≤ 1000 ∧ (∀ c ∈ cols, c ∉ wordL) ∧ (∀ w ∈ ws, w.length ≤ 1000) ∧ ws.length = qs.length ∧ ∀ H', Same H H' → Q (wrongAt isNum cols n (zipT ws qs) sATOM 0) H'
def toldT (cols : List Str) : V → V
  | .str z => wrongAt isNum cols z.length (toksL z.cps.toList) sATOM 0
  | _ => .int (-1)
def spTold8 (CT : Addr) : Sp := fun vs H Q _ => ∃ (v : V) (t : Kd) (tb : Addr) (cols : List Str), vs = [v, .ref tb] ∧ TabF H CT tb cols ∧ (∀ c ∈ cols, c ∉ wordL) ∧ kd H v = some t ∧ (∀ z, v = .str z → z.length ≤ 100000) ∧ ∀ H', Same H H' → Q (toldT cols v) H'
/-! ### the law's own reading of a number -/
theorem cut_head (w : Str) : cutS w none (some 1) = ⟨(w.cps.toList.take 1).toArray⟩ := by
  unfold cutS
  have hl : w.cps.toList.length = w.length := Array.length_toList
  rw [show (1 : Int) = ((1 : Nat) : Int) from rfl, HT.sIx_none, HT.sIx_nat, List.drop_zero, Nat.sub_zero]
  by_cases q : 1 ≤ w.length
  · rw [Nat.min_eq_left q]
  · rw [List.take_of_length_le (by omega), List.take_of_length_le (by omega)]
theorem cut_tail (w : Str) : cutS w (some 1) none = ⟨(w.cps.toList.drop 1).toArray⟩ := by
  unfold cutS
  have hl : w.cps.toList.length = w.length := Array.length_toList
  rw [show (1 : Int) = ((1 : Nat) : Int) from rfl, HT.sIx_none, HT.sIx_nat]
  by_cases q : 1 ≤ w.length
  · rw [Nat.min_eq_left q, List.take_of_length_le (by rw [List.length_drop]; omega)]
  · rw [List.drop_eq_nil_of_le (by omega), List.drop_eq_nil_of_le (by omega), List.take_nil]
theorem str_eq_list (a : List Nat) (z : Str) : decide (V.str ⟨a.toArray⟩ = V.str z) = decide (a = z.cps.toList) := by
  rw [decide_eq_decide]
  constructor
  · intro h
    rw [← V.str.inj h]
  · intro h
    rw [h]
/-- the digits of a token, by the law -/
def digS (w : Str) : Str := if w.cps.toList.take 1 = [45] then ⟨(w.cps.toList.drop 1).toArray⟩ else w
theorem digS_eq (w : Str) : digS w = Txt.removeprefix w "-" := by
  have e := rempre_minus w
  unfold digS
  have h : ∀ a b : Str, a.cps.toList = b.cps.toList → a = b := fun a b h => by
    obtain ⟨a⟩ := a
    obtain ⟨b⟩ := b
    have : a = b := Array.toList_inj.mp h
    rw [this]
  refine h _ _ ?_
  rw [e]
  cases hw : w.cps.toList with
  | nil => rw [if_neg (by decide), if_neg (by decide)]; exact hw
  | cons c r =>
    by_cases q : c = 45
    · rw [if_pos (by rw [q]; rfl), if_pos (by rw [q]; rfl)]
      rfl
    · rw [if_neg (by simpa using q), if_neg (by simpa using q)]
      exact hw
def digB (w : Str) : Bool := w.cps.toList.all fun c => decide (c ∈ ([48, 49, 50, 51, 52, 53, 54, 55, 56, 57] : List Nat))
theorem dig_in (c : Nat) : decide (c ∈ ([48, 49, 50, 51, 52, 53, 54, 55, 56, 57] : List Nat)) = inRun 48 57 c := by
  unfold inRun
  rw [Bool.eq_iff_iff]
  simp only [decide_eq_true_eq, List.mem_cons, List.not_mem_nil, or_false, Bool.and_eq_true]
  omega
theorem run_all (cs : List Nat) : (cs.all (inRun 48 57) = true) ↔ ¬ runEnd cs 0 48 57 < cs.length := by
  unfold runEnd
  rw [List.drop_zero, Nat.zero_add]
  constructor
  · intro h
    have e : cs.takeWhile (inRun 48 57) = cs := by
      induction cs with
      | nil => rfl
      | cons c cs ih =>
        rw [List.all_cons, Bool.and_eq_true] at h
        rw [List.takeWhile_cons, h.1]
        show c :: _ = _
        rw [ih h.2]
    rw [e]
    omega
  · intro h
    have e := (List.takeWhile_prefix (inRun 48 57) (l := cs)).eq_of_length_le (by omega)
    rw [← e]
    exact List.all_takeWhile
/-- isNum by the law's steps -/
theorem isNum_law (w : Str) : isNum w = if (digS w).length = 0 ∨ 30 < (digS w).length ∨ digB (digS w) = false then false else decide (w = "0") || decide ((digS w).cps.toList.take 1 ≠ [48]) := by
  unfold isNum
  rw [← digS_eq]
  dsimp only
  generalize digS w = d
  have hdl : d.cps.toList.length = d.length := Array.length_toList
  have ea : digB d = d.cps.toList.all (inRun 48 57) := by
    unfold digB
    congr 1
    funext c
    exact dig_in c
  have er := run_all d.cps.toList
  rw [← ea, hdl] at er
  by_cases h0 : d.length = 0
  · rw [if_pos (.inl h0), if_pos (.inl h0)]
  · by_cases h1 : digB d = true
    · have h2 := er.mp h1
      by_cases h3 : 30 < d.length
      · rw [if_pos (.inr (.inr h3)), if_pos (.inr (.inl h3))]
      · rw [if_neg (by rintro (z | z | z) <;> contradiction), if_neg (fun z => z.elim h0 fun z => z.elim h3 fun z => by rw [h1] at z; cases z)]
        congr 1
        rw [decide_eq_decide]
        cases hc : d.cps.toList with
        | nil => rw [hc] at hdl; exact absurd hdl.symm h0
        | cons c r => simp
    · have h2 : runEnd d.cps.toList 0 48 57 < d.length := Classical.byContradiction fun z => h1 (er.mpr z)
      rw [Bool.not_eq_true] at h1
      rw [if_pos (.inr (.inl h2)), if_pos (.inr (.inr h1))]
theorem in_digs (c : Nat) : inV (.str ⟨#[c]⟩) (signsV "0123456789") = decide (c ∈ ([48, 49, 50, 51, 52, 53, 54, 55, 56, 57] : List Nat)) := by
  have e : signsV "0123456789" = (([48, 49, 50, 51, 52, 53, 54, 55, 56, 57] : List Nat).map fun c => (⟨#[c]⟩ : Str)).map V.str := by decide +kernel
  rw [e, inV_str, decide_eq_decide, List.mem_map]
  constructor
  · rintro ⟨x, hx, h⟩
    have h2 : (#[x] : Array Nat) = #[c] := congrArg Str.cps h
    have h3 : x = c := by simpa using h2
    rw [← h3]
    exact hx
  · intro h
    exact ⟨c, h, rfl⟩
theorem digs_flat : (signsV "0123456789").all flatV = true := by decide +kernel
/-! ### the law's states -/
def StR (cm : Str) (st sg : Str) : Prop := (cm = sATOM ∧ st = "atom") ∨ (cm = sSIGN ∧ st = "sign") ∨ (cm = sSIDE ∧ st = "right" ∧ sg ∈ (["=", "!="] : List Str)) ∨ (cm = sNUMBER ∧ st = "right" ∧ sg ∉ (["=", "!="] : List Str)) ∨ (cm = sBEHIND ∧ st = "behind")
end Own

namespace Own
open PySem PySem.Spec PyProof.Rows L2
theorem FS.fresh {H H' : Hp} {b r : Addr} {vs : List Str} {n : Nat} (B : But b H H') (hb : Bag H' b) (nr : H' r = none) (hv : ∀ w ∈ vs, TkOk w) (hl : vs.length ≤ n) : FS H b r vs n (upd H' r (.lst (vs.map V.str))) :=
  ⟨B.putb (B.free (hb.ne nr).symm nr), hb.new nr, B.free (hb.ne nr).symm nr, (hb.ne nr).symm, upd_same, hv, hl⟩
theorem cutS_take (ws : List Str) (i : Nat) : cutV (ws.map V.str) none (some (i : Int)) = (ws.take i).map V.str := by rw [cut_take, List.map_take]
theorem cutS_drop (ws : List Str) (i : Nat) : cutV (ws.map V.str) (some (i : Int)) none = (ws.drop i).map V.str := by rw [cut_drop, List.map_drop]
def nines : Str := ⟨(List.replicate 31 57).toArray⟩
def ones : Str := ⟨(List.replicate 31 49).toArray⟩
def spoil1 : List Str := ["(", ")", "~", "&", "|", "=", "!=", "<", ">=", "every", "blank", "7", "-3", "0"]
def spoil2 : List Str := ["|=", "&=", ":", ",", "!", "?", "-", "A", "_", ".", "not", "or", "and", "any", "all", "in", "given"]
def spoil3 : List Str := ["true", "self", "idx", "abcdefghi", "007", "-0", "00", nines, "-" ++ ones, "\n", "guard"]
theorem spoil_ok : spoil1.all tkB = true ∧ spoil2.all tkB = true ∧ spoil3.all tkB = true := by decide +kernel
theorem all_tk {ws : List Str} (h : ws.all tkB = true) : ∀ w ∈ ws, TkOk w := fun w hw => List.all_eq_true.mp h w hw
/-- the columns of the law -/
def col8 : List Str := ["id", "owner", "ids"]
theorem col8_ok {m : Nat} (h1 : 1 ≤ m) (h3 : m ≤ 3) : col8.take m ≠ [] ∧ (col8.take m).length ≤ 3 ∧ (∀ w ∈ col8.take m, TkOk w) ∧ (∀ w ∈ col8.take m, w ∉ wordL) ∧ (∀ w ∈ col8.take m, w.length ≤ 1000) ∧ dueV ((col8.take m).map V.str) = .non := by
  have : m = 1 ∨ m = 2 ∨ m = 3 := by omega
  have q : ∀ m ∈ ([1, 2, 3] : List Nat), col8.take m ≠ [] ∧ (col8.take m).length ≤ 3 ∧ (col8.take m).all tkB = true ∧ (∀ w ∈ col8.take m, w ∉ wordL) ∧ (∀ w ∈ col8.take m, w.length ≤ 1000) ∧ dueV ((col8.take m).map V.str) = .non := by decide +kernel
  have q := q m (by simpa using this)
  exact ⟨q.1, q.2.1, all_tk q.2.2.1, q.2.2.2.1, q.2.2.2.2.1, q.2.2.2.2.2⟩
/-- what the law holds in a turn: bag, columns, table -/
structure L8 (H : Hp) (CT b cl tb : Addr) (cols : List Str) (H' : Hp) : Prop where
  same : Same H H'
  nb : H b = none
  bag : Bag H' b
  ncb : cl ≠ b
  hcl : H' cl = some (.lst (cols.map V.str))
  tab : TabF H' CT tb cols
section
variable {H H' H2 : Hp} {CT b cl tb z : Addr} {cols : List Str} {o : HO}
theorem L8.on (S : L8 H CT b cl tb cols H') (B : But b H' H2) (hb : Bag H2 b) : L8 H CT b cl tb cols H2 := ⟨B.to_same S.same S.nb, S.nb, hb, S.ncb, B _ _ S.ncb S.hcl, S.tab.lsts (Lsts.but S.bag B)⟩
theorem L8.new (S : L8 H CT b cl tb cols H') (nz : H' z = none) : L8 H CT b cl tb cols (upd H' z o) := S.on (But.new But.refl nz) (S.bag.new nz)
theorem L8.stay (S : L8 H CT b cl tb cols H') (s : Same H' H2) : L8 H CT b cl tb cols H2 := S.on (.same s) (S.bag.same s)
/-- a list of one's own is changed -/
theorem L8.put (S : L8 H CT b cl tb cols H') {p : Addr} {xs ys : List V} (hp : H' p = some (.lst xs)) (np : H p = none) (npb : p ≠ b) (npc : cl ≠ p) : L8 H CT b cl tb cols (upd H' p (.lst ys)) :=
  ⟨put_same S.same np, S.nb, S.bag.put npb.symm, S.ncb, by rw [upd_ne npc]; exact S.hcl, S.tab.lsts (Lsts.put hp)⟩
end
/-- the tokens of a turn -/
structure TkL (H' : Hp) (b l : Addr) (ws : List Str) (n : Nat) : Prop where
  lb : l ≠ b
  hl : H' l = some (.lst (ws.map V.str))
  ok : ∀ w ∈ ws, TkOk w
  len : ws.length ≤ n
theorem TkL.on {H' H2 : Hp} {b l : Addr} {ws : List Str} {n : Nat} (S : TkL H' b l ws n) (B : But b H' H2) : TkL H2 b l ws n := ⟨S.lb, B _ _ S.lb S.hl, S.ok, S.len⟩
theorem FS.tk {H H' : Hp} {b l : Addr} {ws : List Str} {n : Nat} (S : FS H b l ws n H') : TkL H' b l ws n := ⟨S.lb, S.hl, S.ok, S.len⟩
theorem zip_snoc {ws : List Str} {qs : List Nat} {i q : Nat} {w : Str} (h : ws[i]? = some w) (hq : qs.length = i) : zipT (ws.take (i + 1)) (qs ++ [q]) = zipT (ws.take i) qs ++ [(w.cps.toList, q)] := by
  have hi := (List.getElem?_eq_some_iff.mp h).1
  rw [take_snoc h]
  exact List.zipWith_append (by rw [List.length_take, hq]; omega)
theorem rep_cps (n c : Nat) : (⟨(List.replicate n c).toArray⟩ : Str).cps.toList = List.replicate n c := by simp
theorem told_empty (cols : List Str) : toldT cols (.str "") = .int 0 := by
  show wrongAt isNum cols (("" : Str)).length (toksL (("" : Str)).cps.toList) sATOM 0 = _
  rw [show toksL (("" : Str)).cps.toList = [] by decide +kernel]
  unfold wrongAt
  rw [if_neg (fun z => absurd z.1 (by decide))]
  decide +kernel
theorem told_every (cols : List Str) : toldT cols (.str "every") = .non := by
  show wrongAt isNum cols (("every" : Str)).length (toksL (("every" : Str)).cps.toList) sATOM 0 = _
  rw [show toksL (("every" : Str)).cps.toList = [(("every" : Str).cps.toList, 0)] by decide +kernel]
  have e : (⟨(("every" : Str).cps.toList).toArray⟩ : Str) = "every" := by decide +kernel
  rw [wrong_str (c := sBEHIND) (by
    rw [aft_atom, e]
    unfold aftAtom
    rw [if_neg (by decide), if_pos (by decide)])]
  rw [e]
  have e2 : dep ("every" : Str) 0 = 0 := dep_of (by decide) (by decide)
  rw [e2]
  unfold wrongAt
  rw [if_pos ⟨rfl, rfl⟩]
theorem told_kd {cols : List Str} {v : V} : ∃ t, (t = Kd.non ∨ t = Kd.int) ∧ (∀ H, kd H (toldT cols v) = some t) ∧ scal (toldT cols v) (toldT cols v) = true := by
  cases v with
  | str z =>
    rcases wrong_bound (num := isNum) (cols := cols) (n := z.length) (ps := toksL z.cps.toList) (cm := sATOM) (d := 0) (fun p hp => by have := toks_places hp; have : z.cps.toList.length = z.length := Array.length_toList; omega) with h | ⟨i, h, _⟩
    · exact ⟨.non, .inl rfl, fun H => by show kd H (wrongAt _ _ _ _ _ _) = _; rw [h]; rfl, by show scal (wrongAt _ _ _ _ _ _) (wrongAt _ _ _ _ _ _) = _; rw [h]; rfl⟩
    · exact ⟨.int, .inr rfl, fun H => by show kd H (wrongAt _ _ _ _ _ _) = _; rw [h]; rfl, by show scal (wrongAt _ _ _ _ _ _) (wrongAt _ _ _ _ _ _) = _; rw [h]; rfl⟩
  | _ => exact ⟨.int, .inr rfl, fun H => rfl, rfl⟩
end Own

namespace Own
open PySem PySem.Spec PyProof.Rows L2
theorem CondAt.ins {H : Hp} {C p tb : Addr} {o : Option Tr} {ws : Option (List Str)} (h : CondAt H C p tb o ws) : ∃ dx fs, H p = some (.ins C dx fs) := let ⟨dx, _, _, h1, _⟩ := h; ⟨dx, _, h1⟩
def every : Tr := .lf (.wd "every")
/-- the law's four conditions -/
structure C19 (H' : Hp) (C tb pT pB pE pN : Addr) (oT : Option Tr) : Prop where
  T : ∃ ws, CondAt H' C pT tb oT ws
  B : ∃ ws, CondAt H' C pB tb none ws
  E : ∃ ws, CondAt H' C pE tb (some every) ws
  N : ∃ ws, CondAt H' C pN tb (some (.neg every)) ws
theorem C19.lsts {H' H2 : Hp} {C tb pT pB pE pN : Addr} {oT : Option Tr} (e : Lsts H' H2) (h : C19 H' C tb pT pB pE pN oT) : C19 H2 C tb pT pB pE pN oT :=
  ⟨let ⟨w, q⟩ := h.T; ⟨w, q.lsts e⟩, let ⟨w, q⟩ := h.B; ⟨w, q.lsts e⟩, let ⟨w, q⟩ := h.E; ⟨w, q.lsts e⟩, let ⟨w, q⟩ := h.N; ⟨w, q.lsts e⟩⟩
def col19 : List Str := ["id", "owner", "size"]
theorem col19_ok {m : Nat} (h1 : 1 ≤ m) (h3 : m ≤ 3) : ColOk (col19.take m) ∧ (col19.take m).length = m := by
  have : m = 1 ∨ m = 2 ∨ m = 3 := by omega
  have q : ∀ m ∈ ([1, 2, 3] : List Nat), colB (col19.take m) = true ∧ (col19.take m).length = m := by decide +kernel
  have q := q m (by simpa using this)
  exact ⟨col_ok q.1, q.2⟩
theorem blank19 : cwords ("blank" : Str).cps.toList = wordsX (.wd "blank") ∧ ("blank" : Str).length ≤ 100000 := by decide +kernel
theorem every19 : cwords ("every | blank" : Str).cps.toList = wordsX (.bin "|" (.wd "every") (.wd "blank")) ∧ ("every | blank" : Str).length ≤ 100000 := by decide +kernel
theorem none19 : cwords ("~ every" : Str).cps.toList = wordsX (.neg (.wd "every")) ∧ ("~ every" : Str).length ≤ 100000 := by decide +kernel
theorem wf19 (cols : List Str) : WfX cols (.wd "blank") ∧ WfX cols (.bin "|" (.wd "every") (.wd "blank")) ∧ WfX cols (.neg (.wd "every")) := by
  refine ⟨by show _ ∈ _; decide, ⟨.inr rfl, by show _ ∈ _; decide, by show _ ∈ _; decide, by decide, by decide⟩, by show _ ∈ _; decide, rfl⟩
theorem tree19 (cols : List Str) : treeX cols (.wd "blank") = none ∧ treeX cols (.bin "|" (.wd "every") (.wd "blank")) = some every ∧ treeX cols (.neg (.wd "every")) = some (.neg every) := by
  refine ⟨rfl, rfl, rfl⟩
theorem hold_num {cols : List Str} (hc : ColOk cols) {i : Nat} {w : Str} (hw : cols[i]? = some w) {r : List Int} {n : Int} (neg : Bool) : holdB r (cols.idxOf w, (if neg = true then "!=" else "=" : Str), .inr n) = (decide (r.getD i 0 = n) != neg) := by
  have e : cols.idxOf w = i := by
    obtain ⟨h1, rfl⟩ := List.getElem?_eq_some_iff.mp hw
    exact hc.nd.idxOf_getElem i h1
  rw [e]
  cases neg
  · show cmpB "=" _ _ = _
    unfold cmpB
    simp
  · show cmpB "!=" _ _ = _
    unfold cmpB
    rw [if_neg (by decide), if_pos rfl]
    cases decide (r.getD i 0 = n) <;> rfl
end Own
namespace Own
open PySem PySem.Spec PyProof.Rows L2
def intOf : V → Int
  | .int i => i
  | _ => 0
def rowOf (H : Hp) : V → List Int
  | .ref q => (match H q with
    | some (.tup xs) => xs.map intOf
    | _ => [])
  | _ => []
theorem rowOf_row {H : Hp} {q : Addr} {r : List Int} (h : H q = some (.tup (r.map V.int))) : rowOf H (.ref q) = r := by
  unfold rowOf
  dsimp only
  rw [h]
  show (r.map V.int).map intOf = r
  rw [List.map_map]
  exact List.map_id r
/-- whether a value is in a condition -/
def inC (H : Hp) (v : V) (m : Nat) (o : Option Tr) : Bool := rowB H v (m : Nat) && takB (rowOf H v) o
theorem in_cond {H : Hp} {CT C p tb : Addr} {v : V} {cols : List Str} {o : Option Tr} {ws : Option (List Str)} {Q : VK} {E : XK} (hc : CondAt H C p tb o ws) (hT : TabF H CT tb cols) (hk : Known H v) (hwf : OTrWf cols.length o)
    (k : ∀ H', Same H H' → Q (.bl (inC H v cols.length o)) H') : spCondIn CT C [.ref p, v] H Q E := by
  refine ⟨p, tb, v, cols, o, ws, rfl, hc, hT, hk, hwf, fun hb H' s => ?_, fun q r e hq hl H' s => ?_, fun hb => rowB_row hk hb⟩
  · have e : inC H v cols.length o = false := by unfold inC; rw [hb]; rfl
    have q := k H' s
    rw [e] at q
    exact q
  · have e2 : rowB H v (cols.length : Nat) = true := by
      rw [e, rowB_tup hq, List.length_map, hl, decide_eq_true rfl, Bool.true_and, List.all_map, List.all_eq_true]
      exact fun _ _ => rfl
    have e3 : inC H v cols.length o = takB r o := by
      unfold inC
      rw [e2, Bool.true_and, e, rowOf_row hq]
    have q := k H' s
    rw [e3] at q
    exact q
theorem inC_none (H : Hp) (v : V) (m : Nat) : inC H v m none = rowB H v (m : Nat) := Bool.and_true _
theorem inC_every (H : Hp) (v : V) (m : Nat) : inC H v m (some every) = rowB H v (m : Nat) := Bool.and_true _
theorem inC_never (H : Hp) (v : V) (m : Nat) : inC H v m (some (.neg every)) = false := Bool.and_false _
theorem wf_every (m : Nat) : OTrWf m (some every) := fun t e => by
  cases e
  exact ⟨by decide, .inl rfl⟩
theorem wf_never (m : Nat) : OTrWf m (some (.neg every)) := fun t e => by
  cases e
  exact ⟨by decide, .inl rfl⟩
theorem wf_none (m : Nat) : OTrWf m none := fun t e => by cases e
theorem inC_same {H H' : Hp} {v : V} {m : Nat} {o : Option Tr} (hk : Known H v) (s : Same H H') : inC H' v m o = inC H v m o := by
  unfold inC
  rw [rowB_same hk s]
  cases hb : rowB H v (m : Nat) with
  | false => rfl
  | true =>
    obtain ⟨q, r, rfl, hq, _⟩ := rowB_row hk hb
    rw [rowOf_row hq, rowOf_row (s _ _ hq)]
end Own
namespace Own
open PySem PySem.Spec PyProof.Rows L2
theorem ones_text {cols : List Str} (hc : ColOk cols) {w : Str} (hw : w ∈ cols) : cwords (w ++ " = 1").cps.toList = wordsX (.ts w "=" (numS 1)) ∧ (w ++ " = 1").length ≤ 100000 ∧ WfX cols (.ts w "=" (numS 1)) ∧ treeX cols (.ts w "=" (numS 1)) = some (.lf (.ts (cols.idxOf w, "=", .inr 1))) := by
  have h1 : Num30 1 := by unfold Num30; decide
  refine ⟨words3 (hc.al w hw) (sign_alone (by decide)).1 (num_aloneS 1) (by
    rw [cps_app, show (" = 1" : Str).cps.toList = 32 :: (("=" : Str).cps.toList ++ (32 :: (numS 1).cps.toList)) by decide +kernel]), ?_, wf_num hw (by decide) h1, ?_⟩
  · rw [Str.length_append, show (" = 1" : Str).length = 4 by decide +kernel]
    have := hc.ln w hw
    omega
  · show some (Tr.lf (.ts (tstOf cols w "=" (numS 1)))) = _
    rw [tst_num hc h1]
theorem ones_in {cols : List Str} (hc : ColOk cols) {w : Str} {i : Nat} (hw : cols[i]? = some w) : holdB (List.replicate cols.length 1) (cols.idxOf w, "=", .inr 1) = true := by
  have e := hold_num hc hw (r := List.replicate cols.length 1) (n := 1) false
  rw [if_neg (by decide)] at e
  rw [e]
  have hi := (List.getElem?_eq_some_iff.mp hw).1
  have g : (List.replicate cols.length (1 : Int)).getD i 0 = 1 := by
    rw [List.getD_eq_getElem?_getD, List.getElem?_replicate, if_pos hi]
    rfl
  rw [g]
  rfl
end Own

namespace Own
open PySem PySem.Spec PyProof.Rows L2
theorem hu1_of {k : Nat} {A : Around} (hr : Room k A) : A.units + 1 < cLine := by
  have := hr.units
  omega
/-! ### texts of one test or one word, as lists of words -/
inductive Lf where
  | wd (w : Str) | cc (a s c : Str) | cn (a s : Str) (n : Int)
def lfT : Lf → Tx
  | .wd w => .wd w
  | .cc a s c => .ts a s c
  | .cn a s n => .ts a s (numS n)
def LfOk (ss : List Str) : Lf → Prop
  | .wd w => w = "blank" ∨ w = "every" ∨ w = "none"
  | .cc a s c => a ∈ cols2 ∧ (s = "=" ∨ s = "!=") ∧ c ∈ cols2
  | .cn a s n => a ∈ cols2 ∧ s ∈ ss ∧ Num30 n
theorem join1 (s a : Str) : Txt.join s [a] = a := rfl
theorem join3c (a b c : Str) : (Txt.join " " [a, b, c]).cps.toList = a.cps.toList ++ (32 :: (b.cps.toList ++ (32 :: c.cps.toList))) := by
  show (a.cps ++ (" " : Str).cps ++ b.cps ++ (" " : Str).cps ++ c.cps).toList = _
  simp [Array.toList_append]
  constructor <;> rfl
theorem col_len {c : Str} (h : c ∈ cols2) : c.length ≤ 5 := by
  have q : ∀ c ∈ cols2, c.length ≤ 5 := by decide +kernel
  exact q c h
theorem lf_text {ss : List Str} (hss : ∀ s ∈ ss, s ∈ signL) : ∀ {L : Lf}, LfOk ss L → cwords (Txt.join " " (wordsX (lfT L))).cps.toList = wordsX (lfT L) ∧ (Txt.join " " (wordsX (lfT L))).length ≤ 100 ∧ WfX cols2 (lfT L) ∧ OWf 2 1 (treeX cols2 (lfT L)) ∧ ((wordsX (lfT L)).map (·.length)).sum + (wordsX (lfT L)).length * (" " : Str).length ≤ 1000
  | .wd w, h => by
    obtain ⟨h1, h2, h3, _, h5⟩ := word_text h cols2
    have hl : w.length ≤ 5 := by
      rcases h with rfl | rfl | rfl <;> decide +kernel
    refine ⟨h1, Nat.le_trans hl (by decide), h3, h5 2, ?_⟩
    show w.length + 0 + 1 * (" " : Str).length ≤ 1000
    have e : (" " : Str).length = 1 := by decide +kernel
    omega
  | .cc a s c, ⟨ha, hs, hc⟩ => by
    have hs2 : s ∈ signL := by rcases hs with rfl | rfl <;> decide
    obtain ⟨q1, q2⟩ := sign_alone hs2
    have l1 := col_len ha
    have l2 := col_len hc
    have e := join3c a s c
    refine ⟨words3 (cols2_ok.al a ha) q1 (cols2_ok.al c hc) e, ?_, ⟨ha, .inl ⟨by rcases hs with rfl | rfl <;> decide, .inl hc⟩⟩, ?_, ?_⟩
    · show (Txt.join " " [a, s, c]).length ≤ 100
      rw [str_len, e, List.length_append, List.length_cons, List.length_append, List.length_cons, ← str_len, ← str_len, ← str_len]
      omega
    · show OWf 2 1 (some (Tr.lf (.ts (tstOf cols2 a s c))))
      rw [tst_col hc]
      exact ts_wfc (List.idxOf_lt_length_of_mem ha) (List.idxOf_lt_length_of_mem hc) s
    · show a.length + (s.length + (c.length + 0)) + 3 * (" " : Str).length ≤ 1000
      have e : (" " : Str).length = 1 := by decide +kernel
      omega
  | .cn a s n, ⟨ha, hs, hn⟩ => by
    have hs2 := hss s hs
    obtain ⟨q1, q2⟩ := sign_alone hs2
    have l1 := col_len ha
    have l2 := (numS_ok hn).2.2
    have e := join3c a s (numS n)
    refine ⟨words3 (cols2_ok.al a ha) q1 (num_aloneS n) e, ?_, wf_num ha hs2 hn, ?_, ?_⟩
    · show (Txt.join " " [a, s, numS n]).length ≤ 100
      rw [str_len, e, List.length_append, List.length_cons, List.length_append, List.length_cons, ← str_len, ← str_len, ← str_len]
      omega
    · show OWf 2 1 (some (Tr.lf (.ts (tstOf cols2 a s (numS n)))))
      rw [tst_num cols2_ok hn]
      exact ts_wf (List.idxOf_lt_length_of_mem ha) s n
    · show a.length + (s.length + ((numS n).length + 0)) + 3 * (" " : Str).length ≤ 1000
      have e : (" " : Str).length = 1 := by decide +kernel
      omega
/-- what it gives on a row -/
def lfO (r : List Int) (L : Lf) : Val3 := ov r (treeX cols2 (lfT L))
theorem lfO_wd (r : List Int) {w : Str} (h : w = "blank" ∨ w = "every" ∨ w = "none") : lfO r (.wd w) = wordV3 w := (word_text h cols2).2.2.2.1 r
theorem lfO_cc (r : List Int) {a s c : Str} (hc : c ∈ cols2) : lfO r (.cc a s c) = some (cmpB s (r.getD (cols2.idxOf a) 0) (r.getD (cols2.idxOf c) 0)) := by
  show ov r (some (Tr.lf (.ts (tstOf cols2 a s c)))) = _
  rw [tst_col hc]
  rfl
theorem lfO_cn (r : List Int) {a s : Str} {n : Int} (hn : Num30 n) : lfO r (.cn a s n) = some (cmpB s (r.getD (cols2.idxOf a) 0) n) := by
  show ov r (some (Tr.lf (.ts (tstOf cols2 a s (numS n))))) = _
  rw [tst_num cols2_ok hn]
  rfl
/-- cells = {'id': .., 'owner': ..} -/
def cellsK (x y : Int) : List (Key × V) := [(.inr "id", .int x), (.inr "owner", .int y)]
theorem cells_get {x y : Int} {a : Str} (h : a ∈ cols2) : L2.valV (mergeK [] (cellsK x y)) (.inr a) = some (V.int ([x, y].getD (cols2.idxOf a) 0)) := by
  have q : a = "id" ∨ a = "owner" := by simpa [cols2] using h
  rcases q with rfl | rfl <;> rfl
theorem valV_no {a : Str} : ∀ {kvs : List (Key × V)}, (∀ p ∈ kvs, p.1 ≠ .inr a) → L2.valV kvs (.inr a) = none
  | [], _ => rfl
  | p :: kvs, h => by
    have h1 := h p List.mem_cons_self
    have ih := valV_no (kvs := kvs) fun z hz => h z (List.mem_cons_of_mem _ hz)
    unfold L2.valV at *
    rw [List.find?_cons, decide_eq_false h1]
    exact ih
theorem int_text {n : Int} (h : Num30 n) : PySem.intText? (numS n) = some n ∧ (numS n).length ≤ 640 := by
  obtain ⟨h1, h2, h3⟩ := numS_ok h
  obtain ⟨g1, g2⟩ := num_int h1
  rw [h2] at g1
  exact ⟨g1, g2⟩
/-- _law_of(bag, [texts]) -/
theorem of_texts {K : PySem.W.Frag} {H : Hp} {b p : Addr} {Q : VK} {E : XK} (l : List Str) (hb : Bag H b) (np : H p = none) (hne : l ≠ []) (hl : l.length < 1000000) (k : ∀ (s : Str) (H' : Hp), s ∈ l → But b H H' → Bag H' b → Q (.str s) H') : spOf K [.ref b, .ref p] (upd H p (.lst (l.map V.str))) Q E := by
  have B1 : But b H (upd H p (.lst (l.map V.str))) := But.same (same_newH np)
  refine ⟨b, p, _, rfl, hb.new np, (hb.ne np).symm, SqL.of upd_same, by simpa using hne, by rw [List.length_map]; exact hl, fun v H2 hv B2 hb2 => ?_⟩
  obtain ⟨s, hs, rfl⟩ := List.mem_map.mp hv
  exact k s H2 hs (B1.trans B2) hb2
theorem of_ints {K : PySem.W.Frag} {H : Hp} {b nl : Addr} {Q : VK} {E : XK} {ns : List Int} (hb : Bag H b) (n : nl ≠ b) (hn : H nl = some (.lst (ns.map V.int))) (hne : ns ≠ []) (hl : ns.length ≤ 1000) (k : ∀ (n : Int) (H' : Hp), n ∈ ns → But b H H' → Bag H' b → Q (.int n) H') : spOf K [.ref b, .ref nl] H Q E := by
  refine ⟨b, nl, _, rfl, hb, n, SqL.of hn, by simpa using hne, by rw [List.length_map]; omega, fun v H2 hv B2 hb2 => ?_⟩
  obtain ⟨s, hs, rfl⟩ := List.mem_map.mp hv
  exact k s H2 hs B2 hb2
/-- one and the other, as a law joins them -/
theorem join3_none (s : Str) (x : Val3) : join3 s x none = x ∧ join3 s none x = x := by
  cases x <;> exact ⟨rfl, rfl⟩
theorem pickI {P : Int → Prop} (R : Int → Prop) {G : Prop} (main : (∀ z, R z → P z) → G) (rest : ∀ z, R z → P z) : G := main rest
theorem cmp_eqV {s : Str} {i j : Int} (h : s = "=" ∨ s = "!=") : V.bl (decide (V.bl (decide (V.int i = V.int j)) = V.bl (decide (V.str s = V.str "=")))) = V.bl (cmpB s i j) := by
  congr 1
  rw [decide_eq_decide.mpr (show V.int i = V.int j ↔ i = j from ⟨fun e => V.int.inj e, fun e => by rw [e]⟩)]
  rcases h with rfl | rfl
  · rw [decide_eq_true (show V.str "=" = V.str "=" from rfl)]
    unfold cmpB
    rw [if_pos rfl]
    cases decide (i = j) <;> rfl
  · rw [decide_eq_false (show ¬ V.str "!=" = V.str "=" by decide)]
    unfold cmpB
    rw [if_neg (by decide), if_pos rfl]
    cases decide (i = j) <;> rfl
theorem cmp_ltV {s : Str} {i j : Int} (h : s = "<" ∨ s = ">=") : V.bl (decide (V.bl (decide (i < j)) = V.bl (decide (V.str s = V.str "<")))) = V.bl (cmpB s i j) := by
  congr 1
  rcases h with rfl | rfl
  · rw [decide_eq_true (show V.str "<" = V.str "<" from rfl)]
    unfold cmpB
    rw [if_neg (by decide), if_neg (by decide), if_pos rfl]
    cases decide (i < j) <;> rfl
  · rw [decide_eq_false (show ¬ V.str ">=" = V.str "<" by decide)]
    unfold cmpB
    rw [if_neg (by decide), if_neg (by decide), if_neg (by decide), if_neg (by decide), if_neg (by decide)]
    by_cases h : i < j
    · rw [decide_eq_true h, decide_eq_false (p := j ≤ i) (by omega)]
      rfl
    · rw [decide_eq_false h, decide_eq_true (p := j ≤ i) (by omega)]
      rfl
end Own

namespace Own
open PySem PySem.Spec PyProof.Rows L2
/-! ### conditions and their dues, some changed in place -/
/-- all stays that is not in S -/
def Ex (S : Addr → Prop) (H H' : Hp) : Prop := ∀ a o, ¬ S a → H a = some o → H' a = some o
theorem Ex.same {S : Addr → Prop} {H H' : Hp} (h : Same H H') : Ex S H H' := fun a o _ e => h a o e
theorem Ex.trans {S : Addr → Prop} {H H1 H2 : Hp} (x : Ex S H H1) (y : Ex S H1 H2) : Ex S H H2 := fun a o n e => y a o n (x a o n e)
theorem Ex.but {S : Addr → Prop} {b : Addr} {H H' : Hp} (h : But b H H') (hb : S b) : Ex S H H' := fun a o n e => h a o (fun q => n (q ▸ hb)) e
theorem Ex.put {S : Addr → Prop} {p : Addr} {H : Hp} {o : HO} (hp : S p) : Ex S H (upd H p o) := fun a u n e => by rw [upd_ne (fun q : a = p => n (by rw [q]; exact hp))]; exact e
theorem Ex.lsts' {S : Addr → Prop} {p : Addr} {H H' : Hp} (h : Lsts' p H H') (hp : S p) : Ex S H H' := fun a o n e => h a o (fun q => n (q ▸ hp)) e
theorem Ex.mono {S R : Addr → Prop} {H H' : Hp} (h : Ex S H H') (k : ∀ a, S a → R a) : Ex R H H' := fun a o n e => h a o (fun q => n (k a q)) e
/-- S holds lists, the bag and conditions alone -/
def SOk (H : Hp) (C : Addr) (S : Addr → Prop) : Prop := ∀ a, S a → (∃ xs, H a = some (.lst xs)) ∨ ∃ tb o ws, CondAt H C a tb o ws
theorem SOk.tup {H : Hp} {C a : Addr} {S : Addr → Prop} (h : SOk H C S) {xs : List V} (e : H a = some (.tup xs)) : ¬ S a := fun q => by
  rcases h a q with ⟨ys, e2⟩ | ⟨_, _, _, dx, _, _, e2, _⟩
  · rw [e] at e2; cases e2
  · rw [e] at e2; cases e2
theorem ItmAt.ex {H H' : Hp} {C : Addr} {S : Addr → Prop} (hS : SOk H C S) (e : Ex S H H') : ∀ {i : Itm} {v : V}, ItmAt H i v → ItmAt H' i v
  | .wd _, _, h => h
  | .ts _, _, ⟨q, h1, h2, h3⟩ => ⟨q, h1, e _ _ (hS.tup h2) h2, h3⟩
theorem TrAt.ex {H H' : Hp} {C : Addr} {S : Addr → Prop} (hS : SOk H C S) (e : Ex S H H') : ∀ {t : Tr} {v : V}, TrAt H t v → TrAt H' t v
  | .lf i, _, ⟨q, x, h, h1, h2⟩ => ⟨q, x, h, e _ _ (hS.tup h1) h1, h2.ex hS e⟩
  | .neg t, _, ⟨q, x, h, h1, h2⟩ => ⟨q, x, h, e _ _ (hS.tup h1) h1, TrAt.ex hS e h2⟩
  | .bin s l r, _, ⟨q, x, y, h, h1, h2, h3⟩ => ⟨q, x, y, h, e _ _ (hS.tup h1) h1, TrAt.ex hS e h2, TrAt.ex hS e h3⟩
theorem OTr.ex {H H' : Hp} {C : Addr} {S : Addr → Prop} {o : Option Tr} {v : V} (hS : SOk H C S) (e : Ex S H H') (h : OTr H o v) : OTr H' o v := by
  cases o with
  | none => exact h
  | some t => exact TrAt.ex hS e h
theorem CondAt.ex {H H' : Hp} {C p tb : Addr} {S : Addr → Prop} {o : Option Tr} {ws : Option (List Str)} (hS : SOk H C S) (e : Ex S H H') (n : ¬ S p) (h : CondAt H C p tb o ws) : CondAt H' C p tb o ws := by
  obtain ⟨dy, tv, wv, h1, h2, h3⟩ := h
  refine ⟨dy, tv, wv, e _ _ n h1, h2.ex hS e, ?_⟩
  cases ws with
  | none => exact h3
  | some l =>
    obtain ⟨t, q1, q2⟩ := h3
    exact ⟨t, q1, e _ _ (hS.tup q2) q2⟩
theorem TabF.ex {H H' : Hp} {C CT tb : Addr} {S : Addr → Prop} {cols : List Str} (hS : SOk H C S) (e : Ex S H H') (h : TabF H CT tb cols) : TabF H' CT tb cols := by
  obtain ⟨dt, t, h1, o, h2, h3⟩ := id h
  refine ⟨dt, t, e _ _ (fun q => ?_) h1, o, e _ _ (fun q => ?_) h2, h3⟩
  · rcases hS _ q with ⟨ys, e2⟩ | ⟨_, _, _, hc⟩
    · rw [h1] at e2; cases e2
    · exact tab_ne h hc rfl
  · rcases hS _ q with ⟨ys, e2⟩ | ⟨_, _, _, dx, _, _, e2, _⟩
    · rw [h2] at e2; cases e2
    · rw [h2] at e2; cases e2
theorem CondT.ex {H H' : Hp} {C CT p : Addr} {S : Addr → Prop} {cols : List Str} {o : Option Tr} (hS : SOk H C S) (e : Ex S H H') (n : ¬ S p) (h : CondT H CT C p cols o) : CondT H' CT C p cols o :=
  let ⟨tb, ws, h1, h2⟩ := h
  ⟨tb, ws, h1.ex hS e n, h2.ex hS e⟩
theorem v3_bag {as : List Val3} (x y : Int) : (HO.lst (as.map v3)) ≠ .lst [.int x, .int y] := fun e => by
  have e2 : as.map v3 = [.int x, .int y] := by injection e
  cases as with
  | nil => cases e2
  | cons a as =>
    have : v3 a = .int x := (List.cons.inj e2).1
    cases a <;> cases this
theorem ref_bag {ps : List Addr} (x y : Int) : (HO.lst (ps.map V.ref)) ≠ .lst [.int x, .int y] := fun e => by
  have e2 : ps.map V.ref = [.int x, .int y] := by injection e
  cases ps with
  | nil => cases e2
  | cons a as =>
    have : V.ref a = .int x := (List.cons.inj e2).1
    cases this
/-- conditions in a list, their dues in another -/
structure NV (H : Hp) (CT C nl vl : Addr) (rs : List (List Int)) (ps ls : List Addr) (os : List (Option Tr)) : Prop where
  hn : H nl = some (.lst (ps.map V.ref))
  hv : H vl = some (.lst (ls.map V.ref))
  lp : ps.length = os.length
  ll : ls.length = os.length
  cd : ∀ (i : Nat) p o, ps[i]? = some p → os[i]? = some o → CondT H CT C p cols2 o
  du : ∀ (i : Nat) l o, ls[i]? = some l → os[i]? = some o → Dues H l (valsOf rs o)
section
variable {H H' : Hp} {CT C nl vl b : Addr} {rs : List (List Int)} {ps ls : List Addr} {os : List (Option Tr)}
theorem NV.same (h : NV H CT C nl vl rs ps ls os) (s : Same H H') : NV H' CT C nl vl rs ps ls os :=
  ⟨s _ _ h.hn, s _ _ h.hv, h.lp, h.ll, fun i p o e1 e2 => (h.cd i p o e1 e2).lsts (.same s), fun i l o e1 e2 => s _ _ (h.du i l o e1 e2)⟩
theorem NV.but (h : NV H CT C nl vl rs ps ls os) (B : But b H H') (hb : Bag H b) : NV H' CT C nl vl rs ps ls os :=
  ⟨B.at hb h.hn ref_bag, B.at hb h.hv ref_bag, h.lp, h.ll, fun i p o e1 e2 => (h.cd i p o e1 e2).lsts (Lsts.but hb B), fun i l o e1 e2 => B.at hb (h.du i l o e1 e2) v3_bag⟩
theorem NV.get (h : NV H CT C nl vl rs ps ls os) {i : Nat} (hi : i < os.length) : ∃ p l o, ps[i]? = some p ∧ ls[i]? = some l ∧ os[i]? = some o ∧ CondT H CT C p cols2 o ∧ Dues H l (valsOf rs o) := by
  have e1 : ps[i]? = some (ps[i]'(by rw [h.lp]; exact hi)) := List.getElem?_eq_getElem _
  have e2 : ls[i]? = some (ls[i]'(by rw [h.ll]; exact hi)) := List.getElem?_eq_getElem _
  have e3 : os[i]? = some os[i] := List.getElem?_eq_getElem _
  exact ⟨_, _, _, e1, e2, e3, h.cd i _ _ e1 e3, h.du i _ _ e2 e3⟩
/-- one more -/
theorem NV.snoc (h : NV H CT C nl vl rs ps ls os) {c l : Addr} {o : Option Tr} (hc : CondT H CT C c cols2 o) (hd : Dues H l (valsOf rs o)) (n1 : nl ≠ vl) (n2 : l ≠ nl) (n3 : l ≠ vl) (n4 : ∀ x ∈ ls, x ≠ nl ∧ x ≠ vl) :
    NV (upd (upd H nl (.lst (ps.map V.ref ++ [.ref c]))) vl (.lst (ls.map V.ref ++ [.ref l]))) CT C nl vl rs (ps ++ [c]) (ls ++ [l]) (os ++ [o]) := by
  have L1 : Lsts H (upd (upd H nl (.lst (ps.map V.ref ++ [.ref c]))) vl (.lst (ls.map V.ref ++ [.ref l]))) :=
    (Lsts.put h.hn).trans (Lsts.put (xs := ls.map V.ref) (by rw [upd_ne n1.symm]; exact h.hv))
  have keep : ∀ a xs, a ≠ nl → a ≠ vl → H a = some (.lst xs) → upd (upd H nl (.lst (ps.map V.ref ++ [.ref c]))) vl (.lst (ls.map V.ref ++ [.ref l])) a = some (.lst xs) := fun a xs h1 h2 e => by
    rw [upd_ne h2, upd_ne h1]
    exact e
  refine ⟨by rw [upd_ne n1, upd_same, List.map_append]; rfl, by rw [upd_same, List.map_append]; rfl, by rw [List.length_append, List.length_append, h.lp]; rfl, by rw [List.length_append, List.length_append, h.ll]; rfl, fun i p o' e1 e2 => ?_, fun i x o' e1 e2 => ?_⟩
  · by_cases q : i < ps.length
    · rw [List.getElem?_append_left q] at e1
      rw [List.getElem?_append_left (by rw [← h.lp]; exact q)] at e2
      exact (h.cd i p o' e1 e2).lsts L1
    · rw [List.getElem?_append_right (by omega)] at e1
      rw [List.getElem?_append_right (by rw [← h.lp]; omega), ← h.lp] at e2
      have z : i - ps.length = 0 := by
        have := (List.getElem?_eq_some_iff.mp e1).1
        simp at this
        omega
      rw [z] at e1 e2
      cases e1
      cases e2
      exact hc.lsts L1
  · by_cases q : i < ls.length
    · rw [List.getElem?_append_left q] at e1
      rw [List.getElem?_append_left (by rw [← h.ll]; exact q)] at e2
      have m := n4 x (List.mem_of_getElem? e1)
      exact keep _ _ m.1 m.2 (h.du i x o' e1 e2)
    · rw [List.getElem?_append_right (by omega)] at e1
      rw [List.getElem?_append_right (by rw [← h.ll]; omega), ← h.ll] at e2
      have z : i - ls.length = 0 := by
        have := (List.getElem?_eq_some_iff.mp e1).1
        simp at this
        omega
      rw [z] at e1 e2
      cases e1
      cases e2
      exact keep _ _ n2 n3 hd
theorem NV.ne (h : NV H CT C nl vl rs ps ls os) (hn : 0 < rs.length) : ∀ x ∈ ls, x ≠ nl ∧ x ≠ vl := fun x hx => by
  obtain ⟨i, hi⟩ := List.mem_iff_getElem?.mp hx
  have hl := (List.getElem?_eq_some_iff.mp hi).1
  obtain ⟨p, l, o, e1, e2, e3, _, hd⟩ := h.get (i := i) (by rw [← h.ll]; exact hl)
  rw [hi] at e2
  cases e2
  have bad : ∀ (a : Addr) (qs : List Addr), H a = some (.lst (qs.map V.ref)) → x ≠ a := fun a qs ha e => by
    rw [← e, show H x = some (.lst ((valsOf rs o).map v3)) from hd] at ha
    have e4 : (valsOf rs o).map v3 = qs.map V.ref := by injection ha with q; injection q
    have hl2 : 0 < (valsOf rs o).length := by rw [vals_len]; exact hn
    cases ev : valsOf rs o with
    | nil => rw [ev] at hl2; exact absurd hl2 (by decide)
    | cons z zs =>
      rw [ev] at e4
      cases qs with
      | nil => cases e4
      | cons q qs =>
        have : v3 z = .ref q := (List.cons.inj e4).1
        cases z <;> cases this
  exact ⟨bad _ _ h.hn, bad _ _ h.hv⟩
end
end Own
namespace Own
open PySem PySem.Spec PyProof.Rows L2
/-- what _law_made gives -/
def spMade (CT C : Addr) : Sp := fun vs H Q _ => ∃ (b nl vl : Addr) (rs : List (List Int)) (ps ls : List Addr) (os : List (Option Tr)) (n : Nat), vs = [.ref b, .ref nl, .ref vl] ∧ Bag H b ∧ NV H CT C nl vl rs ps ls os ∧ os.length = 3 ∧ rs.length ≤ 1000 ∧ (∀ o ∈ os, OWf 2 n o) ∧
  ∀ (t c l : Addr) (o : Option Tr) (H' : Hp), But b H H' → Bag H' b → H' t = some (.tup [.ref c, .ref l]) → CondT H' CT C c cols2 o → H c = none → Dues H' l (valsOf rs o) → H l = none → OWf 2 (2 * n + 1) o → Q (.ref t) H'
def SStep (b vl : Addr) (ps : List Addr) (a : Addr) : Prop := a = b ∨ a = vl ∨ a ∈ ps
def spStep (CT C : Addr) : Sp := fun vs H Q _ => ∃ (b cl vl ft c l : Addr) (rs : List (List Int)) (ps ls : List Addr) (os : List (Option Tr)) (oc : Option Tr) (n : Nat), vs = [.ref b, .ref cl, .ref vl, .ref ft] ∧ Bag H b ∧ NV H CT C cl vl rs ps ls os ∧ ps.Nodup ∧ os.length = 3 ∧ 0 < rs.length ∧ rs.length ≤ 1000 ∧ (∀ o ∈ os, OWf 2 n o) ∧ OWf 2 n oc ∧
  H ft = some (.tup [.ref c, .ref l]) ∧ CondT H CT C c cols2 oc ∧ Dues H l (valsOf rs oc) ∧
  ∀ (k : Nat) (H' : Hp) (ls' : List Addr) (os' : List (Option Tr)), k < 3 → Ex (SStep b vl ps) H H' → Bag H' b → NV H' CT C cl vl rs ps ls' os' → os'.length = 3 → (∀ o ∈ os', OWf 2 (2 * n + 1) o) → Q (.int k) H'
end Own
namespace Own
theorem take_all {α : Type} {l : List α} {n : Nat} (h : n = l.length) : l.take n = l := by rw [h]; exact List.take_length
end Own
namespace Own
open PySem PySem.Spec PyProof.Rows L2
theorem Operand.same {H H' : Hp} {CT C : Addr} {cols : List Str} {y : V} {oy : Option Tr} (e : Same H H') (h : Operand H CT C cols y oy) : Operand H' CT C cols y oy := h.lsts (.same e)
theorem set_get {α : Type} {l : List α} {k i : Nat} {x y : α} (hk : k < l.length) (h : (l.set k x)[i]? = some y) : (i = k ∧ y = x) ∨ (i ≠ k ∧ l[i]? = some y) := by
  rw [List.getElem?_set] at h
  by_cases q : k = i
  · rw [if_pos q, if_pos (q ▸ hk)] at h
    exact .inl ⟨q.symm, (Option.some.inj h).symm⟩
  · rw [if_neg q] at h
    exact .inr ⟨fun e => q e.symm, h⟩
/-- the dues at k are new, the condition at k has changed in place (all else but p stays, from G to G') -/
theorem NV.step {G G' : Hp} {CT C nl vl p x : Addr} {rs : List (List Int)} {ps ls : List Addr} {os : List (Option Tr)} {o' : Option Tr} {k : Nat} (N : NV G CT C nl vl rs ps ls os) (nd : ps.Nodup) (hk : k < os.length) (hp : ps[k]? = some p) (n1 : nl ≠ vl) (hx : Dues G x (valsOf rs o')) (nx : x ≠ vl) (nls : ∀ l ∈ ls, l ≠ vl) {o0 : Option Tr} (c0 : CondT G CT C p cols2 o0)
    (L : Lsts' p (upd G vl (.lst ((ls.set k x).map V.ref))) G') (hc : CondT G' CT C p cols2 o') : NV G' CT C nl vl rs ps (ls.set k x) (os.set k o') := by
  obtain ⟨dx, fs, ip⟩ := c0.ins
  have pvl : p ≠ vl := ne_of ip N.hv nofun
  have ip2 : upd G vl (.lst ((ls.set k x).map V.ref)) p = some (.ins C dx fs) := by rw [upd_ne pvl]; exact ip
  have L1 : Lsts G (upd G vl (.lst ((ls.set k x).map V.ref))) := Lsts.put N.hv
  have lst : ∀ a xs, a ≠ vl → G a = some (.lst xs) → G' a = some (.lst xs) := fun a xs h1 h2 => L _ _ (ne_of h2 ip nofun) (by rw [upd_ne h1]; exact h2)
  refine ⟨lst _ _ n1 N.hn, L _ _ pvl.symm upd_same, by rw [List.length_set]; exact N.lp, by rw [List.length_set, List.length_set]; exact N.ll, fun i q o e1 e2 => ?_, fun i l o e1 e2 => ?_⟩
  · rcases set_get hk e2 with ⟨rfl, rfl⟩ | ⟨ne, e2⟩
    · rw [hp] at e1
      cases e1
      exact hc
    · obtain ⟨tb, ws, h1, h2⟩ := (N.cd i q o e1 e2).lsts L1
      have nq : q ≠ p := fun e => ne ((List.getElem?_inj (List.getElem?_eq_some_iff.mp e1).1 nd).mp (by rw [e1, hp, e]))
      obtain ⟨tb0, ws0, z1, z2⟩ := c0.lsts L1
      exact ⟨tb, ws, h1.lsts' ip2 L nq, h2.lsts' ip2 L (tab_ne h2 z1)⟩
  · rcases set_get (by rw [N.ll]; exact hk) e1 with ⟨rfl, rfl⟩ | ⟨ne, e1⟩
    · rw [List.getElem?_set, if_pos rfl, if_pos hk] at e2
      cases e2
      exact lst _ _ nx hx
    · rw [List.getElem?_set, if_neg (fun e => ne e.symm)] at e2
      exact lst _ _ (nls l (List.mem_of_getElem? e1)) (N.du i l o e1 e2)
end Own
namespace Own
open PySem PySem.Spec PyProof.Rows L2
theorem dues_ne {H : Hp} {x a : Addr} {rs : List (List Int)} {o : Option Tr} {qs : List Addr} (hn : 0 < rs.length) (hd : Dues H x (valsOf rs o)) (ha : H a = some (.lst (qs.map V.ref))) : x ≠ a := fun e => by
  rw [← e, show H x = some (.lst ((valsOf rs o).map v3)) from hd] at ha
  have e4 : (valsOf rs o).map v3 = qs.map V.ref := by injection ha with q; injection q
  have hl2 : 0 < (valsOf rs o).length := by rw [vals_len]; exact hn
  cases ev : valsOf rs o with
  | nil => rw [ev] at hl2; exact absurd hl2 (by decide)
  | cons z zs =>
    rw [ev] at e4
    cases qs with
    | nil => cases e4
    | cons q qs =>
      have : v3 z = .ref q := (List.cons.inj e4).1
      cases z <;> cases this
section
variable {H H' : Hp} {CT C nl vl a : Addr} {rs : List (List Int)} {ps ls : List Addr} {os : List (Option Tr)}
/-- another list of references is changed -/
theorem NV.put (h : NV H CT C nl vl rs ps ls os) {qs : List Addr} {o : HO} (ha : H a = some (.lst (qs.map V.ref))) (hn : 0 < rs.length) (n1 : nl ≠ a) (n2 : vl ≠ a) : NV (upd H a o) CT C nl vl rs ps ls os :=
  ⟨by rw [upd_ne n1]; exact h.hn, by rw [upd_ne n2]; exact h.hv, h.lp, h.ll, fun i p o e1 e2 => (h.cd i p o e1 e2).lsts (Lsts.put ha), fun i l o e1 e2 => by
    have q := h.du i l o e1 e2
    show upd H a _ l = _
    rw [upd_ne (dues_ne hn q ha)]
    exact q⟩
/-- others are changed in place -/
theorem NV.ex (h : NV H CT C nl vl rs ps ls os) {S : Addr → Prop} (hS : SOk H C S) (e : Ex S H H') (n1 : ¬ S nl) (n2 : ¬ S vl) (n3 : ∀ p ∈ ps, ¬ S p) (n4 : ∀ l ∈ ls, ¬ S l) : NV H' CT C nl vl rs ps ls os :=
  ⟨e _ _ n1 h.hn, e _ _ n2 h.hv, h.lp, h.ll, fun i p o e1 e2 => (h.cd i p o e1 e2).ex hS e (n3 p (List.mem_of_getElem? e1)), fun i l o e1 e2 => e _ _ (n4 l (List.mem_of_getElem? e1)) (h.du i l o e1 e2)⟩
end
theorem upd_comm {H : Hp} {p q : Addr} {a b : HO} (n : p ≠ q) : upd (upd H p a) q b = upd (upd H q b) p a := by
  funext x
  by_cases h1 : x = p
  · subst h1
    rw [upd_ne n, upd_same, upd_same]
  · by_cases h2 : x = q
    · subst h2
      rw [upd_same, upd_ne h1, upd_same]
    · rw [upd_ne h2, upd_ne h1, upd_ne h1, upd_ne h2]
/-! ### lists of dues, shown -/
def d3 : Val3 → PyData
  | none => .none
  | some b => .bool b
theorem dp_dues {K : PySem.W.Frag} {H : Hp} : ∀ (as : List Val3), DpAll K H (as.map v3) (as.map d3)
  | [] => .nil
  | none :: as => .cons .non (dp_dues as)
  | some b :: as => .cons (.bl b) (dp_dues as)
theorem dues_dp {K : PySem.W.Frag} {H : Hp} {l : Addr} {as : List Val3} (h : Dues H l as) : Dp K H (.ref l) (.list (as.map d3)) := .lst (SqL.of h) (dp_dues as)
end Own

namespace Own
open PySem PySem.Spec PyProof.Rows L2
/-! ### what a law about conditions holds between its steps (k10) -/
theorem nd_ne {α : Type} {L : List α} (h : L.Nodup) (i j : Nat) {x y : α} (hi : L[i]? = some x := by rfl) (hj : L[j]? = some y := by rfl) (hij : i ≠ j := by decide) : x ≠ y := fun e => by
  subst e
  exact hij ((List.getElem?_inj (List.getElem?_eq_some_iff.mp hi).1 h).mp (by rw [hi, hj]))
theorem RowsAt.ex {H H' : Hp} {C l : Addr} {S : Addr → Prop} {rs : List (List Int)} (hS : SOk H C S) (e : Ex S H H') (n : ¬ S l) (h : RowsAt H l rs) : RowsAt H' l rs := by
  obtain ⟨xs, h1, h2⟩ := h
  exact ⟨xs, e _ _ n h1, h2.mono fun r v ⟨t, e1, e2⟩ => ⟨t, e1, e _ _ (hS.tup e2) e2⟩⟩
/-- the bag, the table, the numbers, the rows -/
structure B0 (H0 H : Hp) (CT b tb nl rl : Addr) (fs : List Addr) (ns : List Int) (rs : List (List Int)) : Prop where
  S : Same H0 H
  fr : ∀ x ∈ b :: nl :: rl :: fs, H0 x = none
  nd : (b :: nl :: rl :: fs).Nodup
  hb : Bag H b
  hT : TabF H CT tb cols2
  hn : H nl = some (.lst (ns.map V.int))
  n30 : ∀ n ∈ ns, Num30 n
  hr : RowsAt H rl rs
  r2 : ∀ r ∈ rs, r.length = 2
section
variable {H0 H H' : Hp} {C CT b tb nl rl : Addr} {fs : List Addr} {ns : List Int} {rs : List (List Int)}
theorem B0.nn (h : B0 H0 H CT b tb nl rl fs ns rs) : b ≠ nl := nd_ne h.nd 0 1
theorem B0.nr (h : B0 H0 H CT b tb nl rl fs ns rs) : b ≠ rl := nd_ne h.nd 0 2
theorem B0.nnr (h : B0 H0 H CT b tb nl rl fs ns rs) : nl ≠ rl := nd_ne h.nd 1 2
theorem B0.nf (h : B0 H0 H CT b tb nl rl fs ns rs) {a : Addr} (ha : a ∈ fs) : b ≠ a ∧ nl ≠ a ∧ rl ≠ a := by
  have h1 := h.nd
  rw [List.nodup_cons, List.nodup_cons, List.nodup_cons] at h1
  obtain ⟨q1, q2, q3, _⟩ := h1
  exact ⟨fun e => q1 (e ▸ List.mem_cons_of_mem _ (List.mem_cons_of_mem _ ha)), fun e => q2 (e ▸ List.mem_cons_of_mem _ ha), fun e => q3 (e ▸ ha)⟩
theorem B0.same (h : B0 H0 H CT b tb nl rl fs ns rs) (s : Same H H') : B0 H0 H' CT b tb nl rl fs ns rs :=
  ⟨h.S.trans s, h.fr, h.nd, h.hb.same s, h.hT.lsts (.same s), s _ _ h.hn, h.n30, h.hr.same s, h.r2⟩
theorem B0.but (h : B0 H0 H CT b tb nl rl fs ns rs) (s : But b H H') (hb : Bag H' b) : B0 H0 H' CT b tb nl rl fs ns rs :=
  ⟨s.to_same h.S (h.fr _ List.mem_cons_self), h.fr, h.nd, hb, h.hT.lsts (Lsts.but h.hb s), s _ _ h.nn.symm h.hn, h.n30, h.hr.but h.hb h.nr.symm s, h.r2⟩
theorem B0.put (h : B0 H0 H CT b tb nl rl fs ns rs) {a : Addr} {xs : List V} {o : HO} (ha : H a = some (.lst xs)) (hf : a ∈ fs) : B0 H0 (upd H a o) CT b tb nl rl fs ns rs := by
  obtain ⟨n1, n2, n3⟩ := h.nf hf
  have L : Lsts H (upd H a o) := Lsts.put ha
  exact ⟨put_same h.S (h.fr _ (List.mem_cons_of_mem _ (List.mem_cons_of_mem _ (List.mem_cons_of_mem _ hf)))), h.fr, h.nd, h.hb.put n1, h.hT.lsts L, by rw [upd_ne n2]; exact h.hn, h.n30, h.hr.lsts (fun _ e => by rw [upd_ne n3]; exact e) L, h.r2⟩
theorem B0.num (h : B0 H0 H CT b tb nl rl fs ns rs) {n : Int} (hn : Num30 n) : B0 H0 (upd H nl (.lst (ns.map V.int ++ [.int n]))) CT b tb nl rl fs (ns ++ [n]) rs := by
  have L : Lsts H (upd H nl (.lst (ns.map V.int ++ [.int n]))) := Lsts.put h.hn
  exact ⟨put_same h.S (h.fr _ (List.mem_cons_of_mem _ List.mem_cons_self)), h.fr, h.nd, h.hb.put h.nn, h.hT.lsts L, by rw [upd_same, List.map_append]; rfl, fun x hx => (List.mem_append.mp hx).elim (h.n30 x) fun e => List.mem_singleton.mp e ▸ hn, h.hr.lsts (fun _ e => by rw [upd_ne h.nnr.symm]; exact e) L, h.r2⟩
theorem B0.row (h : B0 H0 H CT b tb nl rl fs ns rs) {xs : List V} {t : Addr} {r : List Int} (hx : H rl = some (.lst xs)) (ht : H t = some (.tup (r.map V.int))) (hr2 : r.length = 2) : B0 H0 (upd H rl (.lst (xs ++ [.ref t]))) CT b tb nl rl fs ns (rs ++ [r]) := by
  have L : Lsts H (upd H rl (.lst (xs ++ [.ref t]))) := Lsts.put hx
  obtain ⟨ys, h1, h2⟩ := h.hr
  rw [hx] at h1
  cases h1
  refine ⟨put_same h.S (h.fr _ (List.mem_cons_of_mem _ (List.mem_cons_of_mem _ List.mem_cons_self))), h.fr, h.nd, h.hb.put h.nr, h.hT.lsts L, by rw [upd_ne h.nnr]; exact h.hn, h.n30, ⟨_, upd_same, ?_⟩, fun x hx => (List.mem_append.mp hx).elim (h.r2 x) fun e => List.mem_singleton.mp e ▸ hr2⟩
  exact (h2.mono fun r v q => q.lsts L).snoc ⟨t, rfl, L _ _ ht nofun⟩
theorem B0.ex (h : B0 H0 H CT b tb nl rl fs ns rs) {S : Addr → Prop} (hS : SOk H C S) (e : Ex S H H') (nS : ∀ a, S a → H0 a = none) (hb' : Bag H' b) (n1 : ¬ S nl) (n2 : ¬ S rl) : B0 H0 H' CT b tb nl rl fs ns rs :=
  ⟨fun a o q => e _ _ (fun z => by rw [nS a z] at q; cases q) (h.S _ _ q), h.fr, h.nd, hb', h.hT.ex hS e, e _ _ n1 h.hn, h.n30, h.hr.ex hS e n2, h.r2⟩
theorem B0.add (h : B0 H0 H CT b tb nl rl fs ns rs) {x : Addr} (hx : H x = none) (hf : ∀ a ∈ fs, H a ≠ none) : B0 H0 H CT b tb nl rl (fs ++ [x]) ns rs := by
  obtain ⟨ys, hl⟩ := h.hb.lst
  obtain ⟨zs, hz, _⟩ := h.hr
  have all : ∀ a ∈ b :: nl :: rl :: fs, a ≠ x := fun a ha e => by
    subst e
    rcases List.mem_cons.mp ha with rfl | ha
    · rw [hx] at hl; cases hl
    rcases List.mem_cons.mp ha with rfl | ha
    · have := h.hn; rw [hx] at this; cases this
    rcases List.mem_cons.mp ha with rfl | ha
    · rw [hx] at hz; cases hz
    · exact hf a ha hx
  refine ⟨h.S, fun y hy => ?_, ?_, h.hb, h.hT, h.hn, h.n30, h.hr, h.r2⟩
  · have : y ∈ (b :: nl :: rl :: fs) ++ [x] := hy
    rcases List.mem_append.mp this with q | q
    · exact h.fr y q
    · rw [List.mem_singleton.mp q]
      exact h.S.free hx
  · show ((b :: nl :: rl :: fs) ++ [x]).Nodup
    rw [List.nodup_append]
    refine ⟨h.nd, List.nodup_cons.mpr ⟨nofun, List.nodup_nil⟩, fun a ha c hc => ?_⟩
    rw [List.mem_singleton.mp hc]
    exact all a ha
end
structure St (H0 H : Hp) (CT C b tb nl rl cl vl ml dl nm : Addr) (ns : List Int) (rs : List (List Int)) (ps ls : List Addr) (os : List (Option Tr)) (ms ds : List Addr) (ws : List (Option Tr)) (n : Nat) : Prop where
  B : B0 H0 H CT b tb nl rl [cl, vl, ml, dl, nm] ns rs
  N : NV H CT C cl vl rs ps ls os
  M : NV H CT C ml dl rs ms ds ws
  hnm : H nm = some (.lst (ps.map V.ref))
  pn : ps.Nodup
  fp : ∀ p ∈ ps, H0 p = none
  pm : ∀ p ∈ ps, p ∉ ms
  ol : os.length = 3
  r3 : rs.length = 3
  n3 : ns.length = 3
  ow : ∀ o ∈ os, OWf 2 n o
  mw : ∀ o ∈ ws, OWf 2 100000 o
section
variable {H0 H H' : Hp} {CT C b tb nl rl cl vl ml dl nm : Addr} {ns : List Int} {rs : List (List Int)} {ps ls : List Addr} {os : List (Option Tr)} {ms ds : List Addr} {ws : List (Option Tr)} {n : Nat}
theorem St.same (h : St H0 H CT C b tb nl rl cl vl ml dl nm ns rs ps ls os ms ds ws n) (s : Same H H') : St H0 H' CT C b tb nl rl cl vl ml dl nm ns rs ps ls os ms ds ws n :=
  ⟨h.B.same s, h.N.same s, h.M.same s, s _ _ h.hnm, h.pn, h.fp, h.pm, h.ol, h.r3, h.n3, h.ow, h.mw⟩
theorem St.but (h : St H0 H CT C b tb nl rl cl vl ml dl nm ns rs ps ls os ms ds ws n) (s : But b H H') (hb : Bag H' b) : St H0 H' CT C b tb nl rl cl vl ml dl nm ns rs ps ls os ms ds ws n :=
  ⟨h.B.but s hb, h.N.but s h.B.hb, h.M.but s h.B.hb, s.at h.B.hb h.hnm ref_bag, h.pn, h.fp, h.pm, h.ol, h.r3, h.n3, h.ow, h.mw⟩
/-- the conditions under their other name -/
theorem St.N' (h : St H0 H CT C b tb nl rl cl vl ml dl nm ns rs ps ls os ms ds ws n) : NV H CT C nm vl rs ps ls os := { h.N with hn := h.hnm }
theorem St.snoc (h : St H0 H CT C b tb nl rl cl vl ml dl nm ns rs ps ls os ms ds ws n) {c l : Addr} {o : Option Tr} (hc : CondT H CT C c cols2 o) (hd : Dues H l (valsOf rs o)) (wo : OWf 2 100000 o) (nc : c ∉ ps) :
    St H0 (upd (upd H ml (.lst (ms.map V.ref ++ [.ref c]))) dl (.lst (ds.map V.ref ++ [.ref l]))) CT C b tb nl rl cl vl ml dl nm ns rs ps ls os (ms ++ [c]) (ds ++ [l]) (ws ++ [o]) n := by
  have hr0 : 0 < rs.length := by rw [h.r3]; decide
  have nd := h.B.nd
  have e1 : ml ≠ dl := nd_ne nd 5 6
  have hd2 : upd H ml (.lst (ms.map V.ref ++ [.ref c])) dl = some (.lst (ds.map V.ref)) := by rw [upd_ne e1.symm]; exact h.M.hv
  refine ⟨(h.B.put h.M.hn (by simp)).put hd2 (by simp), (h.N.put h.M.hn hr0 (nd_ne nd 3 5) (nd_ne nd 4 5)).put hd2 hr0 (nd_ne nd 3 6) (nd_ne nd 4 6), h.M.snoc hc hd e1 (dues_ne hr0 hd h.M.hn) (dues_ne hr0 hd h.M.hv) (h.M.ne hr0), ?_, h.pn, h.fp, fun p hp hm => ?_, h.ol, h.r3, h.n3, h.ow, fun x hx => ?_⟩
  · rw [upd_ne (nd_ne nd 7 6), upd_ne (nd_ne nd 7 5)]
    exact h.hnm
  · rcases List.mem_append.mp hm with hm | hm
    · exact h.pm p hp hm
    · exact nc (List.mem_singleton.mp hm ▸ hp)
  · rcases List.mem_append.mp hx with hx | hx
    · exact h.mw x hx
    · exact List.mem_singleton.mp hx ▸ wo
theorem St.sok (h : St H0 H CT C b tb nl rl cl vl ml dl nm ns rs ps ls os ms ds ws n) : SOk H C (SStep b vl ps) := fun a ha => by
  rcases ha with rfl | rfl | ha
  · obtain ⟨ys, q⟩ := h.B.hb.lst
    exact .inl ⟨ys, q⟩
  · exact .inl ⟨_, h.N.hv⟩
  · obtain ⟨i, hi⟩ := List.mem_iff_getElem?.mp ha
    have hl := (List.getElem?_eq_some_iff.mp hi).1
    obtain ⟨p, l, o, q1, _, _, q2, _⟩ := h.N.get (i := i) (by rw [← h.N.lp]; exact hl)
    rw [hi] at q1
    cases q1
    obtain ⟨tb, ws, q3, _⟩ := q2
    exact .inr ⟨tb, o, ws, q3⟩
theorem St.pins (h : St H0 H CT C b tb nl rl cl vl ml dl nm ns rs ps ls os ms ds ws n) {p : Addr} (hp : p ∈ ps) : ∃ dx fs, H p = some (.ins C dx fs) := by
  obtain ⟨i, hi⟩ := List.mem_iff_getElem?.mp hp
  have hl := (List.getElem?_eq_some_iff.mp hi).1
  obtain ⟨q, l, o, q1, _, _, q2, _⟩ := h.N.get (i := i) (by rw [← h.N.lp]; exact hl)
  rw [hi] at q1
  cases q1
  exact q2.ins
theorem St.lnp (h : St H0 H CT C b tb nl rl cl vl ml dl nm ns rs ps ls os ms ds ws n) {a : Addr} {xs : List V} (ha : H a = some (.lst xs)) : a ∉ ps := fun hp => by
  obtain ⟨dx, fs, q⟩ := h.pins hp
  rw [ha] at q
  cases q
theorem St.step (h : St H0 H CT C b tb nl rl cl vl ml dl nm ns rs ps ls os ms ds ws n) {ls' : List Addr} {os' : List (Option Tr)} {m : Nat} (e : Ex (SStep b vl ps) H H') (hb' : Bag H' b) (N' : NV H' CT C cl vl rs ps ls' os') (ol' : os'.length = 3) (ow' : ∀ o ∈ os', OWf 2 m o) :
    St H0 H' CT C b tb nl rl cl vl ml dl nm ns rs ps ls' os' ms ds ws m := by
  have hr0 : 0 < rs.length := by rw [h.r3]; decide
  have nd := h.B.nd
  have no : ∀ {a : Addr} {xs : List V}, a ≠ b → a ≠ vl → H a = some (.lst xs) → ¬ SStep b vl ps a := fun n1 n2 ha q => by
    rcases q with q | q | q
    · exact n1 q
    · exact n2 q
    · exact h.lnp ha q
  obtain ⟨zs, hz, _⟩ := h.B.hr
  have hbl := h.B.hb
  refine ⟨h.B.ex h.sok e (fun a q => ?_) hb' (no (nd_ne nd 1 0) (nd_ne nd 1 4) h.B.hn) (no (nd_ne nd 2 0) (nd_ne nd 2 4) hz), N', h.M.ex h.sok e (no (nd_ne nd 5 0) (nd_ne nd 5 4) h.M.hn) (no (nd_ne nd 6 0) (nd_ne nd 6 4) h.M.hv) (fun p hp q => ?_) (fun l hl => ?_), e _ _ (no (nd_ne nd 7 0) (nd_ne nd 7 4) h.hnm) h.hnm, h.pn, h.fp, h.pm, ol', h.r3, h.n3, ow', h.mw⟩
  · rcases q with rfl | rfl | q
    · exact h.B.fr _ (by simp)
    · exact h.B.fr _ (by simp)
    · exact h.fp a q
  · obtain ⟨i, hi⟩ := List.mem_iff_getElem?.mp hp
    have hl := (List.getElem?_eq_some_iff.mp hi).1
    obtain ⟨p', l, o, q1, _, _, q2, _⟩ := h.M.get (i := i) (by rw [← h.M.lp]; exact hl)
    rw [hi] at q1
    cases q1
    obtain ⟨dx, fs, q3⟩ := q2.ins
    rcases q with rfl | rfl | q
    · obtain ⟨ys, q4⟩ := hbl.lst
      rw [q4] at q3
      cases q3
    · rw [h.N.hv] at q3
      cases q3
    · exact h.pm p q hp
  · obtain ⟨i, hi⟩ := List.mem_iff_getElem?.mp hl
    have hll := (List.getElem?_eq_some_iff.mp hi).1
    obtain ⟨p', l', o, _, q1, _, _, q2⟩ := h.M.get (i := i) (by rw [← h.M.ll]; exact hll)
    rw [hi] at q1
    cases q1
    refine no (fun q => ?_) (dues_ne hr0 q2 h.N.hv) q2
    obtain ⟨x, y, q4, _⟩ := hbl
    rw [← q, show H l = _ from q2] at q4
    exact v3_bag x y (Option.some.inj q4)
end
/-! ### dues as texts -/
theorem shw_d3 (x : Val3) : Shw (d3 x) := by
  rcases x with _ | _ | _
  · exact ⟨by decide +kernel, by decide +kernel, by decide +kernel, by decide +kernel, by decide +kernel⟩
  · exact ⟨by decide +kernel, by decide +kernel, by decide +kernel, by decide +kernel, by decide +kernel⟩
  · exact ⟨by decide +kernel, by decide +kernel, by decide +kernel, by decide +kernel, by decide +kernel⟩
theorem dues_show {as : List Val3} (h : as.length ≤ 100) : SeqAt.shaped (.list (as.map d3)) = true ∧ (PyData.list (as.map d3)).showable = true ∧ (PyData.list (as.map d3)).hasDict = false ∧ (PyData.list (as.map d3)).depth ≤ 60 ∧ (PyData.list (as.map d3)).shown.length ≤ sizeLine :=
  shw_list (fun d hd => by
    obtain ⟨n, hn, rfl⟩ := List.mem_map.mp hd
    exact shw_d3 n) (by rw [List.length_map]; exact h)
theorem first_due {rs : List (List Int)} (h : 0 < rs.length) (o : Option Tr) : ∃ x : Val3, (valsOf rs o)[0]? = some x ∧ x.isNone = o.isNone := by
  cases rs with
  | nil => exact absurd h (by decide)
  | cons r rs =>
    refine ⟨ov r o, rfl, ?_⟩
    cases o <;> rfl
end Own

namespace Own
open PySem PySem.Spec PyProof.Rows L2
/-- repr of None, True, False -/
def v3s : Val3 → Str
  | none => "None"
  | some true => "True"
  | some false => "False"
theorem call_repr_v3 {X : Cx} : CallR X (.builtin "repr") (fun xs H Q => ∃ x : Val3, xs = [v3 x] ∧ Q (.str (v3s x)) H) := by
  intro pins s σ H xs us Q I r h
  obtain ⟨x, rfl, q⟩ := h
  match us, r with
  | [u], .cons ru .nil =>
    cases x with
    | none =>
      obtain rfl : u = Value.none := ru
      exact PySem.P.repr_of_none ⟨.str _, H, I.tok _, ⟨_, rfl⟩, q⟩
    | some b =>
      obtain rfl : u = Value.bool b := ru
      refine PySem.P.repr_of_bool ?_
      cases b
      · exact ⟨.str _, H, I.tok _, ⟨_, rfl⟩, q⟩
      · exact ⟨.str _, H, I.tok _, ⟨_, rfl⟩, q⟩
theorem ints_known {H : Hp} {q : Addr} {r : List Int} (h : H q = some (.tup (r.map V.int))) (hl : r.length ≤ 1000) : Known H (.ref q) :=
  known_tup h (by rw [List.length_map]; exact hl) fun x hx => by
    obtain ⟨i, _, rfl⟩ := List.mem_map.mp hx
    exact ⟨_, rfl⟩
theorem row_in {H : Hp} {CT C p tb q : Addr} {r : List Int} {cols : List Str} {o : Option Tr} {ws : Option (List Str)} {Q : VK} {E : XK} (hc : CondAt H C p tb o ws) (hT : TabF H CT tb cols) (hq : H q = some (.tup (r.map V.int))) (hl : r.length = cols.length) (h3 : r.length ≤ 1000)
    (hwf : OTrWf cols.length o) (k : ∀ H', Same H H' → Q (.bl (takB r o)) H') : spCondIn CT C [.ref p, .ref q] H Q E := by
  have hb : rowB H (.ref q) (cols.length : Nat) = true := by
    rw [rowB_tup hq, List.length_map, hl, decide_eq_true rfl, Bool.true_and, List.all_eq_true]
    intro x hx
    obtain ⟨i, _, rfl⟩ := List.mem_map.mp hx
    rfl
  refine ⟨p, tb, .ref q, cols, o, ws, rfl, hc, hT, ints_known hq h3, hwf, fun h => ?_, fun q' r' e hq' hl' H' s => ?_, fun _ => ⟨q, r, rfl, hq, hl⟩⟩
  · rw [hb] at h; cases h
  · cases e
    rw [hq] at hq'
    have e2 : r.map V.int = r'.map V.int := by injection hq' with z; injection z
    have e3 : r = r' := (List.map_inj_right (fun a b h => V.int.inj h)).mp e2
    rw [← e3]
    exact k H' s
theorem notF_v3 {x : Val3} {H : Hp} {Q : VK} (k : Q (.bl (x.getD true)) H) : rNotF (v3 x) (.bl false) H Q := by
  refine ⟨rfl, ?_⟩
  cases x with
  | none => exact .inl ⟨rfl, k⟩
  | some b => exact .inr ⟨b, rfl, k⟩
theorem RowsAt.get {H : Hp} {l : Addr} {rs : List (List Int)} {xs : List V} (hx : Al (fun r v => IntT H v r) rs xs) {i : Nat} (hi : i < rs.length) : ∃ r q, rs[i]? = some r ∧ xs[i]? = some (.ref q) ∧ H q = some (.tup (r.map V.int)) := by
  have e1 : rs[i]? = some rs[i] := List.getElem?_eq_getElem _
  obtain ⟨x, e2, q, rfl, hq⟩ := hx.get' e1
  exact ⟨_, q, e1, e2, hq⟩
theorem vals_get {rs : List (List Int)} {i : Nat} {r : List Int} {o : Option Tr} (h : rs[i]? = some r) : (valsOf rs o)[i]? = some (ov r o) := by
  unfold valsOf
  rw [List.getElem?_map, h]
  rfl
def spRight (CT C : Addr) : Sp := fun vs H Q _ => ∃ (p rl l : Addr) (rs : List (List Int)) (o : Option Tr), vs = [.ref p, .ref rl, .ref l] ∧ CondT H CT C p cols2 o ∧ RowsAt H rl rs ∧ (∀ r ∈ rs, r.length = 2) ∧ 0 < rs.length ∧ rs.length ≤ 1000 ∧ OWf 2 100000 o ∧ Dues H l (valsOf rs o) ∧ ∀ H', Same H H' → Q (.bl true) H'
end Own

namespace Own
open PySem PySem.Spec PyProof.Rows L2
/-! ### the trees that a law draws, their texts and their values -/
inductive LT where
  | wd (w : Str) | tc (l : Nat) (s : Str) (x : Nat) | tn (l : Nat) (s : Str) (n : Int) | neg (t : LT) | bin (s : Str) (l r : LT)
def LtOk (m : Nat) : LT → Prop
  | .wd w => w = "blank" ∨ w = "every" ∨ w = "none"
  | .tc l s x => l < m ∧ (s = "=" ∨ s = "!=") ∧ x < m
  | .tn l s n => l < m ∧ s ∈ signL ∧ Num30 n
  | .neg t => LtOk m t
  | .bin s l r => (s = "&" ∨ s = "|") ∧ LtOk m l ∧ LtOk m r
def dpt : LT → Nat
  | .neg t => dpt t + 1
  | .bin _ l r => max (dpt l) (dpt r) + 1
  | _ => 0
def LtAt (H : Hp) : LT → V → Prop
  | .wd w, v => ∃ a, v = .ref a ∧ H a = some (.tup [.str w])
  | .tc l s x, v => ∃ a, v = .ref a ∧ H a = some (.tup [.str "test", .int (l : Nat), .str s, .str "column", .int (x : Nat)])
  | .tn l s n, v => ∃ a, v = .ref a ∧ H a = some (.tup [.str "test", .int (l : Nat), .str s, .str "number", .int n])
  | .neg t, v => ∃ a u, v = .ref a ∧ H a = some (.tup [.str "~", u]) ∧ LtAt H t u
  | .bin s l r, v => ∃ a u w, v = .ref a ∧ H a = some (.tup [.str s, u, w]) ∧ LtAt H l u ∧ LtAt H r w
theorem LtAt.lsts {H H' : Hp} (e : Lsts H H') : ∀ {t : LT} {v : V}, LtAt H t v → LtAt H' t v
  | .wd _, _, ⟨a, h1, h2⟩ => ⟨a, h1, e _ _ h2 nofun⟩
  | .tc _ _ _, _, ⟨a, h1, h2⟩ => ⟨a, h1, e _ _ h2 nofun⟩
  | .tn _ _ _, _, ⟨a, h1, h2⟩ => ⟨a, h1, e _ _ h2 nofun⟩
  | .neg t, _, ⟨a, u, h1, h2, h3⟩ => ⟨a, u, h1, e _ _ h2 nofun, h3.lsts e⟩
  | .bin s l r, _, ⟨a, u, w, h1, h2, h3, h4⟩ => ⟨a, u, w, h1, e _ _ h2 nofun, h3.lsts e, h4.lsts e⟩
theorem LtAt.ref {H : Hp} : ∀ {t : LT} {v : V}, LtAt H t v → ∃ a, v = .ref a
  | .wd _, _, ⟨a, h1, _⟩ => ⟨a, h1⟩
  | .tc _ _ _, _, ⟨a, h1, _⟩ => ⟨a, h1⟩
  | .tn _ _ _, _, ⟨a, h1, _⟩ => ⟨a, h1⟩
  | .neg t, _, ⟨a, u, h1, _⟩ => ⟨a, h1⟩
  | .bin s l r, _, ⟨a, u, w, h1, _⟩ => ⟨a, h1⟩
def lval (r : List Int) : LT → Val3
  | .wd w => wordV3 w
  | .tc l s x => some (cmpB s (r.getD l 0) (r.getD x 0))
  | .tn l s n => some (cmpB s (r.getD l 0) n)
  | .neg t => (lval r t).map (!·)
  | .bin s l r' => join3 s (lval r l) (lval r r')
/-- l and r under a sign, the signs alike to the left -/
def joinX (s : Str) (l : Tx) : Tx → Tx
  | .bin s' a b => if s' = s then .bin s (joinX s l a) b else .bin s l (.bin s' a b)
  | r => .bin s l r
theorem joinX_words (s : Str) (l : Tx) : ∀ r, wordsX (joinX s l r) = wordsX l ++ s :: wordsX r
  | .ts _ _ _ => rfl
  | .wd _ => rfl
  | .neg _ => rfl
  | .par _ => rfl
  | .bin s' a b => by
    show wordsX (if s' = s then _ else _) = _
    split
    · subst s'
      show wordsX (joinX s l a) ++ s :: wordsX b = _
      rw [joinX_words s l a]
      show _ = wordsX l ++ s :: (wordsX a ++ s :: wordsX b)
      rw [List.append_assoc, List.cons_append]
    · rfl
theorem join3_assoc {s : Str} (a b c : Val3) : join3 s (join3 s a b) c = join3 s a (join3 s b c) := by
  unfold join3
  rcases a with _ | a <;> rcases b with _ | b <;> rcases c with _ | c <;> try rfl
  by_cases h : s = "&"
  · simp [h, Bool.and_assoc]
  · simp [h, Bool.or_assoc]
theorem joinX_val {cols : List Str} (g : List Int) (s : Str) (l : Tx) : ∀ r, ov g (treeX cols (joinX s l r)) = join3 s (ov g (treeX cols l)) (ov g (treeX cols r))
  | .ts _ _ _ => ov_join ..
  | .wd _ => ov_join ..
  | .neg _ => ov_join ..
  | .par _ => ov_join ..
  | .bin s' a b => by
    show ov g (treeX cols (if s' = s then _ else _)) = _
    split
    · subst s'
      show ov g (tJoin s (treeX cols (joinX s l a)) (treeX cols b)) = join3 s _ (ov g (tJoin s (treeX cols a) (treeX cols b)))
      rw [ov_join, ov_join, joinX_val g s l a, join3_assoc]
    · exact ov_join ..
theorem joinX_lv (s : Str) (l : Tx) : ∀ r, lvX (joinX s l r) = rank s
  | .ts _ _ _ => rfl
  | .wd _ => rfl
  | .neg _ => rfl
  | .par _ => rfl
  | .bin s' a b => by
    show lvX (if s' = s then _ else _) = _
    split <;> rfl
theorem joinX_wf {cols : List Str} {s : Str} (hs : s = "&" ∨ s = "|") {l : Tx} (hl : WfX cols l) (h1 : rank s ≤ lvX l) : ∀ {r}, WfX cols r → rank s ≤ lvX r → WfX cols (joinX s l r) := by
  have r3 : rank s < 3 := by rcases hs with rfl | rfl <;> decide
  intro r
  induction r with
  | ts w s' x => exact fun hr _ => ⟨hs, hl, hr, h1, r3⟩
  | wd w => exact fun hr _ => ⟨hs, hl, hr, h1, r3⟩
  | neg t _ => exact fun hr _ => ⟨hs, hl, hr, h1, r3⟩
  | par t _ => exact fun hr _ => ⟨hs, hl, hr, h1, r3⟩
  | bin s' a b ih _ =>
    intro hr h2
    show WfX cols (if s' = s then _ else _)
    split
    · rename_i e
      subst e
      obtain ⟨_, ha, hb, q1, q2⟩ := hr
      exact ⟨hs, ih ha q1, hb, by rw [joinX_lv]; exact Nat.le_refl _, q2⟩
    · rename_i e
      refine ⟨hs, hl, hr, h1, ?_⟩
      have h2 : rank s ≤ rank s' := h2
      show rank s < rank s'
      rcases hs with rfl | rfl <;> rcases hr.1 with rfl | rfl
      · exact absurd rfl e
      · exact absurd h2 (by decide)
      · decide
      · exact absurd rfl e
/-! ### texts whose tokens may touch -/
structure LowC (cols : List Str) : Prop where
  ne : ∀ c ∈ cols, c.cps.toList ≠ []
  lo : ∀ c ∈ cols, ∀ a ∈ c.cps.toList, inRun 97 122 a = true
  ln : ∀ c ∈ cols, c.length ≤ 31
def lowCB (cols : List Str) : Bool := cols.all fun c => !c.cps.toList.isEmpty && (c.cps.toList.all (inRun 97 122) && decide (c.length ≤ 31))
theorem lowC_ok {cols : List Str} (h : lowCB cols = true) : LowC cols := by
  unfold lowCB at h
  simp only [Bool.and_eq_true, List.all_eq_true, decide_eq_true_eq, Bool.not_eq_true', List.isEmpty_eq_false_iff] at h
  exact ⟨fun c hc => (h c hc).1, fun c hc => (h c hc).2.1, fun c hc => (h c hc).2.2⟩
def GlX (cols : List Str) : Tx → Prop
  | .ts w s x => w ∈ cols ∧ s ∈ signL ∧ (x ∈ cols ∨ ∃ n, x = numS n ∧ Num30 n)
  | .wd w => w ∈ (["blank", "every", "none"] : List Str)
  | .neg t => GlX cols t
  | .par t => GlX cols t
  | .bin s l r => (s = "&" ∨ s = "|") ∧ GlX cols l ∧ GlX cols r
theorem joinX_gl {cols : List Str} {s : Str} (hs : s = "&" ∨ s = "|") {l : Tx} (hl : GlX cols l) : ∀ {r}, GlX cols r → GlX cols (joinX s l r) := by
  intro r
  induction r with
  | ts w s' x => exact fun hr => ⟨hs, hl, hr⟩
  | wd w => exact fun hr => ⟨hs, hl, hr⟩
  | neg t _ => exact fun hr => ⟨hs, hl, hr⟩
  | par t _ => exact fun hr => ⟨hs, hl, hr⟩
  | bin s' a b ih _ =>
    intro hr
    show GlX cols (if s' = s then _ else _)
    split
    · exact ⟨hs, ih hr.2.1, hr.2.2⟩
    · exact ⟨hs, hl, hr⟩
theorem gl_len {cols : List Str} (lo : LowC cols) : ∀ {x}, GlX cols x → ∀ w ∈ wordsX x, w.length ≤ 31
  | .ts w s x, ⟨h1, h2, h3⟩, u, hu => by
    have hu : u = w ∨ u = s ∨ u = x := by simpa [wordsX] using hu
    rcases hu with rfl | rfl | rfl
    · exact lo.ln _ h1
    · exact Nat.le_trans (sign_alone h2).2 (by decide)
    · rcases h3 with h3 | ⟨n, rfl, hn⟩
      · exact lo.ln _ h3
      · exact (numS_ok hn).2.2
  | .wd w, h, u, hu => by
    have q : ∀ w ∈ (["blank", "every", "none"] : List Str), w.length ≤ 31 := by decide +kernel
    rw [List.mem_singleton.mp hu]
    exact q _ h
  | .neg t, h, u, hu => by
    rcases List.mem_cons.mp hu with rfl | hu
    · decide
    · exact gl_len lo (x := t) h u hu
  | .par t, h, u, hu => by
    rcases List.mem_cons.mp hu with rfl | hu
    · decide
    rcases List.mem_append.mp hu with hu | hu
    · exact gl_len lo (x := t) h u hu
    · rw [List.mem_singleton.mp hu]
      decide
  | .bin s l r, ⟨hs, hl, hr⟩, u, hu => by
    rcases List.mem_append.mp hu with hu | hu
    · exact gl_len lo hl u hu
    rcases List.mem_cons.mp hu with rfl | hu
    · rcases hs with rfl | rfl <;> decide
    · exact gl_len lo hr u hu
abbrev cpl (w : Str) : List Nat := w.cps.toList
def fits (t : List Nat) (c : Nat) : Prop := tokEnd (t ++ [c]) 0 = t.length
theorem low_fits {t : List Nat} (hne : t ≠ []) (h : ∀ a ∈ t, inRun 97 122 a = true) {c : Nat} (hc : inRun 97 122 c = false) : fits t c := by
  have e : runEnd (t ++ [c]) 0 97 122 = t.length := by
    unfold runEnd
    rw [List.drop_zero, tw_app _ _ _ (fun x hx => by cases hx; exact hc), tw_all h, Nat.zero_add]
  have hp : 0 < t.length := List.length_pos_iff.mpr hne
  unfold fits tokEnd
  rw [e, if_pos hp]
theorem low_alone {t : List Nat} (hne : t ≠ []) (h : ∀ a ∈ t, inRun 97 122 a = true) : aloneB t = true := by
  refine alone_of hne (fun e => ?_) (low_fits hne h (by decide))
  cases t with
  | nil => exact hne rfl
  | cons a t =>
    cases e
    exact absurd (h 32 List.mem_cons_self) (by decide)
theorem sg_run {a : Nat} {r : List Nat} (h1 : inRun 97 122 a = false) (h2 : inRun 48 57 a = false) (h3 : a ≠ 45) : tokEnd (a :: r) 0 = if (a :: r).take 2 ∈ longSigns then 2 else 1 := by
  have e1 : runEnd (a :: r) 0 97 122 = 0 := runEnd_out (c := a) rfl h1
  have e2 : digAt (a :: r) 0 = 0 := by
    unfold digAt
    exact if_neg fun e => h3 (Option.some.inj e)
  have e3 : runEnd (a :: r) 0 48 57 = 0 := runEnd_out (c := a) rfl h2
  unfold tokEnd
  rw [e1, if_neg (Nat.lt_irrefl _), e2, e3, if_neg (Nat.lt_irrefl _), List.drop_zero]
theorem sg_fits1 {a c : Nat} (h1 : inRun 97 122 a = false) (h2 : inRun 48 57 a = false) (h3 : a ≠ 45) (h4 : [a, c] ∉ longSigns) : fits [a] c := by
  show tokEnd (a :: [c]) 0 = 1
  rw [sg_run h1 h2 h3]
  exact if_neg h4
theorem sg_fits2 {a b c : Nat} (h1 : inRun 97 122 a = false) (h2 : inRun 48 57 a = false) (h3 : a ≠ 45) (h4 : [a, b] ∈ longSigns) : fits [a, b] c := by
  show tokEnd (a :: [b, c]) 0 = 2
  rw [sg_run h1 h2 h3]
  exact if_pos h4
theorem not_long {a c : Nat} (h : c ≠ 61) : [a, c] ∉ longSigns := by
  intro q
  simp [longSigns] at q
  omega
theorem sign_cases {s : Str} (h : s ∈ signL) : s = "=" ∨ s = "!=" ∨ s = "<" ∨ s = "<=" ∨ s = ">" ∨ s = ">=" := by simpa [signL] using h
theorem sign_fits {s : Str} (h : s ∈ signL) {c : Nat} (hc : c ≠ 61) : fits (cpl s) c := by
  rcases sign_cases h with rfl | rfl | rfl | rfl | rfl | rfl
  · exact sg_fits1 (a := 61) (by decide) (by decide) (by decide) (not_long hc)
  · exact sg_fits2 (a := 33) (b := 61) (by decide) (by decide) (by decide) (by decide)
  · exact sg_fits1 (a := 60) (by decide) (by decide) (by decide) (not_long hc)
  · exact sg_fits2 (a := 60) (b := 61) (by decide) (by decide) (by decide) (by decide)
  · exact sg_fits1 (a := 62) (by decide) (by decide) (by decide) (not_long hc)
  · exact sg_fits2 (a := 62) (b := 61) (by decide) (by decide) (by decide) (by decide)
theorem one_fits {s : Str} (h : s ∈ (["(", ")", "~", "&", "|"] : List Str)) {c : Nat} (hc : c ≠ 61) : fits (cpl s) c ∧ aloneB (cpl s) = true := by
  have h : s = "(" ∨ s = ")" ∨ s = "~" ∨ s = "&" ∨ s = "|" := by simpa using h
  rcases h with rfl | rfl | rfl | rfl | rfl
  · exact ⟨sg_fits1 (a := 40) (by decide) (by decide) (by decide) (not_long hc), by decide⟩
  · exact ⟨sg_fits1 (a := 41) (by decide) (by decide) (by decide) (not_long hc), by decide⟩
  · exact ⟨sg_fits1 (a := 126) (by decide) (by decide) (by decide) (not_long hc), by decide⟩
  · exact ⟨sg_fits1 (a := 38) (by decide) (by decide) (by decide) (not_long hc), by decide⟩
  · exact ⟨sg_fits1 (a := 124) (by decide) (by decide) (by decide) (not_long hc), by decide⟩
/-- the first sign of a text -/
theorem gl_head {cols : List Str} (lo : LowC cols) : ∀ {x}, GlX cols x → ∃ w ws c r, wordsX x = w :: ws ∧ cpl w = c :: r ∧ c ≠ 61 ∧ inRun 48 57 c = false
  | .ts w s x, ⟨h1, _, _⟩ => by
    have h := lo.lo w h1
    cases e : cpl w with
    | nil => exact absurd e (lo.ne w h1)
    | cons c r =>
      have q := h c (by rw [show w.cps.toList = c :: r from e]; exact List.mem_cons_self)
      unfold inRun at q
      simp only [Bool.and_eq_true, decide_eq_true_eq] at q
      exact ⟨w, _, c, r, rfl, e, by omega, by unfold inRun; rw [decide_eq_false (p := c ≤ 57) (by omega), Bool.and_false]⟩
  | .wd w, h => by
    have h : w = "blank" ∨ w = "every" ∨ w = "none" := by simpa [GlX] using h
    rcases h with rfl | rfl | rfl
    · exact ⟨_, _, 98, _, rfl, rfl, by decide, by decide⟩
    · exact ⟨_, _, 101, _, rfl, rfl, by decide, by decide⟩
    · exact ⟨_, _, 110, _, rfl, rfl, by decide, by decide⟩
  | .neg t, _ => ⟨_, _, 126, [], rfl, rfl, by decide, by decide⟩
  | .par t, _ => ⟨_, _, 40, [], rfl, rfl, by decide, by decide⟩
  | .bin s l r, ⟨_, hl, _⟩ => by
    obtain ⟨w, ws, c, q, e, h⟩ := gl_head lo hl
    exact ⟨w, _, c, q, by show wordsX l ++ _ = _; rw [e]; rfl, h⟩
/-- what stands behind an atom -/
def Fol (rest : List (List Nat × Nat)) : Prop := rest = [] ∨ ∃ p q c s, rest = p :: q ∧ p.1 = c :: s ∧ (c = 38 ∨ c = 124 ∨ c = 41)
theorem fol_ok {rest : List (List Nat × Nat)} (h : Fol rest) {t : List Nat} {n : Nat} (k : ∀ c, c = 38 ∨ c = 124 ∨ c = 41 → fits t c) : 0 < n ∨ rest = [] ∨ ∃ p q c s, rest = p :: q ∧ p.1 = c :: s ∧ tokEnd (t ++ [c]) 0 = t.length := by
  rcases h with h | ⟨p, q, c, s, h1, h2, h3⟩
  · exact .inr (.inl h)
  · exact .inr (.inr ⟨p, q, c, s, h1, h2, k c h3⟩)
theorem okT_gram {cols : List Str} (lo : LowC cols) : ∀ {x}, GlX cols x → ∀ (ps rest : List (List Nat × Nat)), ps.map (·.1) = (wordsX x).map cpl → OkT rest → Fol rest → OkT (ps ++ rest)
  | .ts w s x, ⟨h1, h2, h3⟩, ps, rest, e, ho, hf => by
    obtain ⟨p1, q1, rfl, e1, r1⟩ := List.map_eq_cons_iff.mp e
    obtain ⟨p2, q2, rfl, e2, r2⟩ := List.map_eq_cons_iff.mp r1
    obtain ⟨p3, q3, rfl, e3, r3⟩ := List.map_eq_cons_iff.mp r2
    obtain rfl := List.map_eq_nil_iff.mp r3
    obtain ⟨t1, n1⟩ := p1
    obtain ⟨t2, n2⟩ := p2
    obtain ⟨t3, n3⟩ := p3
    have e1 : t1 = cpl w := e1
    have e2 : t2 = cpl s := e2
    have e3 : t3 = cpl x := e3
    subst e1 e2 e3
    obtain ⟨cs, rs, es, hcs⟩ : ∃ c r, cpl s = c :: r ∧ inRun 97 122 c = false := by
      rcases sign_cases h2 with rfl | rfl | rfl | rfl | rfl | rfl
      · exact ⟨61, _, rfl, by decide⟩
      · exact ⟨33, _, rfl, by decide⟩
      · exact ⟨60, _, rfl, by decide⟩
      · exact ⟨60, _, rfl, by decide⟩
      · exact ⟨62, _, rfl, by decide⟩
      · exact ⟨62, _, rfl, by decide⟩
    obtain ⟨cx, rx, ex, hcx, ax, fx⟩ : ∃ c r, cpl x = c :: r ∧ c ≠ 61 ∧ aloneB (cpl x) = true ∧ ∀ c, c = 38 ∨ c = 124 ∨ c = 41 → fits (cpl x) c := by
      rcases h3 with h3 | ⟨n, rfl, hn⟩
      · obtain ⟨w', ws, c, r, ew, e, h, _⟩ := gl_head lo (x := .ts x "=" x) ⟨h3, by decide, .inl h3⟩
        have ew : wordsX (.ts x "=" x) = w' :: ws := ew
        obtain ⟨rfl, _⟩ := List.cons.inj ew
        exact ⟨c, r, e, h, low_alone (lo.ne x h3) (lo.lo x h3), fun c hc => low_fits (lo.ne x h3) (lo.lo x h3) (by rcases hc with rfl | rfl | rfl <;> decide)⟩
      · obtain ⟨c, r, e, hc⟩ := numC_ne n
        have en : cpl (numS n) = numC n := numS_cps n
        refine ⟨c, r, by rw [en, e], by omega, num_aloneS n, fun c hc => ?_⟩
        show tokEnd (cpl (numS n) ++ [c]) 0 = (cpl (numS n)).length
        rw [en]
        exact num_fits n (by rcases hc with rfl | rfl | rfl <;> decide)
    exact ⟨low_alone (lo.ne w h1) (lo.lo w h1), .inr (.inr ⟨_, _, cs, rs, rfl, es, low_fits (lo.ne w h1) (lo.lo w h1) hcs⟩), (sign_alone h2).1, .inr (.inr ⟨_, _, cx, rx, rfl, ex, sign_fits h2 hcx⟩), ax, fol_ok hf fx, ho⟩
  | .wd w, h, ps, rest, e, ho, hf => by
    obtain ⟨p1, q1, rfl, e1, r1⟩ := List.map_eq_cons_iff.mp e
    obtain rfl := List.map_eq_nil_iff.mp r1
    obtain ⟨t1, n1⟩ := p1
    have e1 : t1 = cpl w := e1
    subst e1
    have q : ∀ w ∈ (["blank", "every", "none"] : List Str), cpl w ≠ [] ∧ ∀ a ∈ cpl w, inRun 97 122 a = true := by decide +kernel
    obtain ⟨h1, h2⟩ := q w h
    exact ⟨low_alone h1 h2, fol_ok hf fun c hc => low_fits h1 h2 (by rcases hc with rfl | rfl | rfl <;> decide), ho⟩
  | .neg t, h, ps, rest, e, ho, hf => by
    obtain ⟨p1, q1, rfl, e1, r1⟩ := List.map_eq_cons_iff.mp e
    obtain ⟨t1, n1⟩ := p1
    have e1 : t1 = cpl "~" := e1
    subst e1
    have ih := okT_gram lo (x := t) h q1 rest r1 ho hf
    obtain ⟨w, ws, c, r, ew, ec, hc, _⟩ := gl_head lo (x := t) h
    rw [ew] at r1
    obtain ⟨p2, q2, rfl, e2, r2⟩ := List.map_eq_cons_iff.mp r1
    exact ⟨(one_fits (s := "~") (by decide) hc).2, .inr (.inr ⟨_, _, c, r, rfl, by rw [e2, ec], (one_fits (s := "~") (by decide) hc).1⟩), ih⟩
  | .par t, h, ps, rest, e, ho, hf => by
    obtain ⟨p1, q1, rfl, e1, r1⟩ := List.map_eq_cons_iff.mp e
    obtain ⟨t1, n1⟩ := p1
    have e1 : t1 = cpl "(" := e1
    subst e1
    rw [List.map_append] at r1
    obtain ⟨q2, q3, rfl, r2, r3⟩ := List.map_eq_append_iff.mp r1
    obtain ⟨p4, q4, rfl, e4, r4⟩ := List.map_eq_cons_iff.mp r3
    obtain rfl := List.map_eq_nil_iff.mp r4
    obtain ⟨t4, n4⟩ := p4
    have e4 : t4 = cpl ")" := e4
    subst e4
    have o4 : OkT ((cpl ")", n4) :: rest) := ⟨(one_fits (s := ")") (c := 0) (by decide) (by decide)).2, fol_ok hf fun c hc => (one_fits (s := ")") (by decide) (by omega)).1, ho⟩
    have ih := okT_gram lo (x := t) h q2 _ r2 o4 (.inr ⟨_, _, 41, [], rfl, rfl, .inr (.inr rfl)⟩)
    obtain ⟨w, ws, c, r, ew, ec, hc, _⟩ := gl_head lo (x := t) h
    rw [ew] at r2
    obtain ⟨p2, q5, rfl, e2, r5⟩ := List.map_eq_cons_iff.mp r2
    show OkT ((cpl "(", n1) :: (p2 :: q5 ++ [(cpl ")", n4)] ++ rest))
    rw [List.append_assoc]
    exact ⟨(one_fits (s := "(") (by decide) hc).2, .inr (.inr ⟨_, _, c, r, rfl, by rw [e2, ec], (one_fits (s := "(") (by decide) hc).1⟩), ih⟩
  | .bin s l r, ⟨hs, hl, hr⟩, ps, rest, e, ho, hf => by
    have e : ps.map (·.1) = (wordsX l ++ s :: wordsX r).map cpl := e
    rw [List.map_append] at e
    obtain ⟨q2, q3, rfl, r2, r3⟩ := List.map_eq_append_iff.mp e
    obtain ⟨p4, q4, rfl, e4, r4⟩ := List.map_eq_cons_iff.mp r3
    obtain ⟨t4, n4⟩ := p4
    have e4 : t4 = cpl s := e4
    subst e4
    have ir := okT_gram lo hr q4 rest r4 ho hf
    obtain ⟨w, ws, c, r, ew, ec, hc, _⟩ := gl_head lo hr
    rw [ew] at r4
    obtain ⟨p2, q5, rfl, e2, r5⟩ := List.map_eq_cons_iff.mp r4
    have h5 : s ∈ (["(", ")", "~", "&", "|"] : List Str) := by rcases hs with rfl | rfl <;> decide
    have os : OkT ((cpl s, n4) :: (p2 :: q5 ++ rest)) := ⟨(one_fits h5 hc).2, .inr (.inr ⟨_, _, c, r, rfl, by rw [e2, ec], (one_fits h5 hc).1⟩), ir⟩
    rw [List.append_assoc]
    refine okT_gram lo hl q2 _ r2 os (.inr ?_)
    rcases hs with rfl | rfl
    · exact ⟨_, _, 38, [], rfl, rfl, .inl rfl⟩
    · exact ⟨_, _, 124, [], rfl, rfl, .inr (.inl rfl)⟩
/-- words, with blanks before, between and behind -/
def Gl (ws : List Str) (z : Str) : Prop := ∃ n ps, ps.map (·.1) = ws.map cpl ∧ z.cps.toList = List.replicate n 32 ++ flatT ps
theorem gl_words {cols : List Str} (lo : LowC cols) {x : Tx} (h : GlX cols x) {z : Str} (g : Gl (wordsX x) z) : cwords z.cps.toList = wordsX x := by
  obtain ⟨n, ps, e, hz⟩ := g
  have o := okT_gram lo h ps [] e trivial (.inl rfl)
  rw [List.append_nil] at o
  rw [hz, cwords_flat o]
  have e2 := congrArg (List.map fun l : List Nat => (⟨l.toArray⟩ : Str)) e
  rw [List.map_map, List.map_map] at e2
  refine Eq.trans e2 ?_
  have : ((fun l : List Nat => (⟨l.toArray⟩ : Str)) ∘ cpl) = id := by
    funext w
    rfl
  rw [this, List.map_id]
theorem flatT_snoc : ∀ (ps : List (List Nat × Nat)) (t : List Nat) (n : Nat), flatT (ps ++ [(t, n)]) = flatT ps ++ (t ++ List.replicate n 32)
  | [], t, n => by simp [flatT]
  | (u, m) :: ps, t, n => by
    show u ++ (List.replicate m 32 ++ flatT (ps ++ [(t, n)])) = u ++ (List.replicate m 32 ++ flatT ps) ++ _
    rw [flatT_snoc ps t n]
    simp only [List.append_assoc]
theorem Gl.zero (n : Nat) : Gl [] ⟨(List.replicate n 32).toArray⟩ := ⟨n, [], rfl, by simp [flatT]⟩
theorem Gl.snoc {ws : List Str} {z w : Str} (h : Gl ws z) (n : Nat) : Gl (ws ++ [w]) (z ++ w ++ ⟨(List.replicate n 32).toArray⟩) := by
  obtain ⟨m, ps, e, hz⟩ := h
  refine ⟨m, ps ++ [(cpl w, n)], by rw [List.map_append, List.map_append, e]; rfl, ?_⟩
  rw [app_cps3, hz, flatT_snoc]
  simp only [List.append_assoc]
/-! ### pieces: what a law writes for a tree -/
def knd : LT → Str
  | .wd w => w
  | .tc _ _ _ => "test"
  | .tn _ _ _ => "test"
  | .neg _ => "~"
  | .bin s _ _ => s
structure Pre (cols : List Str) (t : LT) (x : Tx) : Prop where
  wf : WfX cols x
  gl : GlX cols x
  l3 : knd t ≠ "&" → knd t ≠ "|" → lvX x = 3
  l2 : knd t = "&" → lvX x = 2
  va : ∀ r, ov r (treeX cols x) = lval r t
  ln : (wordsX x).length + 5 ≤ 8 * 2 ^ dpt t
structure PcOk (cols : List Str) (outer : Str) (t : LT) (x : Tx) : Prop where
  wf : WfX cols x
  gl : GlX cols x
  l3 : outer = "~" → lvX x = 3
  l2 : outer = "&" → 2 ≤ lvX x
  va : ∀ r, ov r (treeX cols x) = lval r t
  ln : (wordsX x).length + 3 ≤ 8 * 2 ^ dpt t
theorem pre_wd (cols : List Str) {w : Str} (h : w = "blank" ∨ w = "every" ∨ w = "none") : Pre cols (.wd w) (.wd w) := by
  refine ⟨(word_text h cols).2.2.1, by rcases h with rfl | rfl | rfl <;> simp [GlX], fun _ _ => rfl, fun e => ?_, (word_text h cols).2.2.2.1, by show 1 + 5 ≤ 8 * 2 ^ 0; decide⟩
  have e : w = "&" := e
  rcases h with rfl | rfl | rfl <;> exact absurd e (by decide)
theorem idx_at {cols : List Str} (nd : cols.Nodup) {i : Nat} {c : Str} (h : cols[i]? = some c) : cols.idxOf c = i := by
  obtain ⟨h1, h2⟩ := List.getElem?_eq_some_iff.mp h
  rw [← h2]
  exact nd.idxOf_getElem i h1
theorem pre_tn {cols : List Str} (hc : ColOk cols) {l : Nat} {c s : Str} (hl : cols[l]? = some c) (hs : s ∈ signL) {n : Int} (hn : Num30 n) : Pre cols (.tn l s n) (.ts c s (numS n)) := by
  have hm := List.mem_of_getElem? hl
  refine ⟨wf_num hm hs hn, ⟨hm, hs, .inr ⟨n, rfl, hn⟩⟩, fun _ _ => rfl, fun e => absurd (show ("test" : Str) = "&" from e) (by decide), fun r => ?_, by show 3 + 5 ≤ 8 * 2 ^ 0; decide⟩
  show ov r (some (Tr.lf (.ts (tstOf cols c s (numS n))))) = _
  rw [tst_num hc hn, idx_at hc.nd hl]
  rfl
theorem pre_tc {cols : List Str} (hc : ColOk cols) {l x : Nat} {c s d : Str} (hl : cols[l]? = some c) (hs : s = "=" ∨ s = "!=") (hx : cols[x]? = some d) : Pre cols (.tc l s x) (.ts c s d) := by
  have hm := List.mem_of_getElem? hl
  have hd := List.mem_of_getElem? hx
  have h2 : s ∈ (["=", "!="] : List Str) := by rcases hs with rfl | rfl <;> decide
  refine ⟨⟨hm, .inl ⟨h2, .inl hd⟩⟩, ⟨hm, by rcases hs with rfl | rfl <;> decide, .inl hd⟩, fun _ _ => rfl, fun e => absurd (show ("test" : Str) = "&" from e) (by decide), fun r => ?_, by show 3 + 5 ≤ 8 * 2 ^ 0; decide⟩
  show ov r (some (Tr.lf (.ts (tstOf cols c s d)))) = _
  rw [tst_col hd, idx_at hc.nd hl, idx_at hc.nd hx]
  rfl
theorem pre_neg {cols : List Str} {t : LT} {x : Tx} (h : PcOk cols "~" t x) : Pre cols (.neg t) (.neg x) := by
  refine ⟨⟨h.wf, h.l3 rfl⟩, h.gl, fun _ _ => rfl, fun e => absurd (show ("~" : Str) = "&" from e) (by decide), fun r => ?_, ?_⟩
  · show ov r (tNeg (treeX cols x)) = _
    rw [ov_neg, h.va]
    rfl
  · have := h.ln
    show (wordsX x).length + 1 + 5 ≤ 8 * 2 ^ (dpt t + 1)
    rw [Nat.pow_succ]
    omega
theorem pre_bin {cols : List Str} {s : Str} (hs : s = "&" ∨ s = "|") {a b : LT} {x y : Tx} (h : PcOk cols s a x) (g : PcOk cols s b y) : Pre cols (.bin s a b) (joinX s x y) := by
  have lv : ∀ {u : LT} {q : Tx}, PcOk cols s u q → rank s ≤ lvX q := fun {u q} k => by
    rcases hs with rfl | rfl
    · rw [rank_and]; exact k.l2 rfl
    · rw [rank_or]; exact (lv_pos k.wf).1
  refine ⟨joinX_wf hs h.wf (lv h) g.wf (lv g), joinX_gl hs h.gl g.gl, fun e1 e2 => ?_, fun e => ?_, fun r => ?_, ?_⟩
  · exact absurd hs (fun q => q.elim e1 e2)
  · rw [joinX_lv, show s = "&" from e, rank_and]
  · rw [joinX_val, h.va, g.va]
    rfl
  · have h1 := h.ln
    have h2 := g.ln
    have m1 : 2 ^ dpt a ≤ 2 ^ max (dpt a) (dpt b) := Nat.pow_le_pow_right (by decide) (Nat.le_max_left ..)
    have m2 : 2 ^ dpt b ≤ 2 ^ max (dpt a) (dpt b) := Nat.pow_le_pow_right (by decide) (Nat.le_max_right ..)
    rw [joinX_words, List.length_append, List.length_cons]
    show _ ≤ 8 * 2 ^ (max (dpt a) (dpt b) + 1)
    rw [Nat.pow_succ]
    omega
/-- is_loose -/
def loose (k o : Str) : Bool := (decide (k = "|") && (decide (o = "&") || decide (o = "~"))) || (decide (k = "&") && decide (o = "~"))
theorem pc_out {cols : List Str} {o : Str} {t : LT} {x : Tx} (h : Pre cols t x) (l : loose (knd t) o = false) : PcOk cols o t x := by
  have n1 : knd t = "|" → o ≠ "&" ∧ o ≠ "~" := fun e => by
    unfold loose at l
    rw [e] at l
    simp at l
    exact l.1
  have n2 : knd t = "&" → o ≠ "~" := fun e q => by
    unfold loose at l
    rw [e, q] at l
    exact absurd l (by decide)
  refine ⟨h.wf, h.gl, fun e => ?_, fun e => ?_, h.va, by have := h.ln; omega⟩
  · exact h.l3 (fun q => n2 q e) (fun q => (n1 q).2 e)
  · by_cases q : knd t = "&"
    · rw [h.l2 q]; exact Nat.le_refl _
    · rw [h.l3 q (fun z => (n1 z).1 e)]; decide
theorem pc_par {cols : List Str} (o : Str) {t : LT} {x : Tx} (h : Pre cols t x) : PcOk cols o t (.par x) := by
  refine ⟨h.wf, h.gl, fun _ => rfl, fun _ => (by show 2 ≤ 3; decide), h.va, ?_⟩
  have := h.ln
  show ((wordsX x ++ [_]).length + 1) + 3 ≤ _
  rw [List.length_append, List.length_singleton]
  omega
end Own

namespace K07
open PySem PySem.Spec PyProof.Rows L2 Own
def spLTree : Nat → Sp
  | 0 => fun _ _ _ _ => False
  | n + 1 => fun vs H Q _ => ∃ (b nl : Addr) (z : Int) (m : Nat) (ns : List Int), vs = [.ref b, .int z, .int (m : Nat), .ref nl] ∧ z = (n : Nat) ∧ Bag H b ∧ nl ≠ b ∧ H nl = some (.lst (ns.map V.int)) ∧ ns ≠ [] ∧ ns.length ≤ 1000 ∧ (∀ k ∈ ns, Num30 k) ∧ 1 ≤ m ∧ m ≤ 3 ∧
    ∀ (v : V) (t : LT) (H' : Hp), LtOk m t → dpt t ≤ n → But b H H' → Bag H' b → LtAt H' t v → Q v H'
def spText : Sp := fun vs H Q _ => ∃ (b l : Addr) (ws : List Str), vs = [.ref b, .ref l] ∧ Bag H b ∧ l ≠ b ∧ H l = some (.lst (ws.map V.str)) ∧ ws.length ≤ 1000 ∧ (∀ w ∈ ws, w.length ≤ 31) ∧
  ∀ (z : Str) (H' : Hp), Gl ws z → z.length ≤ 2 + 33 * ws.length → But b H H' → Bag H' b → Q (.str z) H'
def spLHolds : Sp := fun vs H Q _ => ∃ (i j : Int) (s : Str), vs = [.int i, .str s, .int j] ∧ s ∈ signL ∧ ∀ H', Same H H' → Q (.bl (cmpB s i j)) H'
def dueK (i j : Int) : List (Key × V) := [(.inr "=", .bl (decide (V.int i = V.int j))), (.inr "!=", .bl (!decide (V.int i = V.int j))), (.inr "<", .bl (decide (i < j))), (.inr "<=", .bl (decide (i ≤ j))), (.inr ">", .bl (decide (j < i)))]
def spRow7 : Sp := fun vs H Q _ => ∃ (b nl : Addr) (m : Nat) (ns : List Int), vs = [.ref b, .int (m : Nat), .ref nl] ∧ Bag H b ∧ nl ≠ b ∧ H nl = some (.lst (ns.map V.int)) ∧ ns ≠ [] ∧ ns.length ≤ 1000 ∧ 1 ≤ m ∧ m ≤ 3 ∧
  ∀ (t : Addr) (r : List Int) (H' : Hp), r.length = m → But b H H' → Bag H' b → H' t = some (.tup (r.map V.int)) → Q (.ref t) H'
section
variable {P : Program} {w : World} {K : PySem.W.Frag} {mg : Str → Option Value} {base : Heap} {f C : Addr} {fd : FuncData}
theorem sc_law_tree : FnScope ["bag", "depth", "many", "numbers", "left", "sign", "kind", "one"] ["bag", "depth", "many", "numbers"] (defScope s_law_tree) := ⟨rfl, rfl, rfl, by decide +kernel, rfl, by decide +kernel, by decide +kernel⟩
theorem ok_tree {ft fo fs : Addr} {fdt fdo fds : FuncData} (n : Nat) (F : FnP K "_law_tree" s_law_tree f fd) (T : Free mg) (c_law_take : Cal P w K mg base CX0 1 "_law_take" ft fdt ["bag", "many"] spTake) (c_law_of : Cal P w K mg base CX0 2 "_law_of" fo fdo ["bag", "some"] (spOf K)) (c_law_tree : Cal P w K mg base CX0 (n + 2) "_law_tree" fs fds ["bag", "depth", "many", "numbers"] (spLTree n)) : FnOk P w K mg base CX0 (n + 3) f fd ["bag", "depth", "many", "numbers"] (spLTree (n + 1)) := by
  refine F.ok sc_law_tree (fun vs H Q E h => ?_) (fun cdv A outer s H vs Q E hrd h => ?_)
  · obtain ⟨b, nl, z, m, ns, rfl, _⟩ := h
    rfl
  · obtain ⟨b, nl, z, m, ns, rfl, hz, hb, nlb, hnl, hne, hnn, hn30, h1, h3, k⟩ := h
    have hr := hrd.mono (show 2 ≤ n + 2 by omega)
    refine ⟨_, PSs.nox (pss_cons (ps_if (PW.pt (pw_or (pt_cmpR op_eq (pv 1) pe_int (nomark _)) (pw_or1 (pt_cmpR op_eq (pe_cal c_law_take (hr.mono (by decide)) (pa_cons (pv 0) (pa_cons pe_int pa_nil))) pe_int (nomark _)))))
 (pss_cut (t' := fun D σ G => σ = [some (.ref b), some (.int z), some (.int (m : Nat)), some (.ref nl), none, none, none, none] ∧ But b H G ∧ Bag G b ∧ D.rt = Q) (pss_cons (ps_if (pt_cmpR op_eq (pe_cal c_law_take (hr.mono (by decide)) (pa_cons (pv 0) (pa_cons pe_int pa_nil))) pe_int (nomark _))
 (pss_one (ps_ret (pe_tup (pa_cons (pe_cal c_law_of (hr.mono (by decide)) (pa_cons (pv 0) (pa_cons (pe_lst (pa_cons pe_str (pa_cons pe_str (pa_cons pe_str pa_nil)))) pa_nil))) pa_nil))))
 pss_nil)
 (pss_cons (ps_set (i := 4) sc_law_tree.nd rfl (Or.inl rfl) (pe_cal c_law_take (hr.mono (by decide)) (pa_cons (pv 0) (pa_cons (pv 2) pa_nil))))
 (pss_cons (ps_if (pt_cmpR op_eq (pe_cal c_law_take (hr.mono (by decide)) (pa_cons (pv 0) (pa_cons pe_int pa_nil))) pe_int (nomark _))
 (pss_one (ps_ret (pe_tup (pa_cons pe_str (pa_cons (pv 4) (pa_cons (pe_cal c_law_of (hr.mono (by decide)) (pa_cons (pv 0) (pa_cons (pe_lst (pa_cons pe_str (pa_cons pe_str pa_nil))) pa_nil))) (pa_cons pe_str (pa_cons (pe_cal c_law_take (hr.mono (by decide)) (pa_cons (pv 0) (pa_cons (pv 2) pa_nil))) pa_nil))))))))
 pss_nil)
 (pss_cons (ps_set (i := 5) sc_law_tree.nd rfl (Or.inl rfl) (pe_cal c_law_of (hr.mono (by decide)) (pa_cons (pv 0) (pa_cons (pe_lst (pa_cons pe_str (pa_cons pe_str (pa_cons pe_str (pa_cons pe_str (pa_cons pe_str (pa_cons pe_str pa_nil))))))) pa_nil))))
 (pss_one (ps_ret (pe_tup (pa_cons pe_str (pa_cons (pv 4) (pa_cons (pv 5) (pa_cons pe_str (pa_cons (pe_cal c_law_of (hr.mono (by decide)) (pa_cons (pv 0) (pa_cons (pv 3) pa_nil))) pa_nil)))))))))))) ?c1)
 pss_nil)
 (pss_cons (ps_set (i := 6) sc_law_tree.nd rfl (Or.inl rfl) (pe_cal c_law_of (hr.mono (by decide)) (pa_cons (pv 0) (pa_cons (pe_lst (pa_cons pe_str (pa_cons pe_str (pa_cons pe_str (pa_cons pe_str (pa_cons pe_str pa_nil)))))) pa_nil))))
 (pss_cons (ps_set (i := 7) sc_law_tree.nd rfl (Or.inl rfl) (pe_cal c_law_tree (hrd.mono (Nat.le_refl _)) (pa_cons (pv 0) (pa_cons (pe_op op_sub (pv 1) pe_int) (pa_cons (pv 2) (pa_cons (pv 3) pa_nil))))))
 (pss_cons (ps_if (pt_cmpR op_eq (pv 6) pe_str (nomark _))
 (pss_one (ps_ret (pe_tup (pa_cons (pv 6) (pa_cons (pv 7) pa_nil)))))
 pss_nil)
 (pss_one (ps_ret (pe_tup (pa_cons (pv 6) (pa_cons (pv 7) (pa_cons (pe_cal c_law_tree (hrd.mono (Nat.le_refl _)) (pa_cons (pv 0) (pa_cons (pe_op op_sub (pv 1) pe_int) (pa_cons (pv 2) (pa_cons (pv 3) pa_nil))))) pa_nil)))))))))), ?_⟩
    case c1 =>
      rintro D σ G ⟨rfl, B0, hb0, hD⟩
      subst hD
      refine ⟨_, rfl, b, _, rfl, hb0, by decide, by decide, fun d H1 d0 d1 B1 hb1 => ?_⟩
      have B1 := B0.trans B1
      refine ⟨rfl, _, rfl, ite2 (fun _ => ?_) (fun _ => ?_)⟩
      · refine ⟨_, rfl, (by show 3 ≤ sizeLine; decide), fun p np => of_texts (E := E0) ["blank", "every", "none"] hb1 np (by decide) (by decide) fun wd H2 hw B2 hb2 => ?_⟩
        refine ⟨(by show 1 ≤ sizeLine; decide), fun t nt => ?_⟩
        have s3 := same_newH (o := .tup [V.str wd]) nt
        exact k (.ref t) (.wd wd) _ (by simpa [LtOk] using hw) (Nat.zero_le _) (B1.trans (B2.trans (But.same s3))) (hb2.same s3) ⟨t, rfl, upd_same⟩
      refine ⟨_, rfl, _, rfl, b, _, rfl, hb1, by omega, by omega, fun l H2 l0 l1 B2 hb2 => ?_⟩
      have B2 := B1.trans B2
      obtain ⟨l, rfl⟩ := Int.eq_ofNat_of_zero_le l0
      have l1 : l < m := by omega
      refine ⟨_, rfl, b, _, rfl, hb2, by decide, by decide, fun d H3 _ _ B3 hb3 => ?_⟩
      have B3 := B2.trans B3
      refine ⟨rfl, _, rfl, ite2 (fun _ => ?_) (fun _ => ?_)⟩
      · refine ⟨_, rfl, _, rfl, (by show 2 ≤ sizeLine; decide), fun p np => of_texts (E := E0) ["=", "!="] hb3 np (by decide) (by decide) fun sg H4 hs B4 hb4 => ?_⟩
        refine ⟨_, rfl, _, rfl, b, _, rfl, hb4, by omega, by omega, fun x H5 x0 x1 B5 hb5 => ?_⟩
        obtain ⟨x, rfl⟩ := Int.eq_ofNat_of_zero_le x0
        refine ⟨(by show 5 ≤ sizeLine; decide), fun t nt => ?_⟩
        have s6 := same_newH (o := .tup [V.str "test", V.int (l : Nat), V.str sg, V.str "column", V.int (x : Nat)]) nt
        exact k (.ref t) (.tc l sg x) _ ⟨l1, by simpa using hs, by omega⟩ (Nat.zero_le _) ((B3.trans B4).trans (B5.trans (But.same s6))) (hb5.same s6) ⟨t, rfl, upd_same⟩
      refine ⟨_, rfl, (by show 6 ≤ sizeLine; decide), fun p np => of_texts (E := E0) signL hb3 np (by decide) (by decide) fun sg H4 hs B4 hb4 => ?_⟩
      have B4 := B3.trans B4
      refine ⟨_, rfl, _, rfl, _, rfl, _, rfl, of_ints (E := E0) hb4 nlb (B4 _ _ nlb hnl) hne hnn fun x H5 hx B5 hb5 => ?_⟩
      refine ⟨(by show 5 ≤ sizeLine; decide), fun t nt => ?_⟩
      have s6 := same_newH (o := .tup [V.str "test", V.int (l : Nat), V.str sg, V.str "number", V.int x]) nt
      exact k (.ref t) (.tn l sg x) _ ⟨l1, hs, hn30 x hx⟩ (Nat.zero_le _) (B4.trans (B5.trans (But.same s6))) (hb5.same s6) ⟨t, rfl, upd_same⟩
    refine ⟨_, rfl, rfl, _, rfl, ite2 (fun _ => ?_) (fun h0 => ?_)⟩
    · exact ⟨rfl, But.refl, hb, rfl⟩
    have hz0 : z ≠ 0 := fun e => h0 (by rw [e]; rfl)
    refine ⟨_, rfl, b, _, rfl, hb, by decide, by decide, fun d H1 d0 d1 B1 hb1 => ?_⟩
    refine ⟨rfl, _, rfl, ite2 (fun _ => ?_) (fun _ => ?_)⟩
    · exact ⟨rfl, B1, hb1, rfl⟩
    refine ⟨_, rfl, (by show 5 ≤ sizeLine; decide), fun p np => of_texts (E := E0) ["~", "&", "&", "|", "|"] hb1 np (by decide) (by decide) fun kd H2 hk B2 hb2 => ?_⟩
    have B2 := B1.trans B2
    obtain ⟨n, rfl⟩ : ∃ q, n = q + 1 := ⟨n - 1, by omega⟩
    have again : ∀ (G : Hp) (Q' : VK), But b H G → Bag G b → (∀ (v : V) (t : LT) (H' : Hp), LtOk m t → dpt t ≤ n → But b G H' → Bag H' b → LtAt H' t v → Q' v H') → spLTree (n + 1) [.ref b, .int (z - 1), .int (m : Nat), .ref nl] G Q' E0 := fun G Q' B hb k' => ⟨b, nl, _, m, ns, rfl, by omega, hb, nlb, B _ _ nlb hnl, hne, hnn, hn30, h1, h3, k'⟩
    have hk : kd = "~" ∨ kd = "&" ∨ kd = "|" := by
      have : kd = "~" ∨ kd = "&" ∨ kd = "&" ∨ kd = "|" ∨ kd = "|" := by simpa using hk
      rcases this with h | h | h | h | h <;> simp [h]
    refine ⟨_, rfl, _, rfl, _, _, rfl, rfl, _, rfl, _, rfl, again _ _ B2 hb2 fun v1 t1 H3 ok1 dp1 B3 hb3 at1 => ?_⟩
    have B3 := B2.trans B3
    refine ⟨_, rfl, rfl, _, rfl, ite2 (fun h => ?_) (fun h => ?_)⟩
    · have e : kd = "~" := by simpa using h
      subst e
      refine ⟨_, rfl, _, rfl, (by show 2 ≤ sizeLine; decide), fun t nt => ?_⟩
      have s6 := same_newH (o := .tup [V.str "~", v1]) nt
      exact k (.ref t) (.neg t1) _ ok1 (Nat.succ_le_succ dp1) (B3.trans (But.same s6)) (hb3.same s6) ⟨t, v1, rfl, upd_same, at1.lsts (.same s6)⟩
    have hk : kd = "&" ∨ kd = "|" := hk.resolve_left fun e => h (by rw [e]; decide)
    refine ⟨_, rfl, _, rfl, _, rfl, _, rfl, _, _, rfl, rfl, _, rfl, _, rfl, again _ _ B3 hb3 fun v2 t2 H4 ok2 dp2 B4 hb4 at2 => ?_⟩
    refine ⟨(by show 3 ≤ sizeLine; decide), fun t nt => ?_⟩
    have s6 := same_newH (o := .tup [V.str kd, v1, v2]) nt
    exact k (.ref t) (.bin kd t1 t2) _ ⟨hk, ok1, ok2⟩ (Nat.succ_le_succ (Nat.max_le.mpr ⟨dp1, dp2⟩)) (B3.trans (B4.trans (But.same s6))) (hb4.same s6) ⟨t, v1, v2, rfl, upd_same, at1.lsts ((Lsts.but hb3 B4).trans (.same s6)), at2.lsts (.same s6)⟩
theorem sc_law_text : FnScope ["bag", "pieces", "text", "piece"] ["bag", "pieces"] (defScope s_law_text) := ⟨rfl, rfl, rfl, by decide +kernel, rfl, by decide +kernel, by decide +kernel⟩
theorem ok_text7 {ft : Addr} {fdt : FuncData} (F : FnP K "_law_text" s_law_text f fd) (T : Free mg) (c_law_take : Cal P w K mg base CX0 1 "_law_take" ft fdt ["bag", "many"] spTake) : FnOk P w K mg base CX0 2 f fd ["bag", "pieces"] spText := by
  refine F.ok sc_law_text (fun vs H Q E h => ?_) (fun cdv A outer s H vs Q E hr h => ⟨_, PSs.nox (pss_cons (ps_set (i := 2) sc_law_text.nd rfl (Or.inl rfl) (pe_op op_mulS pe_str (pe_cal c_law_take (hr.mono (by decide)) (pa_cons (pv 0) (pa_cons pe_int pa_nil)))))
 (pss_cons (ps_for PassesOwn.never rfl (pi_list (pv 1)) (pg_name (i := 3) sc_law_text.nd rfl (Or.inl rfl))
 (pss_one (ps_set (i := 2) sc_law_text.nd rfl (Or.inl rfl) (pe_op op_add_str (pe_op op_add_str (pv 2) (pv 3)) (pe_op op_mulS pe_str (pe_cal c_law_take (hr.mono (by decide)) (pa_cons (pv 0) (pa_cons pe_int pa_nil))))))))
 (pss_one (ps_ret (pv 2))))), ?_⟩)
  · obtain ⟨b, l, ws, rfl, _⟩ := h
    rfl
  · obtain ⟨b, l, ws, rfl, hb, lb, hl, hn, hw, k⟩ := h
    refine ⟨_, rfl, b, _, rfl, hb, by decide, by decide, fun d H1 d0 d1 B1 hb1 => ?_⟩
    obtain ⟨d, rfl⟩ := Int.eq_ofNat_of_zero_le d0
    refine ⟨32, d, rfl, rfl, by have : (d : Int) < 3 := d1; omega, ?_⟩
    refine ⟨_, rfl, l, rfl, ⟨_, SqL.of (B1 _ _ lb hl)⟩, ?_⟩
    refine for_list (xs := ws.map V.str) (fun i σ H' => ∃ (z : Str) (t3 : Option V), σ = [some (.ref b), some (.ref l), some (.str z), t3] ∧ Gl (ws.take i) z ∧ z.length ≤ 2 + 33 * i ∧ But b H H' ∧ Bag H' b) ⟨_, _, rfl, Gl.zero d, ?_, B1, hb1⟩ (fun i σ H' _ ⟨_, _, _, _, _, B, _⟩ => SqL.of (B _ _ lb hl)) ?_ ?_
    · show (List.replicate d 32).toArray.size ≤ _
      rw [List.size_toArray, List.length_replicate]
      omega
    · rintro i x σ G hi ⟨z, t3, rfl, g, hz, B, hbG⟩
      rw [List.getElem?_map] at hi
      obtain ⟨u, hu, rfl⟩ := Option.map_eq_some_iff.mp hi
      have hul := hw u (List.mem_of_getElem? hu)
      refine ⟨_, rfl, _, rfl, _, _, rfl, rfl, by unfold sizeLine; have hi2 : i < ws.length := (List.getElem?_eq_some_iff.mp hu).1; omega, ?_⟩
      refine ⟨_, rfl, b, _, rfl, hbG, by decide, by decide, fun d H2 d0 d1 B2 hb2 => ?_⟩
      obtain ⟨d, rfl⟩ := Int.eq_ofNat_of_zero_le d0
      have d1 : (d : Int) < 3 := d1
      have hrep : (⟨(List.replicate d 32).toArray⟩ : Str).length = d := by
        show (List.replicate d 32).toArray.size = d
        rw [List.size_toArray, List.length_replicate]
      refine ⟨32, d, rfl, rfl, by omega, _, _, rfl, rfl, by rw [Str.length_append, hrep]; unfold sizeLine; have hi2 : i < ws.length := (List.getElem?_eq_some_iff.mp hu).1; omega, ?_⟩
      refine ⟨_, _, rfl, ?_, by rw [Str.length_append, Str.length_append, hrep]; omega, B.trans B2, hb2⟩
      rw [take_snoc hu]
      exact g.snoc d
    · rintro σ G ⟨z, t3, rfl, g, hz, B, hbG⟩
      rw [List.length_map] at *
      rw [List.take_length] at g
      exact ⟨_, rfl, k _ _ g hz B hbG⟩
theorem sc_law_holds : FnScope ["one", "sign", "other", "due"] ["one", "sign", "other"] (defScope s_law_holds) := ⟨rfl, rfl, rfl, by decide +kernel, rfl, by decide +kernel, by decide +kernel⟩
theorem ok_holds7 (F : FnP K "_law_holds" s_law_holds f fd) (T : Free mg) : FnOk P w K mg base CX0 1 f fd ["one", "sign", "other"] spLHolds := by
  refine F.ok sc_law_holds (fun vs H Q E h => ?_) (fun cdv A outer s H vs Q E hr h => ⟨_, PSs.nox (pss_cons (ps_set (i := 3) sc_law_holds.nd rfl (Or.inl rfl) (pe_disp (pps_cons pe_str (pe_cmpR op_eq (pv 0) (pv 2) (nomark _)) (pps_cons pe_str (pe_cmpR op_ne (pv 0) (pv 2) (nomark _)) (pps_cons pe_str (pe_cmpR op_lt (pv 0) (pv 2) (nomark _)) (pps_cons pe_str (pe_cmpR op_le (pv 0) (pv 2) (nomark _)) (pps_cons pe_str (pe_cmpR op_gt (pv 0) (pv 2) (nomark _)) pps_nil))))) rfl rfl (List.cons_ne_nil _ _) (by decide)))
 (pss_one (ps_ret (pe_ifExp (pt_cmp (pc_din (hu1_of hr) (pv 1) (pv 3))) (pe_dget (hu1_of hr) (pv 3) (pv 1) (fun _ _ => rfl)) (pe_cmpR op_ge (pv 0) (pv 2) (nomark _)))))), ?_⟩)
  · obtain ⟨i, j, sg, rfl, _⟩ := h
    rfl
  · obtain ⟨i, j, sg, rfl, hs, k⟩ := h
    intro D nD
    have s1 := same_newH (o := .dK []) nD
    have hD1 : upd H D (.dK []) D = some (.dK []) := upd_same
    generalize upd H D (.dK []) = H1 at *
    refine ⟨_, rfl, _, rfl, rfl, _, rfl, _, rfl, rfl, _, rfl, _, rfl, _, _, rfl, rfl, _, rfl, _, rfl, _, _, rfl, rfl, _, rfl, _, rfl, _, _, rfl, rfl, hD1, dueK i j, rfl, (by show 5 ≤ 15; decide), ?_⟩
    have s2 : Same H (upd H1 D (.dK (mergeK [] (dueK i j)))) := put_same s1 nD
    have hD2 : upd H1 D (.dK (mergeK [] (dueK i j))) D = some (.dK (mergeK [] (dueK i j))) := upd_same
    have k := k _ s2
    generalize upd H1 D (.dK (mergeK [] (dueK i j))) = H2 at *
    have e0 : decide (V.int i = V.int j) = decide (i = j) := decide_eq_decide.mpr ⟨fun e => V.int.inj e, fun e => by rw [e]⟩
    rcases sign_cases hs with rfl | rfl | rfl | rfl | rfl | rfl
    · refine ⟨_, rfl, _, rfl, D, _, rfl, .inl ⟨_, .inr _, .inl hD2, rfl, rfl⟩, _, rfl, ite_t rfl ⟨_, rfl, _, rfl, D, _, rfl, .inl ⟨_, .inr _, .inl hD2, rfl, rfl⟩, ?_⟩⟩
      show Q (V.bl (decide (V.int i = V.int j))) H2
      rw [e0]
      exact k
    · refine ⟨_, rfl, _, rfl, D, _, rfl, .inl ⟨_, .inr _, .inl hD2, rfl, rfl⟩, _, rfl, ite_t rfl ⟨_, rfl, _, rfl, D, _, rfl, .inl ⟨_, .inr _, .inl hD2, rfl, rfl⟩, ?_⟩⟩
      show Q (V.bl (!decide (V.int i = V.int j))) H2
      rw [e0]
      exact k
    · exact ⟨_, rfl, _, rfl, D, _, rfl, .inl ⟨_, .inr _, .inl hD2, rfl, rfl⟩, _, rfl, ite_t rfl ⟨_, rfl, _, rfl, D, _, rfl, .inl ⟨_, .inr _, .inl hD2, rfl, rfl⟩, k⟩⟩
    · exact ⟨_, rfl, _, rfl, D, _, rfl, .inl ⟨_, .inr _, .inl hD2, rfl, rfl⟩, _, rfl, ite_t rfl ⟨_, rfl, _, rfl, D, _, rfl, .inl ⟨_, .inr _, .inl hD2, rfl, rfl⟩, k⟩⟩
    · exact ⟨_, rfl, _, rfl, D, _, rfl, .inl ⟨_, .inr _, .inl hD2, rfl, rfl⟩, _, rfl, ite_t rfl ⟨_, rfl, _, rfl, D, _, rfl, .inl ⟨_, .inr _, .inl hD2, rfl, rfl⟩, k⟩⟩
    · exact ⟨_, rfl, _, rfl, D, _, rfl, .inl ⟨_, .inr _, .inl hD2, rfl, rfl⟩, _, rfl, ite_f rfl ⟨_, rfl, _, rfl, _, _, rfl, rfl, k⟩⟩
theorem sc_law_row : FnScope ["bag", "many", "numbers", "row", "turn", "way"] ["bag", "many", "numbers"] (defScope s_law_row) := ⟨rfl, rfl, rfl, by decide +kernel, rfl, by decide +kernel, by decide +kernel⟩
theorem ok_row7 {ft fl fo : Addr} {fdt fdl fdo : FuncData} (F : FnP K "_law_row" s_law_row f fd) (T : Free mg) (c_law_take : Cal P w K mg base CX0 1 "_law_take" ft fdt ["bag", "many"] spTake) (c_law_long : Cal P w K mg base CX0 2 "_law_long" fl fdl ["bag", "blocks"] spLongS) (c_law_of : Cal P w K mg base CX0 2 "_law_of" fo fdo ["bag", "some"] (spOf K)) : FnOk P w K mg base CX0 3 f fd ["bag", "many", "numbers"] spRow7 := by
  refine F.ok sc_law_row (fun vs H Q E h => ?_) (fun cdv A outer s H vs Q E hr h => ?_)
  · obtain ⟨b, nl, m, ns, rfl, _⟩ := h
    rfl
  · obtain ⟨b, nl, m, ns, rfl, hb, nlb, hnl, hne, hnn, h1, h3, k⟩ := h
    refine ⟨_, PSs.nox (pss_cons (ps_set (i := 3) sc_law_row.nd rfl (Or.inl rfl) (pe_lst pa_nil))
 (pss_cons (ps_for PassesOwn.never rfl (pi_range1 (by rfl) T.range (pa_cons (pv 1) pa_nil)) (pg_name (i := 4) sc_law_row.nd rfl (Or.inl rfl))
 (pss_cons (ps_set (i := 5) sc_law_row.nd rfl (Or.inl rfl) (pe_cal c_law_take (hr.mono (by decide)) (pa_cons (pv 0) (pa_cons pe_int pa_nil))))
 (pss_one (ps_if (pt_cmpR op_eq (pv 5) pe_int (nomark _))
 (pss_one (ps_expr (pe_bm PySem.F.plainAttrs_list PySem.F.slot_list_append PySem.F.type_list_append mt_append (pv 3) (pa_cons (pe_cal c_law_long (hr.mono (by decide)) (pa_cons (pv 0) (pa_cons pe_int pa_nil))) pa_nil))))
 (pss_one (ps_if (PW.pt (pw_and (pt_cmpR op_eq (pv 5) pe_int (nomark _)) (pw_and1 (pt_cmpR (op_neD (hu_of' hr)) (pv 3) (pe_lst pa_nil) (nomark _)))))
 (pss_one (ps_expr (pe_bm PySem.F.plainAttrs_list PySem.F.slot_list_append PySem.F.type_list_append mt_append (pv 3) (pa_cons (pe_cal c_law_of (hr.mono (by decide)) (pa_cons (pv 0) (pa_cons (pv 3) pa_nil))) pa_nil))))
 (pss_cut (t' := fun D σ G => ∃ (l : Addr) (r : List Int) (t45 : Option V × Option V), σ = [some (.ref b), some (.int (m : Nat)), some (.ref nl), some (.ref l), t45.1, t45.2] ∧ l ≠ b ∧ Bag G b ∧ G nl = some (.lst (ns.map V.int)) ∧ G l = some (.lst (r.map V.int)) ∧ r.length ≤ 3 ∧ ∀ (x : Int) (G' : Hp), But b G G' → Bag G' b → D.nx σ (upd G' l (.lst (r.map V.int ++ [V.int x])))) (pss_one (ps_expr (pe_bm PySem.F.plainAttrs_list PySem.F.slot_list_append PySem.F.type_list_append mt_append (pv 3) (pa_cons (pe_op op_sub (pe_op op_add (pe_cal c_law_of (hr.mono (by decide)) (pa_cons (pv 0) (pa_cons (pv 2) pa_nil))) (pe_cal c_law_take (hr.mono (by decide)) (pa_cons (pv 0) (pa_cons pe_int pa_nil)))) pe_int) pa_nil)))) ?c1)))))))
 (pss_one (ps_ret (pe_callTy call_tuple_of (by rfl) T.tuple boot_tuple (pa_cons (pv 3) pa_nil)))))), ?_⟩
    case c1 =>
      rintro D σ G ⟨l, r, t45, rfl, lb, hb0, hn0, hl0, hr3, go⟩
      refine ⟨_, rfl, .inl ⟨rfl, _, SqL.of hl0⟩, ?_⟩
      refine ⟨_, rfl, _, rfl, of_ints (E := E0) hb0 nlb hn0 hne hnn fun y H5 hy B5 hb5 => ?_⟩
      refine ⟨_, rfl, b, _, rfl, hb5, by decide, by decide, fun d H6 d0 d1 B6 hb6 => ?_⟩
      refine ⟨_, _, rfl, rfl, _, _, rfl, rfl, ?_⟩
      have B := B5.trans B6
      exact ⟨l, _, _, rfl, rfl, B _ _ lb hl0, small1000 (by rw [List.length_map]; omega), go _ H6 B hb6⟩
    refine ⟨Nat.zero_le _, fun l fl => ?_⟩
    have s0 := same_newH (o := .lst []) fl
    have hl0 : upd H l (.lst []) l = some (.lst []) := upd_same
    have lb : l ≠ b := (hb.ne fl).symm
    have lnl : nl ≠ l := ne_of_none hnl fl
    refine ⟨_, rfl, _, rfl, by omega, by omega, ?_⟩
    refine for_range (fun i σ H' => ∃ (t4 t5 : Option V) (r : List Int), σ = [some (.ref b), some (.int (m : Nat)), some (.ref nl), some (.ref l), t4, t5] ∧ But b H H' ∧ Bag H' b ∧ H' l = some (.lst (r.map V.int)) ∧ r.length = i) ⟨_, _, [], rfl, But.same s0, hb.same s0, hl0, rfl⟩ ?_ ?_
    · rintro i σ H1 hi ⟨t4, t5, r, rfl, B1, hb1, hl1, hri⟩
      have hi : i < m := by omega
      refine ⟨_, rfl, b, _, rfl, hb1, by decide, by decide, fun way H2 _ _ B2 hb2 => ?_⟩
      have go : ∀ (x : Int) (H3 : Hp) (t5 : Option V), But b H1 H3 → Bag H3 b → ∃ (t4 t5' : Option V) (r' : List Int), [some (V.ref b), some (.int (m : Nat)), some (.ref nl), some (.ref l), some (.int (0 + (i : Int))), t5] = [some (V.ref b), some (.int (m : Nat)), some (.ref nl), some (.ref l), t4, t5'] ∧ But b H (upd H3 l (.lst (r.map V.int ++ [V.int x]))) ∧ Bag (upd H3 l (.lst (r.map V.int ++ [V.int x]))) b ∧ upd H3 l (.lst (r.map V.int ++ [V.int x])) l = some (.lst (r'.map V.int)) ∧ r'.length = i + 1 := fun x H3 t5 B hbx => by
        refine ⟨_, _, r ++ [x], rfl, (B1.trans B).putb fl, hbx.put lb.symm, by rw [upd_same, List.map_append]; rfl, by rw [List.length_append, hri]; rfl⟩
      have hl2 := B2 _ _ lb hl1
      have hrl : r.length < 3 := by omega
      refine ⟨_, rfl, rfl, _, rfl, ite2 (fun _ => ?_) (fun _ => ?_)⟩
      · refine ⟨_, rfl, .inl ⟨rfl, _, SqL.of hl2⟩, ?_⟩
        refine ⟨_, rfl, b, _, rfl, hb2, by decide, by decide, fun x H3 hx B3 hb3 => ?_⟩
        exact ⟨l, _, _, rfl, rfl, B3 _ _ lb hl2, small1000 (by rw [List.length_map]; omega), go x H3 _ (B2.trans B3) hb3⟩
      refine ⟨_, rfl, rfl, _, rfl, ite2 (fun _ => ?_) (fun _ => ?_)⟩
      · refine ⟨_, rfl, Nat.zero_le _, fun e fe => ?_⟩
        have s3 := same_newH (o := .lst []) fe
        have he : upd H2 e (.lst []) e = some (.lst []) := upd_same
        have hl3 := s3 _ _ hl2
        have B3 := B2.trans (But.same s3)
        have hb3 := hb2.same s3
        generalize upd H2 e (.lst []) = H3 at *
        refine ⟨_, _, .lst (SqL.of hl3) (dp_ints r), .lst (xs := []) (SqL.of he) .nil, shaped_ints r, rfl, _, rfl, ?_⟩
        cases r with
        | nil =>
          refine ite_f rfl ?_
          exact ⟨l, _, (_, _), rfl, lb, hb3, B3 _ _ nlb (B1 _ _ nlb hnl), hl3, by decide, fun x H4 B4 hb4 => go x H4 _ (B3.trans B4) hb4⟩
        | cons x r =>
          refine ite2 (fun _ => ?_) (fun _ => ?_)
          · refine ⟨_, rfl, .inl ⟨rfl, _, SqL.of hl3⟩, ?_⟩
            refine ⟨_, rfl, _, rfl, of_ints (E := E0) hb3 lb hl3 (List.cons_ne_nil _ _) (by omega) fun y H5 hy B5 hb5 => ?_⟩
            exact ⟨l, _, _, rfl, rfl, B5 _ _ lb hl3, small1000 (by rw [List.length_map]; omega), go y H5 _ (B3.trans B5) hb5⟩
          · exact ⟨l, _, (_, _), rfl, lb, hb3, B3 _ _ nlb (B1 _ _ nlb hnl), hl3, by omega, fun x H4 B4 hb4 => go x H4 _ (B3.trans B4) hb4⟩
      exact ⟨l, _, (_, _), rfl, lb, hb2, B2 _ _ nlb (B1 _ _ nlb hnl), hl2, by omega, fun x H4 B4 hb4 => go x H4 _ (B2.trans B4) hb4⟩
    · rintro σ H1 ⟨t4, t5, r, rfl, B1, hb1, hl1, hri⟩
      refine ⟨_, rfl, l, _, rfl, .inl ⟨SqL.of hl1, fun t nt => ?_⟩⟩
      have s2 := same_newH (o := .tup (r.map V.int)) nt
      exact k t r _ (by rw [hri]; omega) (B1.trans (But.same s2)) (hb1.same s2) upd_same
end
end K07

namespace K07
open PySem PySem.Spec PyProof.Rows L2 Own
def spPieces : Nat → Sp
  | 0 => fun _ _ _ _ => False
  | n + 1 => fun vs H Q _ => ∃ (b cl : Addr) (v : V) (t : LT) (cols : List Str) (outer : Str), vs = [.ref b, v, .ref cl, .str outer] ∧ Bag H b ∧ cl ≠ b ∧ H cl = some (.lst (cols.map V.str)) ∧ ColOk cols ∧ LtAt H t v ∧ LtOk cols.length t ∧ dpt t ≤ n ∧ dpt t ≤ 4 ∧ outer ∈ (["", "&", "|", "~"] : List Str) ∧
    ∀ (l : Addr) (x : Tx) (H' : Hp), PcOk cols outer t x → But b H H' → Bag H' b → l ≠ b → H' l = some (.lst ((wordsX x).map V.str)) → Q (.ref l) H'
def spLVal : Nat → Sp
  | 0 => fun _ _ _ _ => False
  | n + 1 => fun vs H Q _ => ∃ (q : Addr) (v : V) (t : LT) (r : List Int), vs = [v, .ref q] ∧ LtAt H t v ∧ LtOk r.length t ∧ dpt t ≤ n ∧ H q = some (.tup (r.map V.int)) ∧ ∀ H', Same H H' → Q (v3 (lval r t)) H'
theorem at_int {r : List Int} {i : Nat} (h : i < r.length) : atI (r.map V.int) (i : Nat) = some (.int (r.getD i 0)) := by
  refine atI_nat ?_
  rw [List.getElem?_map, List.getElem?_eq_getElem h, List.getD_eq_getElem?_getD, List.getElem?_eq_getElem h]
  rfl
section
variable {P : Program} {w : World} {K : PySem.W.Frag} {mg : Str → Option Value} {base : Heap} {f C : Addr} {fd : FuncData}
theorem sc_law_value : FnScope ["tree", "row", "kind", "one", "other"] ["tree", "row"] (defScope s_law_value) := ⟨rfl, rfl, rfl, by decide +kernel, rfl, by decide +kernel, by decide +kernel⟩
theorem ok_lval {fh fs : Addr} {fdh fds : FuncData} (n : Nat) (F : FnP K "_law_value" s_law_value f fd) (T : Free mg) (c_law_holds : Cal P w K mg base CX0 1 "_law_holds" fh fdh ["one", "sign", "other"] spLHolds) (c_law_value : Cal P w K mg base CX0 (n + 1) "_law_value" fs fds ["tree", "row"] (spLVal n)) : FnOk P w K mg base CX0 (n + 2) f fd ["tree", "row"] (spLVal (n + 1)) := by
  refine F.ok sc_law_value (fun vs H Q E h => ?_) (fun cdv A outer s H vs Q E hrd h => ?_)
  · obtain ⟨q, v, t, r, rfl, _⟩ := h
    rfl
  · obtain ⟨q, v, t, r, rfl, ht, hok, hd, hq, k⟩ := h
    have hr := hrd.mono (show 1 ≤ n + 1 by omega)
    refine ⟨_, PSs.nox (pss_cons (ps_set (i := 2) sc_law_value.nd rfl (Or.inl rfl) (pe_ix ix_tup (pv 0) pe_int (fun _ _ => rfl)))
 (pss_cons (ps_if (pt_cmpR op_eq (pv 2) pe_str (nomark _))
 (pss_one (ps_ret (pe_cal c_law_holds (hr.mono (by decide)) (pa_cons (pe_ix ix_tup (pv 1) (pe_ix ix_tup (pv 0) pe_int (fun _ _ => rfl)) (fun _ _ => rfl)) (pa_cons (pe_ix ix_tup (pv 0) pe_int (fun _ _ => rfl)) (pa_cons (pe_ifExp (pt_cmpR op_eq (pe_ix ix_tup (pv 0) pe_int (fun _ _ => rfl)) pe_str (nomark _)) (pe_ix ix_tup (pv 1) (pe_ix ix_tup (pv 0) pe_int (fun _ _ => rfl)) (fun _ _ => rfl)) (pe_ix ix_tup (pv 0) pe_int (fun _ _ => rfl))) pa_nil))))))
 pss_nil)
 (pss_cons (ps_if (pt_cmpR op_notIn_seq (pv 2) (pe_lst (pa_cons pe_str (pa_cons pe_str (pa_cons pe_str pa_nil)))) (by rfl))
 (pss_one (ps_ret (pe_ifExp (pt_cmpR op_eq (pv 2) pe_str (nomark _)) pe_non (pe_cmpR op_eq (pv 2) pe_str (nomark _)))))
 pss_nil)
 (pss_cons (ps_set (i := 3) sc_law_value.nd rfl (Or.inl rfl) (pe_cal c_law_value (hrd.mono (Nat.le_refl _)) (pa_cons (pe_ix ix_tup (pv 0) pe_int (fun _ _ => rfl)) (pa_cons (pv 1) pa_nil))))
 (pss_cons (ps_if (pt_cmpR op_eq (pv 2) pe_str (nomark _))
 (pss_one (ps_ret (pe_ifExp (pt_cmpR op_isN (pv 3) pe_non (nomark _)) pe_non (pe_not (pv 3)))))
 pss_nil)
 (pss_cons (ps_set (i := 4) sc_law_value.nd rfl (Or.inl rfl) (pe_cal c_law_value (hrd.mono (Nat.le_refl _)) (pa_cons (pe_ix ix_tup (pv 0) pe_int (fun _ _ => rfl)) (pa_cons (pv 1) pa_nil))))
 (pss_cons (ps_if (PW.pt (pw_or (pt_cmpR op_isN (pv 3) pe_non (nomark _)) (pw_or1 (pt_cmpR op_isN (pv 4) pe_non (nomark _)))))
 (pss_one (ps_ret (pe_ifExp (pt_cmpR op_isN (pv 3) pe_non (nomark _)) (pv 4) (pv 3))))
 pss_nil)
 (pss_one (ps_ret (pe_ifExp (pt_cmpR op_eq (pv 2) pe_str (nomark _)) (pe_and (pv 3) (pe_one (pv 4))) (pe_or (pv 3) (pe_one (pv 4))))))))))))), ?_⟩
    have atom : ∀ (wd : Str) (a : Addr), wd = "blank" ∨ wd = "every" ∨ wd = "none" → H a = some (.tup [.str wd]) → (∀ H', Same H H' → Q (v3 (wordV3 wd)) H') → _ := fun wd a _ _ _ => True.intro
    clear atom
    cases t with
    | wd wd =>
      obtain ⟨a, rfl, ha⟩ := ht
      refine ⟨_, rfl, a, _, _, V.str wd, rfl, rfl, SqT.of ha, rfl, ?_⟩
      have k : ∀ H', Same H H' → Q (v3 (wordV3 wd)) H' := k
      rcases hok with rfl | rfl | rfl
      all_goals refine ⟨_, rfl, rfl, _, rfl, ite_f (by decide) ⟨_, rfl, (by show 3 ≤ sizeLine; decide), fun p np => ?_⟩⟩
      all_goals have s3 := same_newH (o := .lst [V.str "~", V.str "&", V.str "|"]) np
      all_goals refine ⟨p, _, rfl, .inl (SqL.of upd_same), rfl, rfl, _, rfl, ite_t (by decide) ?_⟩
      · exact ⟨_, rfl, rfl, _, rfl, ite_t (by decide) (k _ s3)⟩
      · exact ⟨_, rfl, rfl, _, rfl, ite_f (by decide) ⟨_, rfl, rfl, k _ s3⟩⟩
      · exact ⟨_, rfl, rfl, _, rfl, ite_f (by decide) ⟨_, rfl, rfl, k _ s3⟩⟩
    | tc l sg x =>
      obtain ⟨a, rfl, ha⟩ := ht
      obtain ⟨h1, h2, h3⟩ := hok
      refine ⟨_, rfl, a, _, _, V.str "test", rfl, rfl, SqT.of ha, rfl, ?_⟩
      refine ⟨_, rfl, rfl, _, rfl, ite_t (by decide) ?_⟩
      refine ⟨_, rfl, _, rfl, a, _, _, V.int (l : Nat), rfl, rfl, SqT.of ha, rfl, q, _, _, _, rfl, rfl, SqT.of hq, at_int h1, ?_⟩
      refine ⟨_, rfl, a, _, _, V.str sg, rfl, rfl, SqT.of ha, rfl, ?_⟩
      refine ⟨_, rfl, a, _, _, V.str "column", rfl, rfl, SqT.of ha, rfl, rfl, _, rfl, ite_t (by decide) ?_⟩
      refine ⟨_, rfl, _, rfl, a, _, _, V.int (x : Nat), rfl, rfl, SqT.of ha, rfl, q, _, _, _, rfl, rfl, SqT.of hq, at_int h3, ?_⟩
      exact ⟨_, _, _, rfl, by rcases h2 with rfl | rfl <;> decide, fun H' s => k H' s⟩
    | tn l sg x =>
      obtain ⟨a, rfl, ha⟩ := ht
      obtain ⟨h1, h2, h3⟩ := hok
      refine ⟨_, rfl, a, _, _, V.str "test", rfl, rfl, SqT.of ha, rfl, ?_⟩
      refine ⟨_, rfl, rfl, _, rfl, ite_t (by decide) ?_⟩
      refine ⟨_, rfl, _, rfl, a, _, _, V.int (l : Nat), rfl, rfl, SqT.of ha, rfl, q, _, _, _, rfl, rfl, SqT.of hq, at_int h1, ?_⟩
      refine ⟨_, rfl, a, _, _, V.str sg, rfl, rfl, SqT.of ha, rfl, ?_⟩
      refine ⟨_, rfl, a, _, _, V.str "number", rfl, rfl, SqT.of ha, rfl, rfl, _, rfl, ite_f (by decide) ?_⟩
      refine ⟨_, rfl, a, _, _, V.int x, rfl, rfl, SqT.of ha, rfl, ?_⟩
      exact ⟨_, _, _, rfl, h2, fun H' s => k H' s⟩
    | neg t =>
      obtain ⟨a, u, rfl, ha, hu⟩ := ht
      obtain ⟨n, rfl⟩ : ∃ z, n = z + 1 := ⟨n - 1, by have : dpt t + 1 ≤ n := hd; omega⟩
      have hd : dpt t ≤ n := Nat.le_of_succ_le_succ hd
      refine ⟨_, rfl, a, _, _, V.str "~", rfl, rfl, SqT.of ha, rfl, ?_⟩
      refine ⟨_, rfl, rfl, _, rfl, ite_f (by decide) ⟨_, rfl, (by show 3 ≤ sizeLine; decide), fun p np => ?_⟩⟩
      have s3 := same_newH (o := .lst [V.str "~", V.str "&", V.str "|"]) np
      refine ⟨p, _, rfl, .inl (SqL.of upd_same), rfl, rfl, _, rfl, ite_f (by decide) ?_⟩
      have ha := s3 _ _ ha
      have hq := s3 _ _ hq
      have hu := hu.lsts (.same s3)
      generalize upd H p (.lst [V.str "~", V.str "&", V.str "|"]) = H1 at *
      refine ⟨_, rfl, a, _, _, u, rfl, rfl, SqT.of ha, rfl, _, rfl, q, u, t, r, rfl, hu, hok, hd, hq, fun H2 s4 => ?_⟩
      have k : Q (v3 ((lval r t).map (!·))) H2 := k H2 (s3.trans s4)
      generalize lval r t = y at *
      refine ⟨_, rfl, rfl, _, rfl, ite_t (by decide) ⟨_, rfl, rfl, _, rfl, ?_⟩⟩
      rw [v3_non]
      cases y with
      | none => exact iteT k
      | some y => exact iteF ⟨_, rfl, _, rfl, k⟩
    | bin sg t1 t2 =>
      obtain ⟨a, u, u2, rfl, ha, hu, hu2⟩ := ht
      obtain ⟨hs, ok1, ok2⟩ := hok
      obtain ⟨n, rfl⟩ : ∃ z, n = z + 1 := ⟨n - 1, by have : max (dpt t1) (dpt t2) + 1 ≤ n := hd; omega⟩
      have hd : max (dpt t1) (dpt t2) ≤ n := Nat.le_of_succ_le_succ hd
      refine ⟨_, rfl, a, _, _, V.str sg, rfl, rfl, SqT.of ha, rfl, ?_⟩
      refine ⟨_, rfl, rfl, _, rfl, ite_f (by rcases hs with rfl | rfl <;> decide) ⟨_, rfl, (by show 3 ≤ sizeLine; decide), fun p np => ?_⟩⟩
      have s3 := same_newH (o := .lst [V.str "~", V.str "&", V.str "|"]) np
      refine ⟨p, _, rfl, .inl (SqL.of upd_same), by rcases hs with rfl | rfl <;> rfl, rfl, _, rfl, ite_f (by rcases hs with rfl | rfl <;> decide) ?_⟩
      have ha := s3 _ _ ha
      have hq := s3 _ _ hq
      have hu := hu.lsts (.same s3)
      have hu2 := hu2.lsts (.same s3)
      generalize upd H p (.lst [V.str "~", V.str "&", V.str "|"]) = H1 at *
      refine ⟨_, rfl, a, _, _, u, rfl, rfl, SqT.of ha, rfl, _, rfl, q, u, t1, r, rfl, hu, ok1, by omega, hq, fun H2 s4 => ?_⟩
      have ha := s4 _ _ ha
      have hq := s4 _ _ hq
      have hu2 := hu2.lsts (.same s4)
      refine ⟨_, rfl, rfl, _, rfl, ite_f (by rcases hs with rfl | rfl <;> decide) ?_⟩
      refine ⟨_, rfl, a, _, _, u2, rfl, rfl, SqT.of ha, rfl, _, rfl, q, u2, t2, r, rfl, hu2, ok2, by omega, hq, fun H3 s5 => ?_⟩
      have k : Q (v3 (join3 sg (lval r t1) (lval r t2))) H3 := k H3 (s3.trans (s4.trans s5))
      generalize lval r t1 = y at *
      generalize lval r t2 = z at *
      refine ⟨_, rfl, rfl, _, rfl, ?_⟩
      rw [v3_non]
      cases y with
      | none =>
        rw [(join3_none sg z).2] at k
        refine iteT (iteT ⟨_, rfl, rfl, _, rfl, iteT ⟨_, rfl, k⟩⟩)
      | some y =>
        refine iteF ⟨_, rfl, rfl, _, rfl, ?_⟩
        rw [v3_non]
        cases z with
        | none =>
          rw [(join3_none sg _).1] at k
          exact iteT ⟨_, rfl, rfl, _, rfl, iteF ⟨_, rfl, k⟩⟩
        | some z =>
          refine iteF ⟨_, rfl, rfl, _, rfl, ?_⟩
          rcases hs with rfl | rfl
          · refine ite_t (by decide) ⟨_, rfl, _, rfl, ?_⟩
            cases y
            · exact iteF k
            · exact iteT ⟨_, rfl, k⟩
          · refine ite_f (by decide) ⟨_, rfl, _, rfl, ?_⟩
            cases y
            · exact iteF ⟨_, rfl, k⟩
            · exact iteT k
theorem sc_law_pieces : FnScope ["bag", "tree", "columns", "outer", "kind", "pieces", "is_loose"] ["bag", "tree", "columns", "outer"] (defScope s_law_pieces) := ⟨rfl, rfl, rfl, by decide +kernel, rfl, by decide +kernel, by decide +kernel⟩
theorem ok_pieces {ft fs : Addr} {fdt fds : FuncData} (n : Nat) (F : FnP K "_law_pieces" s_law_pieces f fd) (T : Free mg) (c_law_take : Cal P w K mg base CX0 1 "_law_take" ft fdt ["bag", "many"] spTake) (c_law_pieces : Cal P w K mg base CX0 (n + 1) "_law_pieces" fs fds ["bag", "tree", "columns", "outer"] (spPieces n)) : FnOk P w K mg base CX0 (n + 2) f fd ["bag", "tree", "columns", "outer"] (spPieces (n + 1)) := by
  refine F.ok sc_law_pieces (fun vs H Q E h => ?_) (fun cdv A outer' s H vs Q E hrd h => ?_)
  · obtain ⟨b, cl, v, t, cols, outer, rfl, _⟩ := h
    rfl
  · obtain ⟨b, cl, v, t, cols, outer, rfl, hb, clb, hcl, ck, ht, hok, hd, hd4, ho, k⟩ := h
    have hr := hrd.mono (show 1 ≤ n + 1 by omega)
    refine ⟨_, PSs.nox (pss_cons (ps_set (i := 4) sc_law_pieces.nd rfl (Or.inl rfl) (pe_ix ix_tup (pv 1) pe_int (fun _ _ => rfl)))
 (pss_cons (ps_if (pt_cmpR op_eq (pv 4) pe_str (nomark _))
 (pss_one (ps_set (i := 5) sc_law_pieces.nd rfl (Or.inl rfl) (pe_lst (pa_cons (pe_ix ix_list (pv 2) (pe_ix ix_tup (pv 1) pe_int (fun _ _ => rfl)) (fun _ _ => rfl)) (pa_cons (pe_ix ix_tup (pv 1) pe_int (fun _ _ => rfl)) (pa_cons (pe_ifExp (pt_cmpR op_eq (pe_ix ix_tup (pv 1) pe_int (fun _ _ => rfl)) pe_str (nomark _)) (pe_ix ix_list (pv 2) (pe_ix ix_tup (pv 1) pe_int (fun _ _ => rfl)) (fun _ _ => rfl)) (pe_callTy call_str_int (by rfl) T.str boot_str (pa_cons (pe_ix ix_tup (pv 1) pe_int (fun _ _ => rfl)) pa_nil))) pa_nil))))))
 (pss_one (ps_if (pt_cmpR op_eq (pv 4) pe_str (nomark _))
 (pss_one (ps_set (i := 5) sc_law_pieces.nd rfl (Or.inl rfl) (pe_op op_cat (pe_lst (pa_cons pe_str pa_nil)) (pe_cal c_law_pieces (hrd.mono (Nat.le_refl _)) (pa_cons (pv 0) (pa_cons (pe_ix ix_tup (pv 1) pe_int (fun _ _ => rfl)) (pa_cons (pv 2) (pa_cons pe_str pa_nil))))))))
 (pss_one (ps_if (pt_cmpR op_in_seq (pv 4) (pe_lst (pa_cons pe_str (pa_cons pe_str pa_nil))) (by rfl))
 (pss_one (ps_set (i := 5) sc_law_pieces.nd rfl (Or.inl rfl) (pe_op op_cat (pe_op op_cat (pe_cal c_law_pieces (hrd.mono (Nat.le_refl _)) (pa_cons (pv 0) (pa_cons (pe_ix ix_tup (pv 1) pe_int (fun _ _ => rfl)) (pa_cons (pv 2) (pa_cons (pv 4) pa_nil))))) (pe_lst (pa_cons (pv 4) pa_nil))) (pe_cal c_law_pieces (hrd.mono (Nat.le_refl _)) (pa_cons (pv 0) (pa_cons (pe_ix ix_tup (pv 1) pe_int (fun _ _ => rfl)) (pa_cons (pv 2) (pa_cons (pv 4) pa_nil))))))))
 (pss_one (ps_set (i := 5) sc_law_pieces.nd rfl (Or.inl rfl) (pe_lst (pa_cons (pv 4) pa_nil)))))))))
 (pss_cut (t' := fun D σ G => ∃ (pl : Addr) (x : Tx), σ = [some (.ref b), some v, some (.ref cl), some (.str outer), some (.str (knd t)), some (.ref pl), none] ∧ But b H G ∧ Bag G b ∧ pl ≠ b ∧ G pl = some (.lst ((wordsX x).map V.str)) ∧ Pre cols t x ∧ D.rt = Q) (pss_cons (ps_set (i := 6) sc_law_pieces.nd rfl (Or.inl rfl) (pe_or (pe_and (pe_cmpR op_eq (pv 4) pe_str (nomark _)) (pe_one (pe_cmpR op_in_seq (pv 3) (pe_lst (pa_cons pe_str (pa_cons pe_str pa_nil))) (by rfl)))) (pe_one (pe_and (pe_cmpR op_eq (pv 4) pe_str (nomark _)) (pe_one (pe_cmpR op_eq (pv 3) pe_str (nomark _)))))))
 (pss_cut (t' := fun D σ G => ∃ (pl : Addr) (x : Tx) (lo : Bool), σ = [some (.ref b), some v, some (.ref cl), some (.str outer), some (.str (knd t)), some (.ref pl), some (.bl lo)] ∧ But b H G ∧ Bag G b ∧ pl ≠ b ∧ G pl = some (.lst ((wordsX x).map V.str)) ∧ Pre cols t x ∧ (lo = false → loose (knd t) outer = false) ∧ D.rt = Q) (pss_one (ps_ret (pe_ifExp (PW.pt (pw_or (pt_val (pv 6)) (pw_or1 (pt_cmpR op_eq (pe_cal c_law_take (hr.mono (by decide)) (pa_cons (pv 0) (pa_cons pe_int pa_nil))) pe_int (nomark _))))) (pe_op op_cat (pe_op op_cat (pe_lst (pa_cons pe_str pa_nil)) (pv 5)) (pe_lst (pa_cons pe_str pa_nil))) (pv 5)))) ?c2)) ?c1))), ?_⟩
    case c1 =>
      rintro D σ G ⟨pl, x, rfl, B0, hb0, plb, hpl, pre, hD⟩
      obtain ⟨kd, hkd⟩ : ∃ kd, knd t = kd := ⟨_, rfl⟩
      rw [hkd]
      have ho4 : outer = "" ∨ outer = "&" ∨ outer = "|" ∨ outer = "~" := by simpa using ho
      by_cases e1 : kd = "|"
      · refine ⟨_, rfl, rfl, _, rfl, ite_t (by rw [e1]; decide) ⟨_, rfl, (by show 2 ≤ sizeLine; decide), fun p np => ?_⟩⟩
        have s3 := same_newH (o := .lst [V.str "&", V.str "~"]) np
        have B := B0.trans (But.same s3)
        have hb1 := hb0.same s3
        have hp1 := s3 _ _ hpl
        have u1 : upd G p (.lst [V.str "&", V.str "~"]) p = some (.lst [V.str "&", V.str "~"]) := upd_same
        generalize upd G p (.lst [V.str "&", V.str "~"]) = G1 at *
        subst e1
        rcases ho4 with rfl | rfl | rfl | rfl
        · refine ⟨p, _, rfl, .inl (SqL.of u1), rfl, rfl, _, rfl, ite_f (by decide) ⟨_, rfl, rfl, _, rfl, ite_f (by decide) ?_⟩⟩
          exact ⟨pl, x, _, rfl, B, hb1, plb, hp1, pre, fun _ => by decide, hD⟩
        · refine ⟨p, _, rfl, .inl (SqL.of u1), rfl, rfl, _, rfl, ite_t (by decide) ?_⟩
          exact ⟨pl, x, _, rfl, B, hb1, plb, hp1, pre, (fun e => Bool.noConfusion e), hD⟩
        · refine ⟨p, _, rfl, .inl (SqL.of u1), rfl, rfl, _, rfl, ite_f (by decide) ⟨_, rfl, rfl, _, rfl, ite_f (by decide) ?_⟩⟩
          exact ⟨pl, x, _, rfl, B, hb1, plb, hp1, pre, fun _ => by decide, hD⟩
        · refine ⟨p, _, rfl, .inl (SqL.of u1), rfl, rfl, _, rfl, ite_t (by decide) ?_⟩
          exact ⟨pl, x, _, rfl, B, hb1, plb, hp1, pre, (fun e => Bool.noConfusion e), hD⟩
      · have f1 : decide (V.str kd = V.str "|") = false := decide_eq_false fun e => e1 (V.str.inj e)
        refine ⟨_, rfl, rfl, _, rfl, ite_f f1 ?_⟩
        refine ⟨_, rfl, ite_f rfl ?_⟩
        by_cases e2 : kd = "&"
        · subst e2
          refine ⟨_, rfl, rfl, _, rfl, ite_t (by decide) ⟨_, rfl, rfl, ?_⟩⟩
          refine ⟨pl, x, _, rfl, B0, hb0, plb, hpl, pre, fun e => ?_, hD⟩
          have e : outer ≠ "~" := fun q => by rw [q] at e; exact absurd e (by decide)
          unfold loose
          rw [decide_eq_false e, decide_eq_false (p := ("&" : Str) = "|") (by decide), Bool.false_and, Bool.and_false]
          rfl
        · have f2 : decide (V.str kd = V.str "&") = false := decide_eq_false fun e => e2 (V.str.inj e)
          refine ⟨_, rfl, rfl, _, rfl, ite_f f2 ?_⟩
          refine ⟨pl, x, _, rfl, B0, hb0, plb, hpl, pre, fun e => ?_, hD⟩
          unfold loose
          simp [e1, e2]
    case c2 =>
      rintro D σ G ⟨pl, x, lo, rfl, B0, hb0, plb, hpl, pre, hlo, hD⟩
      subst hD
      have hln : (wordsX x).length ≤ 128 := by
        have h1 := pre.ln
        have h2 : 2 ^ dpt t ≤ 2 ^ 4 := Nat.pow_le_pow_right (by decide) hd4
        omega
      have cat : ∀ G1, But b G G1 → Bag G1 b → G1 pl = some (.lst ((wordsX x).map V.str)) → tOp rCat (tOp rCat (tLst (tCons (tC (V.str "(")) tNil)) (tVar 5)) (tLst (tCons (tC (V.str ")")) tNil)) [some (.ref b), some v, some (.ref cl), some (.str outer), some (.str (knd t)), some (.ref pl), some (.bl lo)] G1 D.rt := fun G1 B1 hb1 hp1 => by
        refine ⟨(by show 1 ≤ sizeLine; decide), fun p np => ?_⟩
        have s2 := same_newH (o := .lst [V.str "("]) np
        have u2 : upd G1 p (.lst [V.str "("]) p = some (.lst [V.str "("]) := upd_same
        have hp2 := s2 _ _ hp1
        have B2 := (B0.trans B1).trans (But.same s2)
        have hb2 := hb1.same s2
        change upd G1 p (.lst [V.str "("]) p = _ at u2
        generalize upd G1 p (.lst [V.str "("]) = G2 at *
        refine ⟨_, rfl, p, pl, _, _, rfl, rfl, u2, hp2, by unfold sizeLine; rw [List.length_map]; show 1 + _ ≤ _; omega, fun p3 np3 => ?_⟩
        have s3 := same_newH (o := .lst ([V.str "("] ++ (wordsX x).map V.str)) np3
        have u3 : upd G2 p3 (.lst ([V.str "("] ++ (wordsX x).map V.str)) p3 = some (.lst ([V.str "("] ++ (wordsX x).map V.str)) := upd_same
        have B3 := B2.trans (But.same s3)
        have hb3 := hb2.same s3
        generalize upd G2 p3 (.lst ([V.str "("] ++ (wordsX x).map V.str)) = G3 at *
        refine ⟨(by show 1 ≤ sizeLine; decide), fun p4 np4 => ?_⟩
        have s4 := same_newH (o := .lst [V.str ")"]) np4
        have u4 : upd G3 p4 (.lst [V.str ")"]) p4 = some (.lst [V.str ")"]) := upd_same
        have u3 := s4 _ _ u3
        have B4 := B3.trans (But.same s4)
        have hb4 := hb3.same s4
        change upd G3 p4 (.lst [V.str ")"]) p4 = _ at u4
        generalize upd G3 p4 (.lst [V.str ")"]) = G4 at *
        refine ⟨p3, p4, _, _, rfl, rfl, u3, u4, by unfold sizeLine; rw [List.length_append, List.length_map]; show 1 + _ + 1 ≤ _; omega, fun p5 np5 => ?_⟩
        have s5 := same_newH (o := .lst ([V.str "("] ++ (wordsX x).map V.str ++ [V.str ")"])) np5
        refine k p5 (.par x) _ (pc_par outer pre) (B4.trans (But.same s5)) (hb4.same s5) (hb4.ne np5).symm ?_
        rw [upd_same]
        show some (HO.lst _) = some (HO.lst (List.map V.str (("(" : Str) :: (wordsX x ++ [(")" : Str)]))))
        rw [List.map_cons, List.map_append]
        rfl
      refine ⟨_, rfl, _, rfl, ?_⟩
      cases lo with
      | true => exact iteT (iteT (cat G But.refl hb0 hpl))
      | false =>
        refine iteF ⟨_, rfl, b, _, rfl, hb0, by decide, by decide, fun d G1 d0 d1 B1 hb1 => ⟨rfl, _, rfl, ite2 (fun _ => ?_) (fun _ => ?_)⟩⟩
        · exact cat G1 B1 hb1 (B1 _ _ plb hpl)
        · exact ⟨_, rfl, k pl x _ (pc_out pre (hlo rfl)) (B0.trans B1) hb1 plb (B1 _ _ plb hpl)⟩
    cases t with
    | wd wd =>
      obtain ⟨a, rfl, ha⟩ := ht
      refine ⟨_, rfl, a, _, _, V.str wd, rfl, rfl, SqT.of ha, rfl, ?_⟩
      have hok : wd = "blank" ∨ wd = "every" ∨ wd = "none" := hok
      refine ⟨_, rfl, rfl, _, rfl, ite_f (by rcases hok with rfl | rfl | rfl <;> decide) ⟨_, rfl, rfl, _, rfl, ite_f (by rcases hok with rfl | rfl | rfl <;> decide) ⟨_, rfl, (by show 2 ≤ sizeLine; decide), fun p np => ?_⟩⟩⟩
      have s3 := same_newH (o := .lst [V.str "&", V.str "|"]) np
      refine ⟨p, _, rfl, .inl (SqL.of upd_same), by rcases hok with rfl | rfl | rfl <;> rfl, rfl, _, rfl, ite_f (by rcases hok with rfl | rfl | rfl <;> decide) ?_⟩
      refine ⟨_, rfl, (by show 1 ≤ sizeLine; decide), fun pl npl => ?_⟩
      have s4 := same_newH (o := .lst [V.str wd]) npl
      exact ⟨pl, .wd wd, rfl, But.same (s3.trans s4), hb.same (s3.trans s4), ((hb.same s3).ne npl).symm, upd_same, pre_wd cols hok, rfl⟩
    | tc l sg x =>
      obtain ⟨a, rfl, ha⟩ := ht
      obtain ⟨h1, h2, h3⟩ := hok
      obtain ⟨c, hc⟩ : ∃ c, cols[l]? = some c := ⟨_, List.getElem?_eq_getElem h1⟩
      obtain ⟨d, hdx⟩ : ∃ c, cols[x]? = some c := ⟨_, List.getElem?_eq_getElem h3⟩
      have ac : atI (cols.map V.str) (l : Nat) = some (.str c) := atI_nat (by rw [List.getElem?_map, hc]; rfl)
      have ad : atI (cols.map V.str) (x : Nat) = some (.str d) := atI_nat (by rw [List.getElem?_map, hdx]; rfl)
      refine ⟨_, rfl, a, _, _, V.str "test", rfl, rfl, SqT.of ha, rfl, ?_⟩
      refine ⟨_, rfl, rfl, _, rfl, ite_t (by decide) ?_⟩
      refine ⟨_, rfl, _, rfl, a, _, _, V.int (l : Nat), rfl, rfl, SqT.of ha, rfl, cl, _, _, _, rfl, rfl, SqL.of hcl, ac, ?_⟩
      refine ⟨_, rfl, a, _, _, V.str sg, rfl, rfl, SqT.of ha, rfl, ?_⟩
      refine ⟨_, rfl, a, _, _, V.str "column", rfl, rfl, SqT.of ha, rfl, rfl, _, rfl, ite_t (by decide) ?_⟩
      refine ⟨_, rfl, _, rfl, a, _, _, V.int (x : Nat), rfl, rfl, SqT.of ha, rfl, cl, _, _, _, rfl, rfl, SqL.of hcl, ad, ?_⟩
      refine ⟨(by show 3 ≤ sizeLine; decide), fun pl npl => ?_⟩
      have s4 := same_newH (o := .lst [V.str c, V.str sg, V.str d]) npl
      exact ⟨pl, .ts c sg d, rfl, But.same s4, hb.same s4, (hb.ne npl).symm, upd_same, pre_tc ck hc h2 hdx, rfl⟩
    | tn l sg x =>
      obtain ⟨a, rfl, ha⟩ := ht
      obtain ⟨h1, h2, h3⟩ := hok
      obtain ⟨c, hc⟩ : ∃ c, cols[l]? = some c := ⟨_, List.getElem?_eq_getElem h1⟩
      have ac : atI (cols.map V.str) (l : Nat) = some (.str c) := atI_nat (by rw [List.getElem?_map, hc]; rfl)
      refine ⟨_, rfl, a, _, _, V.str "test", rfl, rfl, SqT.of ha, rfl, ?_⟩
      refine ⟨_, rfl, rfl, _, rfl, ite_t (by decide) ?_⟩
      refine ⟨_, rfl, _, rfl, a, _, _, V.int (l : Nat), rfl, rfl, SqT.of ha, rfl, cl, _, _, _, rfl, rfl, SqL.of hcl, ac, ?_⟩
      refine ⟨_, rfl, a, _, _, V.str sg, rfl, rfl, SqT.of ha, rfl, ?_⟩
      refine ⟨_, rfl, a, _, _, V.str "number", rfl, rfl, SqT.of ha, rfl, rfl, _, rfl, ite_f (by decide) ?_⟩
      refine ⟨_, rfl, a, _, _, V.int x, rfl, rfl, SqT.of ha, rfl, _, rfl, num30_log h3, ?_⟩
      refine ⟨(by show 3 ≤ sizeLine; decide), fun pl npl => ?_⟩
      have s4 := same_newH (o := .lst [V.str c, V.str sg, V.str (numS x)]) npl
      exact ⟨pl, .ts c sg (numS x), rfl, But.same s4, hb.same s4, (hb.ne npl).symm, upd_same, pre_tn ck hc h2 h3, rfl⟩
    | neg t =>
      obtain ⟨a, u, rfl, ha, hu⟩ := ht
      obtain ⟨n, rfl⟩ : ∃ z, n = z + 1 := ⟨n - 1, by have : dpt t + 1 ≤ n := hd; omega⟩
      have hd : dpt t ≤ n := Nat.le_of_succ_le_succ hd
      have hd4' : dpt t + 1 ≤ 4 := hd4
      have hok : LtOk cols.length t := hok
      refine ⟨_, rfl, a, _, _, V.str "~", rfl, rfl, SqT.of ha, rfl, ?_⟩
      refine ⟨_, rfl, rfl, _, rfl, ite_f (by decide) ⟨_, rfl, rfl, _, rfl, ite_t (by decide) ?_⟩⟩
      refine ⟨(by show 1 ≤ sizeLine; decide), fun p np => ?_⟩
      have s3 := same_newH (o := .lst [V.str "~"]) np
      have u3 : upd H p (.lst [V.str "~"]) p = some (.lst [V.str "~"]) := upd_same
      have ha := s3 _ _ ha
      have hu := hu.lsts (.same s3)
      have hcl := s3 _ _ hcl
      have hb3 := hb.same s3
      have B3 : But b H (upd H p (.lst [V.str "~"])) := But.same s3
      have pb := (hb.ne np).symm
      change upd H p (.lst [V.str "~"]) p = _ at u3
      generalize upd H p (.lst [V.str "~"]) = G1 at *
      refine ⟨_, rfl, _, rfl, a, _, _, u, rfl, rfl, SqT.of ha, rfl, _, rfl, b, cl, u, t, cols, "~", rfl, hb3, clb, hcl, ck, hu, hok, hd, by omega, by decide, fun l x G2 pc B4 hb4 lb hl => ?_⟩
      have hln : (wordsX x).length ≤ 128 := by
        have h1 := pc.ln
        have h2 : 2 ^ dpt t ≤ 2 ^ 4 := Nat.pow_le_pow_right (by decide) (by omega)
        omega
      refine ⟨p, l, _, _, rfl, rfl, B4 _ _ pb u3, hl, by unfold sizeLine; rw [List.length_map]; show 1 + _ ≤ _; omega, fun p5 np5 => ?_⟩
      have s5 := same_newH (o := .lst ([V.str "~"] ++ (wordsX x).map V.str)) np5
      exact ⟨p5, .neg x, rfl, (B3.trans B4).trans (But.same s5), hb4.same s5, (hb4.ne np5).symm, upd_same, pre_neg pc, rfl⟩
    | bin sg t1 t2 =>
      obtain ⟨a, u, u2, rfl, ha, hu, hu2⟩ := ht
      obtain ⟨hs, ok1, ok2⟩ := hok
      obtain ⟨n, rfl⟩ : ∃ z, n = z + 1 := ⟨n - 1, by have : max (dpt t1) (dpt t2) + 1 ≤ n := hd; omega⟩
      have hd : max (dpt t1) (dpt t2) ≤ n := Nat.le_of_succ_le_succ hd
      have hd4' : max (dpt t1) (dpt t2) + 1 ≤ 4 := hd4
      have hs4 : sg ∈ (["", "&", "|", "~"] : List Str) := by rcases hs with rfl | rfl <;> decide
      refine ⟨_, rfl, a, _, _, V.str sg, rfl, rfl, SqT.of ha, rfl, ?_⟩
      refine ⟨_, rfl, rfl, _, rfl, ite_f (by rcases hs with rfl | rfl <;> decide) ⟨_, rfl, rfl, _, rfl, ite_f (by rcases hs with rfl | rfl <;> decide) ⟨_, rfl, (by show 2 ≤ sizeLine; decide), fun p np => ?_⟩⟩⟩
      have s3 := same_newH (o := .lst [V.str "&", V.str "|"]) np
      refine ⟨p, _, rfl, .inl (SqL.of upd_same), by rcases hs with rfl | rfl <;> rfl, rfl, _, rfl, ite_t (by rcases hs with rfl | rfl <;> decide) ?_⟩
      have ha := s3 _ _ ha
      have hu := hu.lsts (.same s3)
      have hu2 := hu2.lsts (.same s3)
      have hcl := s3 _ _ hcl
      have hb3 := hb.same s3
      have B3 : But b H (upd H p (.lst [V.str "&", V.str "|"])) := But.same s3
      clear s3
      generalize upd H p (.lst [V.str "&", V.str "|"]) = G1 at *
      refine ⟨_, rfl, _, rfl, a, _, _, u, rfl, rfl, SqT.of ha, rfl, _, rfl, _, rfl, b, cl, u, t1, cols, sg, rfl, hb3, clb, hcl, ck, hu, ok1, by omega, by omega, hs4, fun l1 x1 G2 pc1 B4 hb4 lb1 hl1 => ?_⟩
      have hln1 : (wordsX x1).length ≤ 128 := by
        have h1 := pc1.ln
        have h2 : 2 ^ dpt t1 ≤ 2 ^ 4 := Nat.pow_le_pow_right (by decide) (by omega)
        omega
      have ha := B4.at hb3 ha nofun
      have hu2 := hu2.lsts (Lsts.but hb3 B4)
      have hcl := B4 _ _ clb hcl
      have B4 := B3.trans B4
      refine ⟨_, rfl, (by show 1 ≤ sizeLine; decide), fun p4 np4 => ?_⟩
      have s5 := same_newH (o := .lst [V.str sg]) np4
      refine ⟨l1, p4, _, _, rfl, rfl, s5 _ _ hl1, upd_same, by unfold sizeLine; rw [List.length_map]; show _ + 1 ≤ _; omega, fun p5 np5 => ?_⟩
      have s6 := s5.trans (same_newH (o := .lst ((wordsX x1).map V.str ++ [V.str sg])) np5)
      have u6 : upd (upd G2 p4 (.lst [V.str sg])) p5 (.lst ((wordsX x1).map V.str ++ [V.str sg])) p5 = some (.lst ((wordsX x1).map V.str ++ [V.str sg])) := upd_same
      have pb5 : p5 ≠ b := ((hb4.same s5).ne np5).symm
      change upd (upd G2 p4 (.lst [V.str sg])) p5 (.lst ((wordsX x1).map V.str ++ [V.str sg])) p5 = _ at u6
      have ha := s6 _ _ ha
      have hu2 := hu2.lsts (.same s6)
      have hcl := s6 _ _ hcl
      have hb6 := hb4.same s6
      have B6 := B4.trans (But.same s6)
      clear s6
      generalize upd (upd G2 p4 (.lst [V.str sg])) p5 (.lst ((wordsX x1).map V.str ++ [V.str sg])) = G3 at *
      refine ⟨_, rfl, _, rfl, a, _, _, u2, rfl, rfl, SqT.of ha, rfl, _, rfl, _, rfl, b, cl, u2, t2, cols, sg, rfl, hb6, clb, hcl, ck, hu2, ok2, by omega, by omega, hs4, fun l2 x2 G4 pc2 B7 hb7 lb2 hl2 => ?_⟩
      have hln2 : (wordsX x2).length ≤ 128 := by
        have h1 := pc2.ln
        have h2 : 2 ^ dpt t2 ≤ 2 ^ 4 := Nat.pow_le_pow_right (by decide) (by omega)
        omega
      refine ⟨p5, l2, _, _, rfl, rfl, B7 _ _ pb5 u6, hl2, by unfold sizeLine; rw [List.length_append, List.length_map, List.length_map]; show _ + 1 + _ ≤ _; omega, fun p8 np8 => ?_⟩
      have s8 := same_newH (o := .lst ((wordsX x1).map V.str ++ [V.str sg] ++ (wordsX x2).map V.str)) np8
      refine ⟨p8, joinX sg x1 x2, rfl, (B6.trans B7).trans (But.same s8), hb7.same s8, (hb7.ne np8).symm, ?_, pre_bin hs pc1 pc2, rfl⟩
      rw [upd_same, joinX_words, List.map_append, List.map_cons, List.append_assoc]
      rfl
end
end K07

namespace Own
open PySem PySem.Spec PyProof.Rows L2
def col7 : List Str := ["id", "owner", "blanks"]
theorem col7_ok {m : Nat} (h1 : 1 ≤ m) (h3 : m ≤ 3) : ColOk (col7.take m) ∧ LowC (col7.take m) ∧ (col7.take m).length = m ∧ (∀ c ∈ col7.take m, PyData.strOk c = true) := by
  have : m = 1 ∨ m = 2 ∨ m = 3 := by omega
  rcases this with rfl | rfl | rfl
  · exact ⟨col_ok (by decide +kernel), lowC_ok (by decide +kernel), rfl, by decide +kernel⟩
  · exact ⟨col_ok (by decide +kernel), lowC_ok (by decide +kernel), rfl, by decide +kernel⟩
  · exact ⟨col_ok (by decide +kernel), lowC_ok (by decide +kernel), rfl, by decide +kernel⟩
/-- a condition that says what a tree says -/
def CdAt (H : Hp) (C tb : Addr) (m : Nat) (t : LT) (v : V) : Prop := ∃ (p : Addr) (o : Option Tr) (ws : Option (List Str)), v = .ref p ∧ CondAt H C p tb o ws ∧ OTrWf m o ∧ ∀ r, ov r o = lval r t
theorem CdAt.lsts {H H' : Hp} {C tb : Addr} {m : Nat} {t : LT} {v : V} (h : CdAt H C tb m t v) (e : Lsts H H') : CdAt H' C tb m t v := by
  obtain ⟨p, o, ws, h1, h2, h3⟩ := h
  exact ⟨p, o, ws, h1, h2.lsts e, h3⟩
/-- the bag, the columns, the table, the numbers, the rows, the trees, the conditions -/
structure S7 (H0 H : Hp) (CT C b cl tb nl rl tl dl : Addr) (cols : List Str) (ns : List Int) (rs : List (List Int)) (ts us : List LT) (rv tv dv : List V) : Prop where
  S : Same H0 H
  fr : ∀ x ∈ [b, nl, rl, tl, dl], H0 x = none
  nd : [b, cl, nl, rl, tl, dl].Nodup
  hb : Bag H b
  hc : H cl = some (.lst (cols.map V.str))
  hT : TabF H CT tb cols
  hn : H nl = some (.lst (ns.map V.int))
  n30 : ∀ n ∈ ns, Num30 n
  hr : H rl = some (.lst rv)
  hR : Al (fun r v => IntT H v r) rs rv
  rm : ∀ r ∈ rs, r.length = cols.length
  ht : H tl = some (.lst tv)
  hA : Al (LtAt H) ts tv
  tk : ∀ t ∈ ts, LtOk cols.length t ∧ dpt t ≤ 4
  hd : H dl = some (.lst dv)
  hD : Al (CdAt H C tb cols.length) us dv
section
variable {H0 H H' : Hp} {CT C b cl tb nl rl tl dl : Addr} {cols : List Str} {ns : List Int} {rs : List (List Int)} {ts us : List LT} {rv tv dv : List V}
theorem S7.mv (h : S7 H0 H CT C b cl tb nl rl tl dl cols ns rs ts us rv tv dv) (s : Same H0 H') (L : Lsts H H') (hb : Bag H' b) (k : ∀ a ∈ [cl, nl, rl, tl, dl], ∀ o, H a = some o → H' a = some o) : S7 H0 H' CT C b cl tb nl rl tl dl cols ns rs ts us rv tv dv :=
  ⟨s, h.fr, h.nd, hb, k _ (by simp) _ h.hc, h.hT.lsts L, k _ (by simp) _ h.hn, h.n30, k _ (by simp) _ h.hr, h.hR.mono fun _ _ q => q.lsts L, h.rm, k _ (by simp) _ h.ht, h.hA.mono fun _ _ q => q.lsts L, h.tk, k _ (by simp) _ h.hd, h.hD.mono fun _ _ q => q.lsts L⟩
theorem S7.same (h : S7 H0 H CT C b cl tb nl rl tl dl cols ns rs ts us rv tv dv) (s : Same H H') : S7 H0 H' CT C b cl tb nl rl tl dl cols ns rs ts us rv tv dv :=
  h.mv (h.S.trans s) (.same s) (h.hb.same s) fun _ _ _ e => s _ _ e
theorem S7.nb (h : S7 H0 H CT C b cl tb nl rl tl dl cols ns rs ts us rv tv dv) : ∀ a ∈ [cl, nl, rl, tl, dl], a ≠ b := fun a ha e => by
  have := h.nd
  rw [List.nodup_cons] at this
  exact this.1 (e ▸ ha)
theorem S7.but (h : S7 H0 H CT C b cl tb nl rl tl dl cols ns rs ts us rv tv dv) (s : But b H H') (hb : Bag H' b) : S7 H0 H' CT C b cl tb nl rl tl dl cols ns rs ts us rv tv dv :=
  h.mv (s.to_same h.S (h.fr b (by simp))) (Lsts.but h.hb s) hb fun a ha o e => s _ _ (h.nb a ha) e
theorem S7.num (h : S7 H0 H CT C b cl tb nl rl tl dl cols ns rs ts us rv tv dv) {n : Int} (hn : Num30 n) : S7 H0 (upd H nl (.lst (ns.map V.int ++ [.int n]))) CT C b cl tb nl rl tl dl cols (ns ++ [n]) rs ts us rv tv dv := by
  have L : Lsts H (upd H nl (.lst (ns.map V.int ++ [.int n]))) := Lsts.put h.hn
  have e : ∀ a, a ≠ nl → ∀ {o}, H a = some o → upd H nl (.lst (ns.map V.int ++ [.int n])) a = some o := fun a n _ q => by rw [upd_ne n]; exact q
  exact ⟨put_same h.S (h.fr _ (by simp)), h.fr, h.nd, h.hb.put (nd_ne h.nd 0 2), e _ (nd_ne h.nd 1 2) h.hc, h.hT.lsts L, by rw [upd_same, List.map_append]; rfl, fun x hx => (List.mem_append.mp hx).elim (h.n30 x) fun e => List.mem_singleton.mp e ▸ hn,
    e _ (nd_ne h.nd 3 2) h.hr, h.hR.mono fun _ _ q => q.lsts L, h.rm, e _ (nd_ne h.nd 4 2) h.ht, h.hA.mono fun _ _ q => q.lsts L, h.tk, e _ (nd_ne h.nd 5 2) h.hd, h.hD.mono fun _ _ q => q.lsts L⟩
theorem S7.row (h : S7 H0 H CT C b cl tb nl rl tl dl cols ns rs ts us rv tv dv) {t : Addr} {r : List Int} (ht : H t = some (.tup (r.map V.int))) (hr : r.length = cols.length) : S7 H0 (upd H rl (.lst (rv ++ [.ref t]))) CT C b cl tb nl rl tl dl cols ns (rs ++ [r]) ts us (rv ++ [.ref t]) tv dv := by
  have L : Lsts H (upd H rl (.lst (rv ++ [.ref t]))) := Lsts.put h.hr
  have e : ∀ a, a ≠ rl → ∀ {o}, H a = some o → upd H rl (.lst (rv ++ [.ref t])) a = some o := fun a n _ q => by rw [upd_ne n]; exact q
  exact ⟨put_same h.S (h.fr _ (by simp)), h.fr, h.nd, h.hb.put (nd_ne h.nd 0 3), e _ (nd_ne h.nd 1 3) h.hc, h.hT.lsts L, e _ (nd_ne h.nd 2 3) h.hn, h.n30, upd_same, (h.hR.mono fun _ _ q => q.lsts L).snoc ⟨t, rfl, L _ _ ht nofun⟩,
    fun x hx => (List.mem_append.mp hx).elim (h.rm x) fun e => List.mem_singleton.mp e ▸ hr, e _ (nd_ne h.nd 4 3) h.ht, h.hA.mono fun _ _ q => q.lsts L, h.tk, e _ (nd_ne h.nd 5 3) h.hd, h.hD.mono fun _ _ q => q.lsts L⟩
theorem S7.tree (h : S7 H0 H CT C b cl tb nl rl tl dl cols ns rs ts us rv tv dv) {t : LT} {v : V} (ht : LtAt H t v) (hk : LtOk cols.length t ∧ dpt t ≤ 4) : S7 H0 (upd H tl (.lst (tv ++ [v]))) CT C b cl tb nl rl tl dl cols ns rs (ts ++ [t]) us rv (tv ++ [v]) dv := by
  have L : Lsts H (upd H tl (.lst (tv ++ [v]))) := Lsts.put h.ht
  have e : ∀ a, a ≠ tl → ∀ {o}, H a = some o → upd H tl (.lst (tv ++ [v])) a = some o := fun a n _ q => by rw [upd_ne n]; exact q
  exact ⟨put_same h.S (h.fr _ (by simp)), h.fr, h.nd, h.hb.put (nd_ne h.nd 0 4), e _ (nd_ne h.nd 1 4) h.hc, h.hT.lsts L, e _ (nd_ne h.nd 2 4) h.hn, h.n30, e _ (nd_ne h.nd 3 4) h.hr, h.hR.mono fun _ _ q => q.lsts L, h.rm, upd_same, (h.hA.mono fun _ _ q => q.lsts L).snoc (ht.lsts L),
    fun x hx => (List.mem_append.mp hx).elim (h.tk x) fun e => List.mem_singleton.mp e ▸ hk, e _ (nd_ne h.nd 5 4) h.hd, h.hD.mono fun _ _ q => q.lsts L⟩
theorem S7.cond (h : S7 H0 H CT C b cl tb nl rl tl dl cols ns rs ts us rv tv dv) {t : LT} {v : V} (hc : CdAt H C tb cols.length t v) : S7 H0 (upd H dl (.lst (dv ++ [v]))) CT C b cl tb nl rl tl dl cols ns rs ts (us ++ [t]) rv tv (dv ++ [v]) := by
  have L : Lsts H (upd H dl (.lst (dv ++ [v]))) := Lsts.put h.hd
  have e : ∀ a, a ≠ dl → ∀ {o}, H a = some o → upd H dl (.lst (dv ++ [v])) a = some o := fun a n _ q => by rw [upd_ne n]; exact q
  exact ⟨put_same h.S (h.fr _ (by simp)), h.fr, h.nd, h.hb.put (nd_ne h.nd 0 5), e _ (nd_ne h.nd 1 5) h.hc, h.hT.lsts L, e _ (nd_ne h.nd 2 5) h.hn, h.n30, e _ (nd_ne h.nd 3 5) h.hr, h.hR.mono fun _ _ q => q.lsts L, h.rm, e _ (nd_ne h.nd 4 5) h.ht, h.hA.mono fun _ _ q => q.lsts L, h.tk, upd_same, (h.hD.mono fun _ _ q => q.lsts L).snoc (hc.lsts L)⟩
end
end Own

namespace Own
open PySem PySem.Spec PyProof.Rows L2
section
variable {prog : Program} {w : World} {A : Around} {E : Value → Shared → Prop} {s : Shared}
/-- bool(x), x what its own truth tells -/
theorem bool_by {x : Value} {Q : Value → Shared → Prop} (h : wpAny (model prog w) A.in1.in1 (truthy x) (fun b s' => Q (.bool b) s') E s) : wpAny (model prog w) A (call (.type "bool") [x]) Q E s := by
  refine callType_codes (Bi := Builtin.«object.__init__») (Q₁ := fun r s1 => ∃ b, r = .bool b ∧ Q r s1) F.called_bool (F.typeCall_bool_1 _) F.entry_object_init ?new ?next
  case next =>
    rintro obj s1 ⟨b, rfl, hq⟩
    refine ⟨PySem.typeIs_bool _ _, F.args_object_init_2 _ _, object_init_meets F.called_bool.init.lookup F.called_bool.made (by decide) prog w A.in1 _ s1 ⟨PySem.typeIs_bool _ _, rfl, hq⟩⟩
  case new =>
    refine codeAny_of_tree ?_
    show wpAny _ A.in1.in1 (checkBuiltinCall "bool.__new__" ⟨[.type "bool", x], []⟩ >>= fun _ => again (.builtin "bool.__new__" ⟨[.type "bool", x], []⟩)) _ _ s
    refine wpAny_bind (wpAny_of_eq (F.newCall_bool_1 x) (wpAny_pure ⟨plainId_quiet (by decide +kernel) _, codeAny_builtin F.entry_bool_new ?_⟩))
    rw [Around.under_plainId (by decide +kernel) _]
    unfold Builtin.«bool.__new__»
    have f1 := F.conv_sub_bool
    repeat (any_goals (first | assumption | wp_step))
    show wpAny _ _ (truthy x) _ _ _
    exact wpAny_mono h (fun b s' q => wpAny_pure (show wants (fun r s1 => ∃ b, r = Value.bool b ∧ Q r s1) E _ s' from ⟨b, rfl, q⟩)) fun _ _ y => y
end
section
variable {X : Cx} {n : Nat} {CX : CXT} {C f : Addr} {fd : FuncData} {ps : List Str} {sp : Sp} {E : XK}
/-- bool(x) by x's own __bool__ -/
def rBoolOwn (C : Addr) (sp : Sp) (E : XK) : List V → Hp → VK → Prop := fun xs H Q => ∃ a dx fs, xs = [.ref a] ∧ H a = some (.ins C dx fs) ∧ sp [.ref a] H (fun v H' => ∃ z : Bool, v = .bl z ∧ Q (.bl z) H') E
theorem call_bool_own (Fn : FnOk X.prog X.w X.K X.mg X.base CX n f fd ps sp) (hm : Meth X.K C "__bool__" f) (hb : Binds X.K fd ps []) (hx : Passes CX X E) (hr : Room (n + 2) X.A) : CallR X (.type "bool") (rBoolOwn C sp E) := by
  intro pins s σ H xs us Q I r h
  obtain ⟨a, dx, fs, rfl, ha, q⟩ := h
  obtain ⟨od, J⟩ := inst_at I ha
  obtain ⟨m, hF⟩ := I.fr
  match us, r with
  | [u], .cons ru .nil =>
    cases ru
    refine bool_by ?_
    refine PySem.W.truthy_K hF I.ok.mod.kin J hm.at_ hm.fn ?_
    refine thn (run_at (A := X.A.in1.in1) ⟨hr.in1.in1, rfl⟩ Fn hb hx I (show Vals [V.ref a] [Value.ref a] from .cons rfl .nil) q) fun v s1 ⟨z, H1, I1, rz, k, ez, q1⟩ => ?_
    subst ez
    cases rz
    exact ⟨.bl k, H1, I1, rfl, q1⟩
end
end Own

namespace K07
open PySem PySem.Spec PyProof.Rows L2 Own
def spLaw (K : PySem.W.Frag) : Sp := fun vs H Q _ => ∃ (a : Addr) (ns : List Int), vs = [.ref a] ∧ SqL K H a (ns.map V.int) ∧ ns.length ≤ 63 ∧ ∀ H', Q (.bl true) H'
section
variable {P : Program} {w : World} {K : PySem.W.Frag} {mg : Str → Option Value} {base : Heap} {f C : Addr} {fd : FuncData}
theorem sc_law : FnScope ["script", "at", "bag", "many", "columns", "table", "numbers", "rows", "trees", "conds", "turn", "tree", "row", "k", "due"] ["script"] (defScope s_law) := ⟨rfl, rfl, rfl, by decide +kernel, rfl, by decide +kernel, by decide +kernel⟩
theorem ok_law {CT fb ft fl fr f1 f2 f3 f4 fi fu fc fI fB fe pB gB : Addr} {fdb fdt fdl fdr e1 e2 e3 e4 fdi fdu fdc fdI fdB fde fdg : FuncData} (F : FnP K "law" s_law f fd) (T : Free mg) (TC : TxC K CT) (TD : TxD K C) (NT : NeAt K CT) (PB : PropOf K C "is_blank" pB gB) (CO : StX.CallO K C fc)
    (c_law_bag : Cal P w K mg base CX0 1 "_law_bag" fb fdb ["script", "at"] (spBag K)) (c_law_take : Cal P w K mg base CX0 1 "_law_take" ft fdt ["bag", "many"] spTake) (c_law_long : Cal P w K mg base CX0 2 "_law_long" fl fdl ["bag", "blocks"] spLongS)
    (c_law_row : Cal P w K mg base CX0 3 "_law_row" fr fdr ["bag", "many", "numbers"] spRow7) (c_law_tree : Cal P w K mg base CX0 7 "_law_tree" f1 e1 ["bag", "depth", "many", "numbers"] (spLTree 5)) (c_law_pieces : Cal P w K mg base CX0 6 "_law_pieces" f2 e2 ["bag", "tree", "columns", "outer"] (spPieces 5))
    (c_law_text : Cal P w K mg base CX0 2 "_law_text" f3 e3 ["bag", "pieces"] spText) (c_law_value : Cal P w K mg base CX0 6 "_law_value" f4 e4 ["tree", "row"] (spLVal 5))
    (c_Table : CalI P w K mg base CX0 3 "Table" CT fi fdi ["self", "columns"] (spTableF K CT)) (c_Cond : CalI P w K mg base CX0 6 "Cond" C fu fdu ["self", "text", "table"] (spCondR CT C))
    (c_Condcall : CalG P w K mg base CX0 4 fc fdc ["self", "row"] (spCondCall K C)) (c_Condcontains : CalM P w K mg base CX0 5 C "__contains__" fI fdI ["self", "thing"] (spCondIn CT C)) (c_Condbool : CalM P w K mg base CX0 1 C "__bool__" fB fdB ["self"] (spCondBool C)) (c_isblank : CalG P w K mg base CX0 1 gB fdg ["self"] (spCondBlank C))
    (c_Tableeq : CalM P w K mg base CX0 1 CT "__eq__" fe fde ["self", "other"] (spEqF CT)) : FnOk P w K mg base CX0 8 f fd ["script"] (spLaw K) := by
  refine F.ok sc_law (fun vs H Q E h => ?_) (fun cdv A outer s H vs Q E hr h => ?_)
  · obtain ⟨a, ns, rfl, _⟩ := h
    rfl
  · obtain ⟨a, ns, rfl, hS, hlen, k⟩ := h
    refine ⟨_, PSs.nox (pss_cons (ps_for PassesOwn.never rfl (pi_range1 (by rfl) T.range (pa_cons (pe_callB (call_max2 rfl) (by rfl) T.max boot_max (pa_cons pe_int (pa_cons (pe_callB (call_min2 rfl) (by rfl) T.min boot_min (pa_cons pe_int (pa_cons (pe_callB call_len_seq (by rfl) T.len boot_len (pa_cons (pv 0) pa_nil)) pa_nil))) pa_nil))) pa_nil)) (pg_name (i := 1) sc_law.nd rfl (Or.inl rfl))
 (pss_cons (ps_set (i := 2) sc_law.nd rfl (Or.inl rfl) (pe_cal c_law_bag (hr.mono (by decide)) (pa_cons (pv 0) (pa_cons (pv 1) pa_nil))))
 (pss_cons (ps_set (i := 3) sc_law.nd rfl (Or.inl rfl) (pe_op op_add pe_int (pe_cal c_law_take (hr.mono (by decide)) (pa_cons (pv 2) (pa_cons pe_int pa_nil)))))
 (pss_cons (ps_set (i := 4) sc_law.nd rfl (Or.inl rfl) (pe_slice sl_list (pe_lst (pa_cons pe_str (pa_cons pe_str (pa_cons pe_str pa_nil)))) po_none (po_some (pv 3))))
 (pss_cons (ps_asg (pe_tup (pa_cons (pe_mkr c_Table (hr.mono (by decide)) (pa_cons (pv 4) pa_nil)) (pa_cons (pe_lst pa_nil) (pa_cons (pe_lst pa_nil) (pa_cons (pe_lst pa_nil) (pa_cons (pe_lst pa_nil) pa_nil)))))) (pg_tup rfl (pgs_cons (pg_name (i := 5) sc_law.nd rfl (Or.inl rfl)) (pgs_cons (pg_name (i := 6) sc_law.nd rfl (Or.inl rfl)) (pgs_cons (pg_name (i := 7) sc_law.nd rfl (Or.inl rfl)) (pgs_cons (pg_name (i := 8) sc_law.nd rfl (Or.inl rfl)) (pgs_cons (pg_name (i := 9) sc_law.nd rfl (Or.inl rfl)) pgs_nil)))))))
 (pss_cons (ps_for PassesOwn.never rfl (pi_range1 (by rfl) T.range (pa_cons pe_int pa_nil)) (pg_name (i := 10) sc_law.nd rfl (Or.inl rfl))
 (pss_one (ps_expr (pe_bm PySem.F.plainAttrs_list PySem.F.slot_list_append PySem.F.type_list_append mt_append (pv 6) (pa_cons (pe_cal c_law_long (hr.mono (by decide)) (pa_cons (pv 2) (pa_cons pe_int pa_nil))) pa_nil)))))
 (pss_cons (ps_for PassesOwn.never rfl (pi_range1 (by rfl) T.range (pa_cons pe_int pa_nil)) (pg_name (i := 10) sc_law.nd rfl (Or.inl rfl))
 (pss_one (ps_expr (pe_bm PySem.F.plainAttrs_list PySem.F.slot_list_append PySem.F.type_list_append mt_append (pv 7) (pa_cons (pe_cal c_law_row (hr.mono (by decide)) (pa_cons (pv 2) (pa_cons (pv 3) (pa_cons (pv 6) pa_nil)))) pa_nil)))))
 (pss_cons (ps_for PassesOwn.never rfl (pi_range1 (by rfl) T.range (pa_cons pe_int pa_nil)) (pg_name (i := 10) sc_law.nd rfl (Or.inl rfl))
 (pss_cons (ps_set (i := 11) sc_law.nd rfl (Or.inl rfl) (pe_cal c_law_tree (hr.mono (by decide)) (pa_cons (pv 2) (pa_cons pe_int (pa_cons (pv 3) (pa_cons (pv 6) pa_nil))))))
 (pss_cons (ps_expr (pe_bm PySem.F.plainAttrs_list PySem.F.slot_list_append PySem.F.type_list_append mt_append (pv 8) (pa_cons (pv 11) pa_nil)))
 (pss_one (ps_expr (pe_bm PySem.F.plainAttrs_list PySem.F.slot_list_append PySem.F.type_list_append mt_append (pv 9) (pa_cons (pe_mkr c_Cond (hr.mono (by decide)) (pa_cons (pe_cal c_law_text (hr.mono (by decide)) (pa_cons (pv 2) (pa_cons (pe_cal c_law_pieces (hr.mono (by decide)) (pa_cons (pv 2) (pa_cons (pv 11) (pa_cons (pv 4) (pa_cons pe_str pa_nil))))) pa_nil))) (pa_cons (pv 5) pa_nil))) pa_nil)))))))
 (pss_cons (ps_for PassesOwn.never rfl (pi_list (pv 7)) (pg_name (i := 12) sc_law.nd rfl (Or.inl rfl))
 (pss_one (ps_for PassesOwn.never rfl (pi_range1 (by rfl) T.range (pa_cons pe_int pa_nil)) (pg_name (i := 13) sc_law.nd rfl (Or.inl rfl))
 (pss_cons (ps_set (i := 14) sc_law.nd rfl (Or.inl rfl) (pe_cal c_law_value (hr.mono (by decide)) (pa_cons (pe_ix ix_list (pv 8) (pv 13) (fun _ _ => rfl)) (pa_cons (pv 12) pa_nil))))
 (pss_cons (ps_if (PW.pt (pw_or (pt_cmpR op_ne (pe_callB call_repr_v3 (by rfl) T.repr boot_repr (pa_cons (show PE _ _ (tCallC C (spCondCall K C) _ _) from pe_callC (pe_ix ix_list (pv 9) (pv 13) (fun _ _ => rfl)) CO c_Condcall (hr.mono (by decide)) (pa_cons (pv 12) pa_nil)) pa_nil)) (pe_callB call_repr_v3 (by rfl) T.repr boot_repr (pa_cons (pv 14) pa_nil)) (nomark _)) (pw_or1 (pt_cmpR op_ne (pe_cmpR (op_in_cal c_Condcontains (hr.mono (by decide))) (pv 12) (pe_ix ix_list (pv 9) (pv 13) (fun _ _ => rfl)) (by rfl)) (pe_cmpR op_notF (pv 14) pe_bl (nomark _)) (nomark _)))))
 (pss_one (ps_ret pe_bl))
 pss_nil)
 (pss_one (ps_if (PW.pt (pw_or (pt_cmpR op_ne (pe_callTy (call_bool_own c_Condbool.ok c_Condbool.mt c_Condbool.b pass0 (hr.mono (by decide))) (by rfl) T.bool boot_bool (pa_cons (pe_ix ix_list (pv 9) (pv 13) (fun _ _ => rfl)) pa_nil)) (pe_cmpR op_notN (pv 14) pe_non (nomark _)) (nomark _)) (pw_or1 (pt_cmpR op_ne (pe_propG (pe_ix ix_list (pv 9) (pv 13) (fun _ _ => rfl)) TD.cl PB c_isblank (hr.mono (by decide))) (pe_cmpR op_isN (pv 14) pe_non (nomark _)) (nomark _)))))
 (pss_one (ps_ret pe_bl))
 pss_nil)))))))
 (pss_one (ps_if (PW.pt (pw_or (pt_not (pt_cmpR (op_eq_cal c_Tableeq (hr.mono (by decide))) (pe_fld (pe_ix ix_list (pv 9) pe_int (fun _ _ => rfl)) rfl) (pv 5) (nomark _))) (pw_or1 (pt_cmpR (op_neD (hu_of' hr)) (pe_fld (pe_fld (pe_ix ix_list (pv 9) pe_int (fun _ _ => rfl)) rfl) rfl) (pe_callTy call_tuple_of (by rfl) T.tuple boot_tuple (pa_cons (pv 4) pa_nil)) (nomark _)))))
 (pss_one (ps_ret pe_bl))
 pss_nil)))))))))))
 (pss_one (ps_ret pe_bl))), ?_⟩
    have hj : ∀ j : Int, j = (if (if ((ns.map V.int).length : Int) < 5 then ((ns.map V.int).length : Int) else 5) > 1 then (if ((ns.map V.int).length : Int) < 5 then ((ns.map V.int).length : Int) else 5) else 1) → 0 ≤ j ∧ j ≤ 5 := by
      intro j e
      subst e
      split <;> split <;> omega
    have hj := hj _ rfl
    refine ⟨_, rfl, a, _, rfl, .inl hS, _, _, rfl, _, _, rfl, _, rfl, by omega, by omega, ?_⟩
    refine for_range (fun i σ H' => ∃ t1 t2 t3 t4 t5 t6 t7 t8 t9 t10 t11 t12 t13 t14, σ = [some (.ref a), t1, t2, t3, t4, t5, t6, t7, t8, t9, t10, t11, t12, t13, t14] ∧ Same H H') ⟨none, none, none, none, none, none, none, none, none, none, none, none, none, none, rfl, Same.refl _⟩ ?_ ?_
    · rintro i σ H1 hi ⟨t1, t2, t3, t4, t5, t6, t7, t8, t9, t10, t11, t12, t13, t14, rfl, S1⟩
      refine ⟨_, rfl, _, rfl, a, ns, i, (by rw [Int.zero_add]; rfl), S1.seq hS, hlen, by omega, fun b H2 S2 nb1 hb2 => ?_⟩
      have nb : H b = none := S1.free nb1
      refine ⟨_, rfl, b, _, rfl, hb2, by decide, by decide, fun d H3 d0 d1 B3 hb3 => ?_⟩
      obtain ⟨m, em, hm1, hm3⟩ : ∃ m : Nat, 1 + d = (m : Int) ∧ 1 ≤ m ∧ m ≤ 3 := ⟨(1 + d).toNat, by omega, by omega, by omega⟩
      have S4 : Same H H3 := B3.to_same (S1.trans S2) nb
      refine ⟨_, _, rfl, rfl, (by show 3 ≤ sizeLine; decide), fun l nl => ?_⟩
      have s5 := same_newH (o := .lst (col7.map V.str)) nl
      have hl : upd H3 l (.lst (col7.map V.str)) l = some (.lst (col7.map V.str)) := upd_same
      have hb5 := hb3.same s5
      have S5 := S4.trans s5
      change upd H3 l (.lst [V.str "id", V.str "owner", V.str "blanks"]) l = _ at hl
      change Bag (upd H3 l (.lst [V.str "id", V.str "owner", V.str "blanks"])) b at hb5
      change Same H (upd H3 l (.lst [V.str "id", V.str "owner", V.str "blanks"])) at S5
      clear s5
      generalize upd H3 l (.lst [V.str "id", V.str "owner", V.str "blanks"]) = H5 at *
      refine ⟨_, rfl, _, rfl, l, _, rfl, SqL.of hl, fun l2 nl2 => ?_⟩
      rw [em, cutS_take]
      obtain ⟨ck, lo, hcl, hstr⟩ := col7_ok hm1 hm3
      generalize col7.take m = cols at *
      have s6 := same_newH (o := .lst (cols.map V.str)) nl2
      have hb6 := hb5.same s6
      have nl2b : l2 ≠ b := (hb5.ne nl2).symm
      have hl6 : upd H5 l2 (.lst (cols.map V.str)) l2 = some (.lst (cols.map V.str)) := upd_same
      have S6 := S5.trans s6
      generalize upd H5 l2 (.lst (cols.map V.str)) = H6 at *
      have bl2 : b ≠ l2 := nl2b.symm
      clear hl hb5 S5 hb3 S4 B3 hb2 S2
      refine ⟨_, rfl, fun x dx nx ndx nxd => ?_⟩
      have hlx : upd (upd H6 dx (.own x)) x (.ins CT dx []) l2 = some (.lst (cols.map V.str)) := by
        rw [upd_ne (ne_of_none hl6 nx), upd_ne (ne_of_none hl6 ndx)]
        exact hl6
      refine ⟨x, l2, dx, cols, rfl, upd_same, SqL.of hlx, by omega, ck.ln, ck.due, fun Ha Ba hT => ⟨rfl, ?_⟩⟩
      have sa := made_same nx ndx Ba
      have hla := sa _ _ hl6
      have hba := hb6.same sa
      have Sa := S6.trans sa
      clear Ba hlx sa hl6 hb6 S6
      refine ⟨Nat.zero_le _, fun n1 f1 => ?_⟩
      have s1 := same_newH (o := .lst []) f1
      have u1 : upd Ha n1 (.lst []) n1 = some (.lst []) := upd_same
      have hlb := s1 _ _ hla
      have hbb := hba.same s1
      have hTb := hT.lsts (.same s1)
      have Sb := Sa.trans s1
      have fr1 := Sa.free f1
      have b1 := hba.ne f1
      have c1 := ne_of_none hla f1
      clear s1 hla hba hT Sa
      generalize upd Ha n1 (.lst []) = Hb at *
      refine ⟨Nat.zero_le _, fun n2 f2 => ?_⟩
      have s1 := same_newH (o := .lst []) f2
      have u2 : upd Hb n2 (.lst []) n2 = some (.lst []) := upd_same
      have hlc := s1 _ _ hlb
      have hbc := hbb.same s1
      have hTc := hTb.lsts (.same s1)
      have Sc := Sb.trans s1
      have fr2 := Sb.free f2
      have b2 := hbb.ne f2
      have c2 := ne_of_none hlb f2
      have d12 := ne_of_none u1 f2
      have u1 := s1 _ _ u1
      clear s1 hlb hbb hTb Sb
      generalize upd Hb n2 (.lst []) = Hc at *
      refine ⟨Nat.zero_le _, fun n3 f3 => ?_⟩
      have s1 := same_newH (o := .lst []) f3
      have u3 : upd Hc n3 (.lst []) n3 = some (.lst []) := upd_same
      have hld := s1 _ _ hlc
      have hbd := hbc.same s1
      have hTd := hTc.lsts (.same s1)
      have Sd := Sc.trans s1
      have fr3 := Sc.free f3
      have b3 := hbc.ne f3
      have c3 := ne_of_none hlc f3
      have d13 := ne_of_none u1 f3
      have d23 := ne_of_none u2 f3
      have u1 := s1 _ _ u1
      have u2 := s1 _ _ u2
      clear s1 hlc hbc hTc Sc
      generalize upd Hc n3 (.lst []) = Hd at *
      refine ⟨Nat.zero_le _, fun n4 f4 => ?_⟩
      have s1 := same_newH (o := .lst []) f4
      have u4 : upd Hd n4 (.lst []) n4 = some (.lst []) := upd_same
      have W : S7 H (upd Hd n4 (.lst [])) CT C b l2 x n1 n2 n3 n4 cols [] [] [] [] [] [] [] := by
        refine ⟨Sd.trans s1, ?_, ?_, hbd.same s1, s1 _ _ hld, hTd.lsts (.same s1), s1 _ _ u1, nofun, s1 _ _ u2, Al.nil, nofun, s1 _ _ u3, Al.nil, nofun, u4, Al.nil⟩
        · intro y hy
          simp only [List.mem_cons, List.not_mem_nil, or_false] at hy
          rcases hy with rfl | rfl | rfl | rfl | rfl
          · exact nb
          · exact fr1
          · exact fr2
          · exact fr3
          · exact Sd.free f4
        · have b4 := hbd.ne f4
          have c4 := ne_of_none hld f4
          have d14 := ne_of_none u1 f4
          have d24 := ne_of_none u2 f4
          have d34 := ne_of_none u3 f4
          simp only [List.nodup_cons, List.mem_cons, List.not_mem_nil, or_false, not_or, List.nodup_nil, and_true, not_false_eq_true]
          exact ⟨⟨bl2, b1, b2, b3, b4⟩, ⟨c1, c2, c3, c4⟩, ⟨d12, d13, d14⟩, ⟨d23, d24⟩, d34⟩
      clear s1 hld hbd hTd Sd u1 u2 u3 u4 f4 fr1 fr2 fr3 b1 b2 b3 c1 c2 c3 d12 d13 d23 f1 f2 f3
      generalize upd Hd n4 (.lst []) = G at *
      refine ⟨(by show 5 ≤ sizeLine; decide), fun tt ft => ?_⟩
      have st := same_newH (o := .tup [V.ref x, V.ref n1, V.ref n2, V.ref n3, V.ref n4]) ft
      have ht : upd G tt (.tup [V.ref x, V.ref n1, V.ref n2, V.ref n3, V.ref n4]) tt = some (.tup [V.ref x, V.ref n1, V.ref n2, V.ref n3, V.ref n4]) := upd_same
      have W := W.same st
      clear st
      generalize upd G tt (.tup [V.ref x, V.ref n1, V.ref n2, V.ref n3, V.ref n4]) = G1 at *
      refine ⟨tt, _, rfl, .inl (.inl ht), rfl, _, _, rfl, _, _, rfl, _, _, rfl, _, _, rfl, _, _, rfl, rfl, ?_⟩
      clear ht
      refine ⟨_, rfl, by decide, by decide, ?_⟩
      refine for_range (fun j σ H' => ∃ (t10 : Option V) (ns' : List Int), σ = [some (.ref a), some (.int (0 + (i : Int))), some (.ref b), some (.int (m : Nat)), some (.ref l2), some (.ref x), some (.ref n1), some (.ref n2), some (.ref n3), some (.ref n4), t10, t11, t12, t13, t14] ∧ S7 H H' CT C b l2 x n1 n2 n3 n4 cols ns' [] [] [] [] [] [] ∧ ns'.length = j) ⟨_, [], by rw [← em]; rfl, W, rfl⟩ ?_ ?_
      · rintro j σ G2 hj ⟨t10, ns', rfl, W, hn⟩
        have hj3 : j < 3 := hj
        refine ⟨_, rfl, .inl ⟨rfl, _, SqL.of W.hn⟩, ?_⟩
        refine ⟨_, rfl, b, _, rfl, W.hb, by decide, by decide, fun n G3 hn' B3 hb3 => ?_⟩
        have W3 := W.but B3 hb3
        exact ⟨n1, _, _, rfl, rfl, W3.hn, small1000 (by rw [List.length_map]; omega), _, ns' ++ [n], rfl, W3.num (num30 hn'), by rw [List.length_append, hn]; rfl⟩
      rintro σ G2 ⟨t10, ns', rfl, W, hn⟩
      have hn : ns'.length = 3 := hn
      have hne : ns' ≠ [] := fun e => by rw [e] at hn; cases hn
      refine ⟨_, rfl, by decide, by decide, ?_⟩
      refine for_range (fun j σ H' => ∃ (t10 : Option V) (rs : List (List Int)) (rv : List V), σ = [some (.ref a), some (.int (0 + (i : Int))), some (.ref b), some (.int (m : Nat)), some (.ref l2), some (.ref x), some (.ref n1), some (.ref n2), some (.ref n3), some (.ref n4), t10, t11, t12, t13, t14] ∧ S7 H H' CT C b l2 x n1 n2 n3 n4 cols ns' rs [] [] rv [] [] ∧ rs.length = j) ⟨_, [], [], rfl, W, rfl⟩ ?_ ?_
      · rintro j σ G3 hj ⟨t10, rs, rv, rfl, W, hrl⟩
        have hj4 : j < 4 := hj
        refine ⟨_, rfl, .inl ⟨rfl, _, SqL.of W.hr⟩, ?_⟩
        refine ⟨_, rfl, _, rfl, _, rfl, b, n1, m, ns', rfl, W.hb, W.nb _ (by simp), W.hn, hne, by omega, hm1, hm3, fun t r G4 hrm B4 hb4 ht => ?_⟩
        have W4 := W.but B4 hb4
        have hvl := W.hR.1
        exact ⟨n2, _, _, rfl, rfl, W4.hr, small1000 (by omega), _, rs ++ [r], _, rfl, W4.row ht (by omega), by rw [List.length_append, hrl]; rfl⟩
      rintro σ G3 ⟨t10, rs, rv, rfl, W, hrl⟩
      have hrl : rs.length = 4 := hrl
      refine ⟨_, rfl, by decide, by decide, ?_⟩
      refine for_range (fun j σ H' => ∃ (t10 t11 : Option V) (ts : List LT) (tv dv : List V), σ = [some (.ref a), some (.int (0 + (i : Int))), some (.ref b), some (.int (m : Nat)), some (.ref l2), some (.ref x), some (.ref n1), some (.ref n2), some (.ref n3), some (.ref n4), t10, t11, t12, t13, t14] ∧ S7 H H' CT C b l2 x n1 n2 n3 n4 cols ns' rs ts ts rv tv dv ∧ ts.length = j) ⟨_, _, [], [], [], rfl, W, rfl⟩ ?_ ?_
      · rintro j σ G4 hj ⟨t10, t11, ts, tv, dv, rfl, W, htl⟩
        have hj2 : j < 2 := hj
        refine ⟨_, rfl, _, rfl, _, rfl, b, n1, 4, m, ns', rfl, rfl, W.hb, W.nb _ (by simp), W.hn, hne, by omega, W.n30, hm1, hm3, fun v t G5 ok dp B5 hb5 at5 => ?_⟩
        have W5 := W.but B5 hb5
        have hvl := W.hA.1
        have hdl := W.hD.1
        rw [← hcl] at ok
        refine ⟨_, rfl, .inl ⟨rfl, _, SqL.of W5.ht⟩, _, rfl, n3, _, _, rfl, rfl, W5.ht, small1000 (by omega), ?_⟩
        have at6 := at5.lsts (Lsts.put (o := .lst (tv ++ [v])) W5.ht)
        have W6 := W5.tree at5 ⟨ok, dp⟩
        clear W5 at5 W
        generalize upd G5 n3 (.lst (tv ++ [v])) = G6 at *
        refine ⟨_, rfl, .inl ⟨rfl, _, SqL.of W6.hd⟩, ?_⟩
        refine ⟨_, rfl, _, rfl, _, rfl, _, rfl, b, l2, v, t, cols, "", rfl, W6.hb, W6.nb _ (by simp), W6.hc, ck, at6, ok, dp, dp, by decide, fun pl xx G7 pc B7 hb7 plb hpl => ?_⟩
        have W7 := W6.but B7 hb7
        have hln : (wordsX xx).length ≤ 128 := by
          have h1 := pc.ln
          have h2 : 2 ^ dpt t ≤ 2 ^ 4 := Nat.pow_le_pow_right (by decide) dp
          omega
        refine ⟨b, pl, _, rfl, hb7, plb, hpl, by omega, gl_len lo pc.gl, fun z G8 g hz B8 hb8 => ?_⟩
        have W8 := W7.but B8 hb8
        refine ⟨_, rfl, mk_condF W8.hT ck (gl_words lo pc.gl g) (by omega) pc.wf fun q G9 s9 nq cq => ?_⟩
        have W9 := W8.same s9
        have cd : CdAt G9 C x cols.length t (.ref q) := ⟨q, _, _, rfl, cq, fun u e => by
          have h := treeX_wf pc.wf u e
          exact ⟨by omega, h.1⟩, pc.va⟩
        exact ⟨n4, _, _, rfl, rfl, W9.hd, small1000 (by omega), _, _, ts ++ [t], _, _, rfl, W9.cond cd, by rw [List.length_append, htl]; rfl⟩
      rintro σ G4 ⟨t10, t11, ts, tv, dv, rfl, W, htl⟩
      have htl : ts.length = 2 := htl
      have hvl := W.hA.1
      have hdl := W.hD.1
      have get : ∀ j < 2, ∃ t v p o ws, ts[j]? = some t ∧ tv[j]? = some v ∧ dv[j]? = some (.ref p) ∧ LtAt G4 t v ∧ CondAt G4 C p x o ws ∧ OTrWf cols.length o ∧ (∀ r, ov r o = lval r t) ∧ LtOk cols.length t ∧ dpt t ≤ 4 := fun j hj => by
        obtain ⟨v, hv⟩ : ∃ v, tv[j]? = some v := ⟨_, List.getElem?_eq_getElem (by omega)⟩
        obtain ⟨c, hc⟩ : ∃ v, dv[j]? = some v := ⟨_, List.getElem?_eq_getElem (by omega)⟩
        obtain ⟨t, h1, h2⟩ := W.hA.get hv
        obtain ⟨t', h3, p, o, ws, rfl, h4, h5, h6⟩ := W.hD.get hc
        rw [h1] at h3
        cases h3
        exact ⟨t, v, p, o, ws, h1, hv, hc, h2, h4, h5, h6, (W.tk t (List.mem_of_getElem? h1)).1, (W.tk t (List.mem_of_getElem? h1)).2⟩
      refine ⟨_, rfl, n2, rfl, ⟨_, SqL.of W.hr⟩, ?_⟩
      refine for_list (xs := rv) (fun j σ H' => ∃ (t12 t13 t14 : Option V), σ = [some (.ref a), some (.int (0 + (i : Int))), some (.ref b), some (.int (m : Nat)), some (.ref l2), some (.ref x), some (.ref n1), some (.ref n2), some (.ref n3), some (.ref n4), t10, t11, t12, t13, t14] ∧ Same G4 H') ⟨_, _, _, rfl, Same.refl _⟩ (fun j σ H' _ ⟨_, _, _, _, S⟩ => SqL.of (S _ _ W.hr)) ?_ ?_
      · rintro y vr σ G5 hy ⟨t12, t13, t14, rfl, S5⟩
        obtain ⟨r, hrr, q, rfl, hq⟩ := W.hR.get hy
        have hrm := W.rm r (List.mem_of_getElem? hrr)
        refine ⟨_, rfl, by decide, by decide, ?_⟩
        refine for_range (fun j σ H' => ∃ (t13 t14 : Option V), σ = [some (.ref a), some (.int (0 + (i : Int))), some (.ref b), some (.int (m : Nat)), some (.ref l2), some (.ref x), some (.ref n1), some (.ref n2), some (.ref n3), some (.ref n4), t10, t11, some (.ref q), t13, t14] ∧ Same G4 H') ⟨_, _, rfl, S5⟩ ?_ ?_
        · rintro j σ G6 hj ⟨t13, t14, rfl, S6⟩
          have hj2 : j < 2 := hj
          obtain ⟨t, v, p, o, ws, h1, h2, h3, h4, h5, h6, h7, h8, h9⟩ := get j hj2
          have ez : (0 : Int) + (j : Int) = (j : Nat) := Int.zero_add _
          have at_ : atI tv (0 + (j : Int)) = some v := by rw [ez]; exact atI_nat h2
          have ac : atI dv (0 + (j : Int)) = some (.ref p) := by rw [ez]; exact atI_nat h3
          obtain ⟨dx, fs, ip⟩ : ∃ dx fs, G4 p = some (.ins C dx fs) := by
            obtain ⟨dx, tv', wv, e, _⟩ := h5
            exact ⟨dx, _, e⟩
          refine ⟨_, rfl, _, rfl, n3, _, _, _, rfl, rfl, SqL.of (S6 _ _ W.ht), at_, _, rfl, q, v, t, r, rfl, h4.lsts (.same S6), by rw [hrm]; exact h8, h9, S6 _ _ hq, fun G7 S7 => ?_⟩
          have T7 := S6.trans S7
          have W7 := W.same T7
          rw [← h7 r]
          refine ⟨_, rfl, _, rfl, n4, _, _, _, rfl, rfl, SqL.of W7.hd, ac, p, rfl, _, rfl, ⟨dx, fs, T7 _ _ ip⟩, p, q, x, o, ws, r, rfl, h5.lsts (.same T7), SqT.of (T7 _ _ hq), by rw [hrm]; exact h6, fun G8 S8 => ?_⟩
          have T8 := T7.trans S8
          have W8 := W.same T8
          rw [valV_ov]
          refine ⟨ov r o, rfl, _, rfl, ov r o, rfl, rfl, _, rfl, ?_⟩
          rw [decide_eq_true rfl]
          refine iteF ?_
          refine ⟨_, rfl, _, rfl, _, rfl, n4, _, _, _, rfl, rfl, SqL.of W8.hd, ac, p, dx, fs, rfl, T8 _ _ ip, row_in (h5.lsts (.same T8)) W8.hT (T8 _ _ hq) hrm (by omega) h6 fun G9 S9 => ⟨_, rfl, ?_⟩⟩
          have T9 := T8.trans S9
          have W9 := W.same T9
          refine ⟨_, rfl, ?_⟩
          dsimp only [tC]
          refine notF_v3 (x := ov r o) ?_
          refine ⟨rfl, _, rfl, ite_f ?_ ?_⟩
          · rw [takB_ov]
            simp
          have e1 : (!decide (v3 (ov r o) = V.non)) = o.isSome := by rw [v3_non]; cases o <;> rfl
          have e2 : decide (v3 (ov r o) = V.non) = o.isNone := by rw [v3_non]; cases o <;> rfl
          refine ⟨_, rfl, _, rfl, n4, _, _, _, rfl, rfl, SqL.of W9.hd, ac, p, dx, fs, rfl, T9 _ _ ip, p, x, o, ws, rfl, h5.lsts (.same T9), _, rfl, ?_⟩
          refine ⟨_, rfl, rfl, rfl, _, rfl, ?_⟩
          rw [e1, decide_eq_true rfl]
          refine iteF ?_
          refine ⟨_, rfl, _, rfl, n4, _, _, _, rfl, rfl, SqL.of W9.hd, ac, p, dx, fs, rfl, T9 _ _ ip, p, x, o, ws, rfl, h5.lsts (.same T9), ?_⟩
          refine ⟨_, rfl, rfl, rfl, _, rfl, ?_⟩
          rw [e2, decide_eq_true rfl]
          exact iteF ⟨_, _, rfl, T9⟩
        · rintro σ G6 ⟨t13, t14, rfl, S6⟩
          exact ⟨_, _, _, rfl, S6⟩
      · rintro σ G5 ⟨t12, t13, t14, rfl, S5⟩
        have W5 := W.same S5
        obtain ⟨t, v, p, o, ws, h1, h2, h3, h4, h5, h6, h7, h8, h9⟩ := get 0 (by decide)
        have ac : atI dv 0 = some (.ref p) := (show atI dv ((0 : Nat) : Int) = _ from atI_nat h3)
        obtain ⟨dx, tv', wv, ip, _⟩ := h5.lsts (.same S5)
        obtain ⟨dt, ct, itb, hct⟩ := id W5.hT
        refine ⟨_, rfl, n4, _, _, _, rfl, rfl, SqL.of W5.hd, ac, p, C, dx, _, _, rfl, ip, TD.cl, TD.nT, rfl, _, rfl, x, dt, _, .ref CT, rfl, itb, NT.ty itb, NT.self, x, .ref x, cols, rfl, W5.hT, hstr, .inl ⟨x, cols, rfl, W5.hT, hstr, _, rfl, ?_⟩⟩
        refine ⟨_, rfl, ?_⟩
        rw [decide_eq_true rfl]
        refine iteF ?_
        refine ⟨_, rfl, n4, _, _, _, rfl, rfl, SqL.of W5.hd, ac, p, C, dx, _, _, rfl, ip, TD.cl, TD.nT, rfl, x, CT, dt, _, _, rfl, itb, TC.cl, TC.nC, rfl, ?_⟩
        refine ⟨_, rfl, l2, _, rfl, .inl ⟨SqL.of W5.hc, fun u fu => ?_⟩⟩
        have s6 := same_newH (o := .tup (cols.map V.str)) fu
        have sh : SeqAt.shaped (.tuple (cols.map PyData.str)) = true := strs_shapedT (List.all_eq_true.mpr hstr)
        refine ⟨_, _, .tup (FzT.lsts (.same s6) hct).seq (dp_strs cols), .tup (SqT.of upd_same) (dp_strs cols), sh, sh, _, rfl, ?_⟩
        rw [eqv_tups, decide_eq_true rfl]
        exact iteF ⟨_, _, _, _, _, _, _, _, _, _, _, _, _, _, rfl, W5.S.trans s6⟩
    · rintro σ H1 ⟨t1, t2, t3, t4, t5, t6, t7, t8, t9, t10, t11, t12, t13, t14, rfl, S1⟩
      exact k H1
end
end K07

namespace K07
open PySem PySem.Spec PyProof.Rows L2 Own
def d_is_word : He.DefD := ⟨("is_word", none), "is_word", "is_word", defArgs s_is_word, defBody s_is_word, defScope s_is_word, [], []⟩
def d_first_bad : He.DefD := ⟨("first_bad", none), "first_bad", "first_bad", defArgs s_first_bad, defBody s_first_bad, defScope s_first_bad, [], []⟩
def d_Tableinit : He.DefD := ⟨("Table", some "__init__"), "__init__", "Table.__init__", defArgs s_Tableinit, defBody s_Tableinit, defScope s_Tableinit, [], []⟩
def d_copied : He.DefD := ⟨("copied", none), "copied", "copied", defArgs s_copied, defBody s_copied, defScope s_copied, [], []⟩
def d_BadConditioninit : He.DefD := ⟨("BadCondition", some "__init__"), "__init__", "BadCondition.__init__", defArgs s_BadConditioninit, defBody s_BadConditioninit, defScope s_BadConditioninit, [], []⟩
def d_run_end : He.DefD := ⟨("run_end", none), "run_end", "run_end", defArgs s_run_end, defBody s_run_end, defScope s_run_end, [], []⟩
def d_token_end : He.DefD := ⟨("token_end", none), "token_end", "token_end", defArgs s_token_end, defBody s_token_end, defScope s_token_end, [], []⟩
def d_tokens : He.DefD := ⟨("tokens", none), "tokens", "tokens", defArgs s_tokens, defBody s_tokens, defScope s_tokens, [], []⟩
def d_is_number : He.DefD := ⟨("is_number", none), "is_number", "is_number", defArgs s_is_number, defBody s_is_number, defScope s_is_number, [], []⟩
def d_after_atom_begins : He.DefD := ⟨("after_atom_begins", none), "after_atom_begins", "after_atom_begins", defArgs s_after_atom_begins, defBody s_after_atom_begins, defScope s_after_atom_begins, [], []⟩
def d_after_column : He.DefD := ⟨("after_column", none), "after_column", "after_column", defArgs s_after_column, defBody s_after_column, defScope s_after_column, [], []⟩
def d_after_atom_ends : He.DefD := ⟨("after_atom_ends", none), "after_atom_ends", "after_atom_ends", defArgs s_after_atom_ends, defBody s_after_atom_ends, defScope s_after_atom_ends, [], []⟩
def d_after : He.DefD := ⟨("after", none), "after", "after", defArgs s_after, defBody s_after, defScope s_after, [], []⟩
def d_wrong_place : He.DefD := ⟨("wrong_place", none), "wrong_place", "wrong_place", defArgs s_wrong_place, defBody s_wrong_place, defScope s_wrong_place, [], []⟩
def d_condition_words : He.DefD := ⟨("condition_words", none), "condition_words", "condition_words", defArgs s_condition_words, defBody s_condition_words, defScope s_condition_words, [], []⟩
def d_test_of : He.DefD := ⟨("test_of", none), "test_of", "test_of", defArgs s_test_of, defBody s_test_of, defScope s_test_of, [], []⟩
def d_joined : He.DefD := ⟨("joined", none), "joined", "joined", defArgs s_joined, defBody s_joined, defScope s_joined, [], []⟩
def d_negated : He.DefD := ⟨("negated", none), "negated", "negated", defArgs s_negated, defBody s_negated, defScope s_negated, [], []⟩
def d_with_signs_behind : He.DefD := ⟨("with_signs_behind", none), "with_signs_behind", "with_signs_behind", defArgs s_with_signs_behind, defBody s_with_signs_behind, defScope s_with_signs_behind, [], []⟩
def d_tree_of : He.DefD := ⟨("tree_of", none), "tree_of", "tree_of", defArgs s_tree_of, defBody s_tree_of, defScope s_tree_of, [], []⟩
def d_condition_tree : He.DefD := ⟨("condition_tree", none), "condition_tree", "condition_tree", defArgs s_condition_tree, defBody s_condition_tree, defScope s_condition_tree, [], []⟩
def d_Condinit : He.DefD := ⟨("Cond", some "__init__"), "__init__", "Cond.__init__", defArgs s_Condinit, defBody s_Condinit, defScope s_Condinit, [], []⟩
def d_is_integer : He.DefD := ⟨("is_integer", none), "is_integer", "is_integer", defArgs s_is_integer, defBody s_is_integer, defScope s_is_integer, [], []⟩
def d_Tablecontains : He.DefD := ⟨("Table", some "__contains__"), "__contains__", "Table.__contains__", defArgs s_Tablecontains, defBody s_Tablecontains, defScope s_Tablecontains, [], []⟩
def d_code_of : He.DefD := ⟨("code_of", none), "code_of", "code_of", defArgs s_code_of, defBody s_code_of, defScope s_code_of, [], []⟩
def d_compares : He.DefD := ⟨("compares", none), "compares", "compares", defArgs s_compares, defBody s_compares, defScope s_compares, [], []⟩
def d_holds : He.DefD := ⟨("holds", none), "holds", "holds", defArgs s_holds, defBody s_holds, defScope s_holds, [], []⟩
def d_marks_from : He.DefD := ⟨("marks_from", none), "marks_from", "marks_from", defArgs s_marks_from, defBody s_marks_from, defScope s_marks_from, [], []⟩
def d_value_on : He.DefD := ⟨("value_on", none), "value_on", "value_on", defArgs s_value_on, defBody s_value_on, defScope s_value_on, [], []⟩
def d_is_taken : He.DefD := ⟨("is_taken", none), "is_taken", "is_taken", defArgs s_is_taken, defBody s_is_taken, defScope s_is_taken, [], []⟩
def d_Condcontains : He.DefD := ⟨("Cond", some "__contains__"), "__contains__", "Cond.__contains__", defArgs s_Condcontains, defBody s_Condcontains, defScope s_Condcontains, [], []⟩
def d_Condbool : He.DefD := ⟨("Cond", some "__bool__"), "__bool__", "Cond.__bool__", defArgs s_Condbool, defBody s_Condbool, defScope s_Condbool, [], []⟩
def d_Condcall : He.DefD := ⟨("Cond", some "__call__"), "__call__", "Cond.__call__", defArgs s_Condcall, defBody s_Condcall, defScope s_Condcall, [], []⟩
def d_Tableeq : He.DefD := ⟨("Table", some "__eq__"), "__eq__", "Table.__eq__", defArgs s_Tableeq, defBody s_Tableeq, defScope s_Tableeq, [], []⟩
def d_law_bag : He.DefD := ⟨("_law_bag", none), "_law_bag", "_law_bag", defArgs s_law_bag, defBody s_law_bag, defScope s_law_bag, [], []⟩
def d_law_take : He.DefD := ⟨("_law_take", none), "_law_take", "_law_take", defArgs s_law_take, defBody s_law_take, defScope s_law_take, [], []⟩
def d_law_of : He.DefD := ⟨("_law_of", none), "_law_of", "_law_of", defArgs s_law_of, defBody s_law_of, defScope s_law_of, [], []⟩
def d_law_long : He.DefD := ⟨("_law_long", none), "_law_long", "_law_long", defArgs s_law_long, defBody s_law_long, defScope s_law_long, [], []⟩
def d_law_tree : He.DefD := ⟨("_law_tree", none), "_law_tree", "_law_tree", defArgs s_law_tree, defBody s_law_tree, defScope s_law_tree, [], []⟩
def d_law_pieces : He.DefD := ⟨("_law_pieces", none), "_law_pieces", "_law_pieces", defArgs s_law_pieces, defBody s_law_pieces, defScope s_law_pieces, [], []⟩
def d_law_text : He.DefD := ⟨("_law_text", none), "_law_text", "_law_text", defArgs s_law_text, defBody s_law_text, defScope s_law_text, [], []⟩
def d_law_holds : He.DefD := ⟨("_law_holds", none), "_law_holds", "_law_holds", defArgs s_law_holds, defBody s_law_holds, defScope s_law_holds, [], []⟩
def d_law_value : He.DefD := ⟨("_law_value", none), "_law_value", "_law_value", defArgs s_law_value, defBody s_law_value, defScope s_law_value, [], []⟩
def d_law_row : He.DefD := ⟨("_law_row", none), "_law_row", "_law_row", defArgs s_law_row, defBody s_law_row, defScope s_law_row, [], []⟩
def d_law : He.DefD := ⟨("law", none), "law", "law", defArgs s_law, defBody s_law, defScope s_law, [], []⟩
def d_Cond_is_blank : He.DefD := ⟨("is_blank", some "Cond"), "is_blank", "Cond.is_blank", defArgs s_Cond_is_blank, defBody s_Cond_is_blank, defScope s_Cond_is_blank, [], []⟩
def fn : List He.DefD := [d_is_word, d_first_bad, d_Tableinit, d_copied, d_BadConditioninit, d_run_end, d_token_end, d_tokens, d_is_number, d_after_atom_begins, d_after_column, d_after_atom_ends, d_after, d_wrong_place, d_condition_words, d_test_of, d_joined, d_negated, d_with_signs_behind, d_tree_of, d_condition_tree, d_Condinit, d_is_integer, d_Tablecontains, d_code_of, d_compares, d_holds, d_marks_from, d_value_on, d_is_taken, d_Condcontains, d_Condbool, d_Condcall, d_Tableeq, d_law_bag, d_law_take, d_law_of, d_law_long, d_law_tree, d_law_pieces, d_law_text, d_law_holds, d_law_value, d_law_row, d_law]
def fa : List He.Fa := [.glo "is_word", .glo "first_bad", .glo "copied", .glo "run_end", .glo "token_end", .glo "tokens", .glo "is_number", .glo "after_atom_begins", .glo "after_column", .glo "after_atom_ends", .glo "after", .glo "wrong_place", .glo "condition_words", .glo "test_of", .glo "joined", .glo "negated", .glo "with_signs_behind", .glo "tree_of", .glo "condition_tree", .glo "is_integer", .glo "code_of", .glo "compares", .glo "holds", .glo "marks_from", .glo "value_on", .glo "is_taken", .glo "_law_bag", .glo "_law_take", .glo "_law_of", .glo "_law_long", .glo "_law_tree", .glo "_law_pieces", .glo "_law_text", .glo "_law_holds", .glo "_law_value", .glo "_law_row", .glo "law", .free "len", .free "range", .free "enumerate", .free "int", .free "abs", .free "list", .free "tuple", .free "all", .free "isinstance", .free "max", .free "min", .free "str", .free "bool", .free "repr", .free "sorted", .free "set", .free "sum", .free "any", .free "dict", .cls "Table", .noat "Table" "columns", .mkr "Table", .cls "Cond", .noat "Cond" "table", .noat "Cond" "_tree", .noat "Cond" "_words", .mkr "Cond", .int "WORD_LETTERS" 8, .int "MOST_COLUMNS" 3, .glo "KEPT", .glo "Table", .glo "Cond", .glo "EmptyfiltersError", .glo "BadCondition", .meth "BadCondition" "__init__", .noat "BadCondition" "at", .glo "LONG_SIGNS", .glo "RANKS", .int "MOST_DIGITS" 30, .str "ATOM" "an atom", .str "SIGN" "the sign of a test", .str "SIDE" "a column or a number", .str "NUMBER" "a number", .str "BEHIND" "what may stand behind an atom", .meth "Table" "__contains__", .meth "Cond" "__contains__", .meth "Cond" "__bool__", .meth "Table" "__eq__"]
section
variable {K : PySem.W.Frag} {h : Heap} {mg : Str → Option Value}
theorem F_is_word (c : He.SaysD fa fn K) : ∃ fd, FunD K "is_word" "is_word" (defArgs s_is_word) (defBody s_is_word) (defScope s_is_word) [] [] (He.fAd K ("is_word", none)) fd := c.def_ 0 (d := d_is_word) rfl
theorem b_is_word {f : Addr} {fd : FuncData} (F : FunD K "is_word" "is_word" (defArgs s_is_word) (defBody s_is_word) (defScope s_is_word) [] [] f fd) : Binds K fd ["thing"] [] := F.bindsN fun _ _ _ _ _ _ us hl => match us, hl with | [_], _ => rfl
theorem F_first_bad (c : He.SaysD fa fn K) : ∃ fd, FunD K "first_bad" "first_bad" (defArgs s_first_bad) (defBody s_first_bad) (defScope s_first_bad) [] [] (He.fAd K ("first_bad", none)) fd := c.def_ 1 (d := d_first_bad) rfl
theorem b_first_bad {f : Addr} {fd : FuncData} (F : FunD K "first_bad" "first_bad" (defArgs s_first_bad) (defBody s_first_bad) (defScope s_first_bad) [] [] f fd) : Binds K fd ["names"] [] := F.bindsN fun _ _ _ _ _ _ us hl => match us, hl with | [_], _ => rfl
theorem F_Tableinit (c : He.SaysD fa fn K) : ∃ fd, FunD K "__init__" "Table.__init__" (defArgs s_Tableinit) (defBody s_Tableinit) (defScope s_Tableinit) [] [] (He.fAd K ("Table", some "__init__")) fd := c.def_ 2 (d := d_Tableinit) rfl
theorem b_Tableinit {f : Addr} {fd : FuncData} (F : FunD K "__init__" "Table.__init__" (defArgs s_Tableinit) (defBody s_Tableinit) (defScope s_Tableinit) [] [] f fd) : Binds K fd ["self", "columns"] [] := F.bindsN fun _ _ _ _ _ _ us hl => match us, hl with | [_, _], _ => rfl
theorem F_copied (c : He.SaysD fa fn K) : ∃ fd, FunD K "copied" "copied" (defArgs s_copied) (defBody s_copied) (defScope s_copied) [] [] (He.fAd K ("copied", none)) fd := c.def_ 3 (d := d_copied) rfl
theorem b_copied {f : Addr} {fd : FuncData} (F : FunD K "copied" "copied" (defArgs s_copied) (defBody s_copied) (defScope s_copied) [] [] f fd) : Binds K fd ["thing"] [] := F.bindsN fun _ _ _ _ _ _ us hl => match us, hl with | [_], _ => rfl
theorem F_BadConditioninit (c : He.SaysD fa fn K) : ∃ fd, FunD K "__init__" "BadCondition.__init__" (defArgs s_BadConditioninit) (defBody s_BadConditioninit) (defScope s_BadConditioninit) [] [] (He.fAd K ("BadCondition", some "__init__")) fd := c.def_ 4 (d := d_BadConditioninit) rfl
theorem b_BadConditioninit {f : Addr} {fd : FuncData} (F : FunD K "__init__" "BadCondition.__init__" (defArgs s_BadConditioninit) (defBody s_BadConditioninit) (defScope s_BadConditioninit) [] [] f fd) : Binds K fd ["self", "at"] [] := F.bindsN fun _ _ _ _ _ _ us hl => match us, hl with | [_, _], _ => rfl
theorem F_run_end (c : He.SaysD fa fn K) : ∃ fd, FunD K "run_end" "run_end" (defArgs s_run_end) (defBody s_run_end) (defScope s_run_end) [] [] (He.fAd K ("run_end", none)) fd := c.def_ 5 (d := d_run_end) rfl
theorem b_run_end {f : Addr} {fd : FuncData} (F : FunD K "run_end" "run_end" (defArgs s_run_end) (defBody s_run_end) (defScope s_run_end) [] [] f fd) : Binds K fd ["text", "at", "low", "high"] [] := F.bindsN fun _ _ _ _ _ _ us hl => match us, hl with | [_, _, _, _], _ => rfl
theorem F_token_end (c : He.SaysD fa fn K) : ∃ fd, FunD K "token_end" "token_end" (defArgs s_token_end) (defBody s_token_end) (defScope s_token_end) [] [] (He.fAd K ("token_end", none)) fd := c.def_ 6 (d := d_token_end) rfl
theorem b_token_end {f : Addr} {fd : FuncData} (F : FunD K "token_end" "token_end" (defArgs s_token_end) (defBody s_token_end) (defScope s_token_end) [] [] f fd) : Binds K fd ["text", "at"] [] := F.bindsN fun _ _ _ _ _ _ us hl => match us, hl with | [_, _], _ => rfl
theorem F_tokens (c : He.SaysD fa fn K) : ∃ fd, FunD K "tokens" "tokens" (defArgs s_tokens) (defBody s_tokens) (defScope s_tokens) [] [] (He.fAd K ("tokens", none)) fd := c.def_ 7 (d := d_tokens) rfl
theorem b_tokens {f : Addr} {fd : FuncData} (F : FunD K "tokens" "tokens" (defArgs s_tokens) (defBody s_tokens) (defScope s_tokens) [] [] f fd) : Binds K fd ["text"] [] := F.bindsN fun _ _ _ _ _ _ us hl => match us, hl with | [_], _ => rfl
theorem F_is_number (c : He.SaysD fa fn K) : ∃ fd, FunD K "is_number" "is_number" (defArgs s_is_number) (defBody s_is_number) (defScope s_is_number) [] [] (He.fAd K ("is_number", none)) fd := c.def_ 8 (d := d_is_number) rfl
theorem b_is_number {f : Addr} {fd : FuncData} (F : FunD K "is_number" "is_number" (defArgs s_is_number) (defBody s_is_number) (defScope s_is_number) [] [] f fd) : Binds K fd ["token"] [] := F.bindsN fun _ _ _ _ _ _ us hl => match us, hl with | [_], _ => rfl
theorem F_after_atom_begins (c : He.SaysD fa fn K) : ∃ fd, FunD K "after_atom_begins" "after_atom_begins" (defArgs s_after_atom_begins) (defBody s_after_atom_begins) (defScope s_after_atom_begins) [] [] (He.fAd K ("after_atom_begins", none)) fd := c.def_ 9 (d := d_after_atom_begins) rfl
theorem b_after_atom_begins {f : Addr} {fd : FuncData} (F : FunD K "after_atom_begins" "after_atom_begins" (defArgs s_after_atom_begins) (defBody s_after_atom_begins) (defScope s_after_atom_begins) [] [] f fd) : Binds K fd ["word", "columns"] [] := F.bindsN fun _ _ _ _ _ _ us hl => match us, hl with | [_, _], _ => rfl
theorem F_after_column (c : He.SaysD fa fn K) : ∃ fd, FunD K "after_column" "after_column" (defArgs s_after_column) (defBody s_after_column) (defScope s_after_column) [] [] (He.fAd K ("after_column", none)) fd := c.def_ 10 (d := d_after_column) rfl
theorem b_after_column {f : Addr} {fd : FuncData} (F : FunD K "after_column" "after_column" (defArgs s_after_column) (defBody s_after_column) (defScope s_after_column) [] [] f fd) : Binds K fd ["word"] [] := F.bindsN fun _ _ _ _ _ _ us hl => match us, hl with | [_], _ => rfl
theorem F_after_atom_ends (c : He.SaysD fa fn K) : ∃ fd, FunD K "after_atom_ends" "after_atom_ends" (defArgs s_after_atom_ends) (defBody s_after_atom_ends) (defScope s_after_atom_ends) [] [] (He.fAd K ("after_atom_ends", none)) fd := c.def_ 11 (d := d_after_atom_ends) rfl
theorem b_after_atom_ends {f : Addr} {fd : FuncData} (F : FunD K "after_atom_ends" "after_atom_ends" (defArgs s_after_atom_ends) (defBody s_after_atom_ends) (defScope s_after_atom_ends) [] [] f fd) : Binds K fd ["word", "depth"] [] := F.bindsN fun _ _ _ _ _ _ us hl => match us, hl with | [_, _], _ => rfl
theorem F_after (c : He.SaysD fa fn K) : ∃ fd, FunD K "after" "after" (defArgs s_after) (defBody s_after) (defScope s_after) [] [] (He.fAd K ("after", none)) fd := c.def_ 12 (d := d_after) rfl
theorem b_after {f : Addr} {fd : FuncData} (F : FunD K "after" "after" (defArgs s_after) (defBody s_after) (defScope s_after) [] [] f fd) : Binds K fd ["coming", "word", "depth", "columns"] [] := F.bindsN fun _ _ _ _ _ _ us hl => match us, hl with | [_, _, _, _], _ => rfl
theorem F_wrong_place (c : He.SaysD fa fn K) : ∃ fd, FunD K "wrong_place" "wrong_place" (defArgs s_wrong_place) (defBody s_wrong_place) (defScope s_wrong_place) [] [] (He.fAd K ("wrong_place", none)) fd := c.def_ 13 (d := d_wrong_place) rfl
theorem b_wrong_place {f : Addr} {fd : FuncData} (F : FunD K "wrong_place" "wrong_place" (defArgs s_wrong_place) (defBody s_wrong_place) (defScope s_wrong_place) [] [] f fd) : Binds K fd ["found", "length", "columns"] [] := F.bindsN fun _ _ _ _ _ _ us hl => match us, hl with | [_, _, _], _ => rfl
theorem F_condition_words (c : He.SaysD fa fn K) : ∃ fd, FunD K "condition_words" "condition_words" (defArgs s_condition_words) (defBody s_condition_words) (defScope s_condition_words) [] [] (He.fAd K ("condition_words", none)) fd := c.def_ 14 (d := d_condition_words) rfl
theorem b_condition_words {f : Addr} {fd : FuncData} (F : FunD K "condition_words" "condition_words" (defArgs s_condition_words) (defBody s_condition_words) (defScope s_condition_words) [] [] f fd) : Binds K fd ["text", "columns"] [] := F.bindsN fun _ _ _ _ _ _ us hl => match us, hl with | [_, _], _ => rfl
theorem F_test_of (c : He.SaysD fa fn K) : ∃ fd, FunD K "test_of" "test_of" (defArgs s_test_of) (defBody s_test_of) (defScope s_test_of) [] [] (He.fAd K ("test_of", none)) fd := c.def_ 15 (d := d_test_of) rfl
theorem b_test_of {f : Addr} {fd : FuncData} (F : FunD K "test_of" "test_of" (defArgs s_test_of) (defBody s_test_of) (defScope s_test_of) [] [] f fd) : Binds K fd ["words", "columns"] [] := F.bindsN fun _ _ _ _ _ _ us hl => match us, hl with | [_, _], _ => rfl
theorem F_joined (c : He.SaysD fa fn K) : ∃ fd, FunD K "joined" "joined" (defArgs s_joined) (defBody s_joined) (defScope s_joined) [] [] (He.fAd K ("joined", none)) fd := c.def_ 16 (d := d_joined) rfl
theorem b_joined {f : Addr} {fd : FuncData} (F : FunD K "joined" "joined" (defArgs s_joined) (defBody s_joined) (defScope s_joined) [] [] f fd) : Binds K fd ["sign", "left", "right"] [] := F.bindsN fun _ _ _ _ _ _ us hl => match us, hl with | [_, _, _], _ => rfl
theorem F_negated (c : He.SaysD fa fn K) : ∃ fd, FunD K "negated" "negated" (defArgs s_negated) (defBody s_negated) (defScope s_negated) [] [] (He.fAd K ("negated", none)) fd := c.def_ 17 (d := d_negated) rfl
theorem b_negated {f : Addr} {fd : FuncData} (F : FunD K "negated" "negated" (defArgs s_negated) (defBody s_negated) (defScope s_negated) [] [] f fd) : Binds K fd ["tree"] [] := F.bindsN fun _ _ _ _ _ _ us hl => match us, hl with | [_], _ => rfl
theorem F_with_signs_behind (c : He.SaysD fa fn K) : ∃ fd, FunD K "with_signs_behind" "with_signs_behind" (defArgs s_with_signs_behind) (defBody s_with_signs_behind) (defScope s_with_signs_behind) [] [] (He.fAd K ("with_signs_behind", none)) fd := c.def_ 18 (d := d_with_signs_behind) rfl
theorem b_with_signs_behind {f : Addr} {fd : FuncData} (F : FunD K "with_signs_behind" "with_signs_behind" (defArgs s_with_signs_behind) (defBody s_with_signs_behind) (defScope s_with_signs_behind) [] [] f fd) : Binds K fd ["items"] [] := F.bindsN fun _ _ _ _ _ _ us hl => match us, hl with | [_], _ => rfl
theorem F_tree_of (c : He.SaysD fa fn K) : ∃ fd, FunD K "tree_of" "tree_of" (defArgs s_tree_of) (defBody s_tree_of) (defScope s_tree_of) [] [] (He.fAd K ("tree_of", none)) fd := c.def_ 19 (d := d_tree_of) rfl
theorem b_tree_of {f : Addr} {fd : FuncData} (F : FunD K "tree_of" "tree_of" (defArgs s_tree_of) (defBody s_tree_of) (defScope s_tree_of) [] [] f fd) : Binds K fd ["items"] [] := F.bindsN fun _ _ _ _ _ _ us hl => match us, hl with | [_], _ => rfl
theorem F_condition_tree (c : He.SaysD fa fn K) : ∃ fd, FunD K "condition_tree" "condition_tree" (defArgs s_condition_tree) (defBody s_condition_tree) (defScope s_condition_tree) [] [] (He.fAd K ("condition_tree", none)) fd := c.def_ 20 (d := d_condition_tree) rfl
theorem b_condition_tree {f : Addr} {fd : FuncData} (F : FunD K "condition_tree" "condition_tree" (defArgs s_condition_tree) (defBody s_condition_tree) (defScope s_condition_tree) [] [] f fd) : Binds K fd ["words", "columns"] [] := F.bindsN fun _ _ _ _ _ _ us hl => match us, hl with | [_, _], _ => rfl
theorem F_Condinit (c : He.SaysD fa fn K) : ∃ fd, FunD K "__init__" "Cond.__init__" (defArgs s_Condinit) (defBody s_Condinit) (defScope s_Condinit) [] [] (He.fAd K ("Cond", some "__init__")) fd := c.def_ 21 (d := d_Condinit) rfl
theorem b_Condinit {f : Addr} {fd : FuncData} (F : FunD K "__init__" "Cond.__init__" (defArgs s_Condinit) (defBody s_Condinit) (defScope s_Condinit) [] [] f fd) : Binds K fd ["self", "text", "table"] [] := F.bindsN fun _ _ _ _ _ _ us hl => match us, hl with | [_, _, _], _ => rfl
theorem F_is_integer (c : He.SaysD fa fn K) : ∃ fd, FunD K "is_integer" "is_integer" (defArgs s_is_integer) (defBody s_is_integer) (defScope s_is_integer) [] [] (He.fAd K ("is_integer", none)) fd := c.def_ 22 (d := d_is_integer) rfl
theorem b_is_integer {f : Addr} {fd : FuncData} (F : FunD K "is_integer" "is_integer" (defArgs s_is_integer) (defBody s_is_integer) (defScope s_is_integer) [] [] f fd) : Binds K fd ["thing"] [] := F.bindsN fun _ _ _ _ _ _ us hl => match us, hl with | [_], _ => rfl
theorem F_Tablecontains (c : He.SaysD fa fn K) : ∃ fd, FunD K "__contains__" "Table.__contains__" (defArgs s_Tablecontains) (defBody s_Tablecontains) (defScope s_Tablecontains) [] [] (He.fAd K ("Table", some "__contains__")) fd := c.def_ 23 (d := d_Tablecontains) rfl
theorem b_Tablecontains {f : Addr} {fd : FuncData} (F : FunD K "__contains__" "Table.__contains__" (defArgs s_Tablecontains) (defBody s_Tablecontains) (defScope s_Tablecontains) [] [] f fd) : Binds K fd ["self", "thing"] [] := F.bindsN fun _ _ _ _ _ _ us hl => match us, hl with | [_, _], _ => rfl
theorem F_code_of (c : He.SaysD fa fn K) : ∃ fd, FunD K "code_of" "code_of" (defArgs s_code_of) (defBody s_code_of) (defScope s_code_of) [] [] (He.fAd K ("code_of", none)) fd := c.def_ 24 (d := d_code_of) rfl
theorem b_code_of {f : Addr} {fd : FuncData} (F : FunD K "code_of" "code_of" (defArgs s_code_of) (defBody s_code_of) (defScope s_code_of) [] [] f fd) : Binds K fd ["tree"] [] := F.bindsN fun _ _ _ _ _ _ us hl => match us, hl with | [_], _ => rfl
theorem F_compares (c : He.SaysD fa fn K) : ∃ fd, FunD K "compares" "compares" (defArgs s_compares) (defBody s_compares) (defScope s_compares) [] [] (He.fAd K ("compares", none)) fd := c.def_ 25 (d := d_compares) rfl
theorem b_compares {f : Addr} {fd : FuncData} (F : FunD K "compares" "compares" (defArgs s_compares) (defBody s_compares) (defScope s_compares) [] [] f fd) : Binds K fd ["left", "sign", "right"] [] := F.bindsN fun _ _ _ _ _ _ us hl => match us, hl with | [_, _, _], _ => rfl
theorem F_holds (c : He.SaysD fa fn K) : ∃ fd, FunD K "holds" "holds" (defArgs s_holds) (defBody s_holds) (defScope s_holds) [] [] (He.fAd K ("holds", none)) fd := c.def_ 26 (d := d_holds) rfl
theorem b_holds {f : Addr} {fd : FuncData} (F : FunD K "holds" "holds" (defArgs s_holds) (defBody s_holds) (defScope s_holds) [] [] f fd) : Binds K fd ["test", "row"] [] := F.bindsN fun _ _ _ _ _ _ us hl => match us, hl with | [_, _], _ => rfl
theorem F_marks_from (c : He.SaysD fa fn K) : ∃ fd, FunD K "marks_from" "marks_from" (defArgs s_marks_from) (defBody s_marks_from) (defScope s_marks_from) [] [] (He.fAd K ("marks_from", none)) fd := c.def_ 27 (d := d_marks_from) rfl
theorem b_marks_from {f : Addr} {fd : FuncData} (F : FunD K "marks_from" "marks_from" (defArgs s_marks_from) (defBody s_marks_from) (defScope s_marks_from) [] [] f fd) : Binds K fd ["code", "found", "everywhere"] [] := F.bindsN fun _ _ _ _ _ _ us hl => match us, hl with | [_, _, _], _ => rfl
theorem F_value_on (c : He.SaysD fa fn K) : ∃ fd, FunD K "value_on" "value_on" (defArgs s_value_on) (defBody s_value_on) (defScope s_value_on) [] [] (He.fAd K ("value_on", none)) fd := c.def_ 28 (d := d_value_on) rfl
theorem b_value_on {f : Addr} {fd : FuncData} (F : FunD K "value_on" "value_on" (defArgs s_value_on) (defBody s_value_on) (defScope s_value_on) [] [] f fd) : Binds K fd ["code", "row"] [] := F.bindsN fun _ _ _ _ _ _ us hl => match us, hl with | [_, _], _ => rfl
theorem F_is_taken (c : He.SaysD fa fn K) : ∃ fd, FunD K "is_taken" "is_taken" (defArgs s_is_taken) (defBody s_is_taken) (defScope s_is_taken) [] [] (He.fAd K ("is_taken", none)) fd := c.def_ 29 (d := d_is_taken) rfl
theorem b_is_taken {f : Addr} {fd : FuncData} (F : FunD K "is_taken" "is_taken" (defArgs s_is_taken) (defBody s_is_taken) (defScope s_is_taken) [] [] f fd) : Binds K fd ["code", "row"] [] := F.bindsN fun _ _ _ _ _ _ us hl => match us, hl with | [_, _], _ => rfl
theorem F_Condcontains (c : He.SaysD fa fn K) : ∃ fd, FunD K "__contains__" "Cond.__contains__" (defArgs s_Condcontains) (defBody s_Condcontains) (defScope s_Condcontains) [] [] (He.fAd K ("Cond", some "__contains__")) fd := c.def_ 30 (d := d_Condcontains) rfl
theorem b_Condcontains {f : Addr} {fd : FuncData} (F : FunD K "__contains__" "Cond.__contains__" (defArgs s_Condcontains) (defBody s_Condcontains) (defScope s_Condcontains) [] [] f fd) : Binds K fd ["self", "thing"] [] := F.bindsN fun _ _ _ _ _ _ us hl => match us, hl with | [_, _], _ => rfl
theorem F_Condbool (c : He.SaysD fa fn K) : ∃ fd, FunD K "__bool__" "Cond.__bool__" (defArgs s_Condbool) (defBody s_Condbool) (defScope s_Condbool) [] [] (He.fAd K ("Cond", some "__bool__")) fd := c.def_ 31 (d := d_Condbool) rfl
theorem b_Condbool {f : Addr} {fd : FuncData} (F : FunD K "__bool__" "Cond.__bool__" (defArgs s_Condbool) (defBody s_Condbool) (defScope s_Condbool) [] [] f fd) : Binds K fd ["self"] [] := F.bindsN fun _ _ _ _ _ _ us hl => match us, hl with | [_], _ => rfl
theorem F_Condcall (c : He.SaysD fa fn K) : ∃ fd, FunD K "__call__" "Cond.__call__" (defArgs s_Condcall) (defBody s_Condcall) (defScope s_Condcall) [] [] (He.fAd K ("Cond", some "__call__")) fd := c.def_ 32 (d := d_Condcall) rfl
theorem b_Condcall {f : Addr} {fd : FuncData} (F : FunD K "__call__" "Cond.__call__" (defArgs s_Condcall) (defBody s_Condcall) (defScope s_Condcall) [] [] f fd) : Binds K fd ["self", "row"] [] := F.bindsN fun _ _ _ _ _ _ us hl => match us, hl with | [_, _], _ => rfl
theorem F_Tableeq (c : He.SaysD fa fn K) : ∃ fd, FunD K "__eq__" "Table.__eq__" (defArgs s_Tableeq) (defBody s_Tableeq) (defScope s_Tableeq) [] [] (He.fAd K ("Table", some "__eq__")) fd := c.def_ 33 (d := d_Tableeq) rfl
theorem b_Tableeq {f : Addr} {fd : FuncData} (F : FunD K "__eq__" "Table.__eq__" (defArgs s_Tableeq) (defBody s_Tableeq) (defScope s_Tableeq) [] [] f fd) : Binds K fd ["self", "other"] [] := F.bindsN fun _ _ _ _ _ _ us hl => match us, hl with | [_, _], _ => rfl
theorem F_law_bag (c : He.SaysD fa fn K) : ∃ fd, FunD K "_law_bag" "_law_bag" (defArgs s_law_bag) (defBody s_law_bag) (defScope s_law_bag) [] [] (He.fAd K ("_law_bag", none)) fd := c.def_ 34 (d := d_law_bag) rfl
theorem b_law_bag {f : Addr} {fd : FuncData} (F : FunD K "_law_bag" "_law_bag" (defArgs s_law_bag) (defBody s_law_bag) (defScope s_law_bag) [] [] f fd) : Binds K fd ["script", "at"] [] := F.bindsN fun _ _ _ _ _ _ us hl => match us, hl with | [_, _], _ => rfl
theorem F_law_take (c : He.SaysD fa fn K) : ∃ fd, FunD K "_law_take" "_law_take" (defArgs s_law_take) (defBody s_law_take) (defScope s_law_take) [] [] (He.fAd K ("_law_take", none)) fd := c.def_ 35 (d := d_law_take) rfl
theorem b_law_take {f : Addr} {fd : FuncData} (F : FunD K "_law_take" "_law_take" (defArgs s_law_take) (defBody s_law_take) (defScope s_law_take) [] [] f fd) : Binds K fd ["bag", "many"] [] := F.bindsN fun _ _ _ _ _ _ us hl => match us, hl with | [_, _], _ => rfl
theorem F_law_of (c : He.SaysD fa fn K) : ∃ fd, FunD K "_law_of" "_law_of" (defArgs s_law_of) (defBody s_law_of) (defScope s_law_of) [] [] (He.fAd K ("_law_of", none)) fd := c.def_ 36 (d := d_law_of) rfl
theorem b_law_of {f : Addr} {fd : FuncData} (F : FunD K "_law_of" "_law_of" (defArgs s_law_of) (defBody s_law_of) (defScope s_law_of) [] [] f fd) : Binds K fd ["bag", "some"] [] := F.bindsN fun _ _ _ _ _ _ us hl => match us, hl with | [_, _], _ => rfl
theorem F_law_long (c : He.SaysD fa fn K) : ∃ fd, FunD K "_law_long" "_law_long" (defArgs s_law_long) (defBody s_law_long) (defScope s_law_long) [] [] (He.fAd K ("_law_long", none)) fd := c.def_ 37 (d := d_law_long) rfl
theorem b_law_long {f : Addr} {fd : FuncData} (F : FunD K "_law_long" "_law_long" (defArgs s_law_long) (defBody s_law_long) (defScope s_law_long) [] [] f fd) : Binds K fd ["bag", "blocks"] [] := F.bindsN fun _ _ _ _ _ _ us hl => match us, hl with | [_, _], _ => rfl
theorem F_law_tree (c : He.SaysD fa fn K) : ∃ fd, FunD K "_law_tree" "_law_tree" (defArgs s_law_tree) (defBody s_law_tree) (defScope s_law_tree) [] [] (He.fAd K ("_law_tree", none)) fd := c.def_ 38 (d := d_law_tree) rfl
theorem b_law_tree {f : Addr} {fd : FuncData} (F : FunD K "_law_tree" "_law_tree" (defArgs s_law_tree) (defBody s_law_tree) (defScope s_law_tree) [] [] f fd) : Binds K fd ["bag", "depth", "many", "numbers"] [] := F.bindsN fun _ _ _ _ _ _ us hl => match us, hl with | [_, _, _, _], _ => rfl
theorem F_law_pieces (c : He.SaysD fa fn K) : ∃ fd, FunD K "_law_pieces" "_law_pieces" (defArgs s_law_pieces) (defBody s_law_pieces) (defScope s_law_pieces) [] [] (He.fAd K ("_law_pieces", none)) fd := c.def_ 39 (d := d_law_pieces) rfl
theorem b_law_pieces {f : Addr} {fd : FuncData} (F : FunD K "_law_pieces" "_law_pieces" (defArgs s_law_pieces) (defBody s_law_pieces) (defScope s_law_pieces) [] [] f fd) : Binds K fd ["bag", "tree", "columns", "outer"] [] := F.bindsN fun _ _ _ _ _ _ us hl => match us, hl with | [_, _, _, _], _ => rfl
theorem F_law_text (c : He.SaysD fa fn K) : ∃ fd, FunD K "_law_text" "_law_text" (defArgs s_law_text) (defBody s_law_text) (defScope s_law_text) [] [] (He.fAd K ("_law_text", none)) fd := c.def_ 40 (d := d_law_text) rfl
theorem b_law_text {f : Addr} {fd : FuncData} (F : FunD K "_law_text" "_law_text" (defArgs s_law_text) (defBody s_law_text) (defScope s_law_text) [] [] f fd) : Binds K fd ["bag", "pieces"] [] := F.bindsN fun _ _ _ _ _ _ us hl => match us, hl with | [_, _], _ => rfl
theorem F_law_holds (c : He.SaysD fa fn K) : ∃ fd, FunD K "_law_holds" "_law_holds" (defArgs s_law_holds) (defBody s_law_holds) (defScope s_law_holds) [] [] (He.fAd K ("_law_holds", none)) fd := c.def_ 41 (d := d_law_holds) rfl
theorem b_law_holds {f : Addr} {fd : FuncData} (F : FunD K "_law_holds" "_law_holds" (defArgs s_law_holds) (defBody s_law_holds) (defScope s_law_holds) [] [] f fd) : Binds K fd ["one", "sign", "other"] [] := F.bindsN fun _ _ _ _ _ _ us hl => match us, hl with | [_, _, _], _ => rfl
theorem F_law_value (c : He.SaysD fa fn K) : ∃ fd, FunD K "_law_value" "_law_value" (defArgs s_law_value) (defBody s_law_value) (defScope s_law_value) [] [] (He.fAd K ("_law_value", none)) fd := c.def_ 42 (d := d_law_value) rfl
theorem b_law_value {f : Addr} {fd : FuncData} (F : FunD K "_law_value" "_law_value" (defArgs s_law_value) (defBody s_law_value) (defScope s_law_value) [] [] f fd) : Binds K fd ["tree", "row"] [] := F.bindsN fun _ _ _ _ _ _ us hl => match us, hl with | [_, _], _ => rfl
theorem F_law_row (c : He.SaysD fa fn K) : ∃ fd, FunD K "_law_row" "_law_row" (defArgs s_law_row) (defBody s_law_row) (defScope s_law_row) [] [] (He.fAd K ("_law_row", none)) fd := c.def_ 43 (d := d_law_row) rfl
theorem b_law_row {f : Addr} {fd : FuncData} (F : FunD K "_law_row" "_law_row" (defArgs s_law_row) (defBody s_law_row) (defScope s_law_row) [] [] f fd) : Binds K fd ["bag", "many", "numbers"] [] := F.bindsN fun _ _ _ _ _ _ us hl => match us, hl with | [_, _, _], _ => rfl
theorem F_law (c : He.SaysD fa fn K) : ∃ fd, FunD K "law" "law" (defArgs s_law) (defBody s_law) (defScope s_law) [] [] (He.fAd K ("law", none)) fd := c.def_ 44 (d := d_law) rfl
theorem b_law {f : Addr} {fd : FuncData} (F : FunD K "law" "law" (defArgs s_law) (defBody s_law) (defScope s_law) [] [] f fd) : Binds K fd ["script"] [] := F.bindsN fun _ _ _ _ _ _ us hl => match us, hl with | [_], _ => rfl
theorem b_Cond_is_blank {f : Addr} {fd : FuncData} (F : FunD K "is_blank" "Cond.is_blank" (defArgs s_Cond_is_blank) (defBody s_Cond_is_blank) (defScope s_Cond_is_blank) [] [] f fd) : Binds K fd ["self"] [] := F.bindsN fun _ _ _ _ _ _ us hl => match us, hl with | [_], _ => rfl
theorem g_is_word (X : K.In h) (G : h.Ns mainGlobals mg) (c : He.SaysD fa fn K) : mg "is_word" = some (.ref (He.fAd K ("is_word", none))) := He.glo_ok X G (c.fact 0 (f := .glo "is_word") rfl)
theorem g_first_bad (X : K.In h) (G : h.Ns mainGlobals mg) (c : He.SaysD fa fn K) : mg "first_bad" = some (.ref (He.fAd K ("first_bad", none))) := He.glo_ok X G (c.fact 1 (f := .glo "first_bad") rfl)
theorem g_copied (X : K.In h) (G : h.Ns mainGlobals mg) (c : He.SaysD fa fn K) : mg "copied" = some (.ref (He.fAd K ("copied", none))) := He.glo_ok X G (c.fact 2 (f := .glo "copied") rfl)
theorem g_run_end (X : K.In h) (G : h.Ns mainGlobals mg) (c : He.SaysD fa fn K) : mg "run_end" = some (.ref (He.fAd K ("run_end", none))) := He.glo_ok X G (c.fact 3 (f := .glo "run_end") rfl)
theorem g_token_end (X : K.In h) (G : h.Ns mainGlobals mg) (c : He.SaysD fa fn K) : mg "token_end" = some (.ref (He.fAd K ("token_end", none))) := He.glo_ok X G (c.fact 4 (f := .glo "token_end") rfl)
theorem g_tokens (X : K.In h) (G : h.Ns mainGlobals mg) (c : He.SaysD fa fn K) : mg "tokens" = some (.ref (He.fAd K ("tokens", none))) := He.glo_ok X G (c.fact 5 (f := .glo "tokens") rfl)
theorem g_is_number (X : K.In h) (G : h.Ns mainGlobals mg) (c : He.SaysD fa fn K) : mg "is_number" = some (.ref (He.fAd K ("is_number", none))) := He.glo_ok X G (c.fact 6 (f := .glo "is_number") rfl)
theorem g_after_atom_begins (X : K.In h) (G : h.Ns mainGlobals mg) (c : He.SaysD fa fn K) : mg "after_atom_begins" = some (.ref (He.fAd K ("after_atom_begins", none))) := He.glo_ok X G (c.fact 7 (f := .glo "after_atom_begins") rfl)
theorem g_after_column (X : K.In h) (G : h.Ns mainGlobals mg) (c : He.SaysD fa fn K) : mg "after_column" = some (.ref (He.fAd K ("after_column", none))) := He.glo_ok X G (c.fact 8 (f := .glo "after_column") rfl)
theorem g_after_atom_ends (X : K.In h) (G : h.Ns mainGlobals mg) (c : He.SaysD fa fn K) : mg "after_atom_ends" = some (.ref (He.fAd K ("after_atom_ends", none))) := He.glo_ok X G (c.fact 9 (f := .glo "after_atom_ends") rfl)
theorem g_after (X : K.In h) (G : h.Ns mainGlobals mg) (c : He.SaysD fa fn K) : mg "after" = some (.ref (He.fAd K ("after", none))) := He.glo_ok X G (c.fact 10 (f := .glo "after") rfl)
theorem g_wrong_place (X : K.In h) (G : h.Ns mainGlobals mg) (c : He.SaysD fa fn K) : mg "wrong_place" = some (.ref (He.fAd K ("wrong_place", none))) := He.glo_ok X G (c.fact 11 (f := .glo "wrong_place") rfl)
theorem g_condition_words (X : K.In h) (G : h.Ns mainGlobals mg) (c : He.SaysD fa fn K) : mg "condition_words" = some (.ref (He.fAd K ("condition_words", none))) := He.glo_ok X G (c.fact 12 (f := .glo "condition_words") rfl)
theorem g_test_of (X : K.In h) (G : h.Ns mainGlobals mg) (c : He.SaysD fa fn K) : mg "test_of" = some (.ref (He.fAd K ("test_of", none))) := He.glo_ok X G (c.fact 13 (f := .glo "test_of") rfl)
theorem g_joined (X : K.In h) (G : h.Ns mainGlobals mg) (c : He.SaysD fa fn K) : mg "joined" = some (.ref (He.fAd K ("joined", none))) := He.glo_ok X G (c.fact 14 (f := .glo "joined") rfl)
theorem g_negated (X : K.In h) (G : h.Ns mainGlobals mg) (c : He.SaysD fa fn K) : mg "negated" = some (.ref (He.fAd K ("negated", none))) := He.glo_ok X G (c.fact 15 (f := .glo "negated") rfl)
theorem g_with_signs_behind (X : K.In h) (G : h.Ns mainGlobals mg) (c : He.SaysD fa fn K) : mg "with_signs_behind" = some (.ref (He.fAd K ("with_signs_behind", none))) := He.glo_ok X G (c.fact 16 (f := .glo "with_signs_behind") rfl)
theorem g_tree_of (X : K.In h) (G : h.Ns mainGlobals mg) (c : He.SaysD fa fn K) : mg "tree_of" = some (.ref (He.fAd K ("tree_of", none))) := He.glo_ok X G (c.fact 17 (f := .glo "tree_of") rfl)
theorem g_condition_tree (X : K.In h) (G : h.Ns mainGlobals mg) (c : He.SaysD fa fn K) : mg "condition_tree" = some (.ref (He.fAd K ("condition_tree", none))) := He.glo_ok X G (c.fact 18 (f := .glo "condition_tree") rfl)
theorem g_is_integer (X : K.In h) (G : h.Ns mainGlobals mg) (c : He.SaysD fa fn K) : mg "is_integer" = some (.ref (He.fAd K ("is_integer", none))) := He.glo_ok X G (c.fact 19 (f := .glo "is_integer") rfl)
theorem g_code_of (X : K.In h) (G : h.Ns mainGlobals mg) (c : He.SaysD fa fn K) : mg "code_of" = some (.ref (He.fAd K ("code_of", none))) := He.glo_ok X G (c.fact 20 (f := .glo "code_of") rfl)
theorem g_compares (X : K.In h) (G : h.Ns mainGlobals mg) (c : He.SaysD fa fn K) : mg "compares" = some (.ref (He.fAd K ("compares", none))) := He.glo_ok X G (c.fact 21 (f := .glo "compares") rfl)
theorem g_holds (X : K.In h) (G : h.Ns mainGlobals mg) (c : He.SaysD fa fn K) : mg "holds" = some (.ref (He.fAd K ("holds", none))) := He.glo_ok X G (c.fact 22 (f := .glo "holds") rfl)
theorem g_marks_from (X : K.In h) (G : h.Ns mainGlobals mg) (c : He.SaysD fa fn K) : mg "marks_from" = some (.ref (He.fAd K ("marks_from", none))) := He.glo_ok X G (c.fact 23 (f := .glo "marks_from") rfl)
theorem g_value_on (X : K.In h) (G : h.Ns mainGlobals mg) (c : He.SaysD fa fn K) : mg "value_on" = some (.ref (He.fAd K ("value_on", none))) := He.glo_ok X G (c.fact 24 (f := .glo "value_on") rfl)
theorem g_is_taken (X : K.In h) (G : h.Ns mainGlobals mg) (c : He.SaysD fa fn K) : mg "is_taken" = some (.ref (He.fAd K ("is_taken", none))) := He.glo_ok X G (c.fact 25 (f := .glo "is_taken") rfl)
theorem g_law_bag (X : K.In h) (G : h.Ns mainGlobals mg) (c : He.SaysD fa fn K) : mg "_law_bag" = some (.ref (He.fAd K ("_law_bag", none))) := He.glo_ok X G (c.fact 26 (f := .glo "_law_bag") rfl)
theorem g_law_take (X : K.In h) (G : h.Ns mainGlobals mg) (c : He.SaysD fa fn K) : mg "_law_take" = some (.ref (He.fAd K ("_law_take", none))) := He.glo_ok X G (c.fact 27 (f := .glo "_law_take") rfl)
theorem g_law_of (X : K.In h) (G : h.Ns mainGlobals mg) (c : He.SaysD fa fn K) : mg "_law_of" = some (.ref (He.fAd K ("_law_of", none))) := He.glo_ok X G (c.fact 28 (f := .glo "_law_of") rfl)
theorem g_law_long (X : K.In h) (G : h.Ns mainGlobals mg) (c : He.SaysD fa fn K) : mg "_law_long" = some (.ref (He.fAd K ("_law_long", none))) := He.glo_ok X G (c.fact 29 (f := .glo "_law_long") rfl)
theorem g_law_tree (X : K.In h) (G : h.Ns mainGlobals mg) (c : He.SaysD fa fn K) : mg "_law_tree" = some (.ref (He.fAd K ("_law_tree", none))) := He.glo_ok X G (c.fact 30 (f := .glo "_law_tree") rfl)
theorem g_law_pieces (X : K.In h) (G : h.Ns mainGlobals mg) (c : He.SaysD fa fn K) : mg "_law_pieces" = some (.ref (He.fAd K ("_law_pieces", none))) := He.glo_ok X G (c.fact 31 (f := .glo "_law_pieces") rfl)
theorem g_law_text (X : K.In h) (G : h.Ns mainGlobals mg) (c : He.SaysD fa fn K) : mg "_law_text" = some (.ref (He.fAd K ("_law_text", none))) := He.glo_ok X G (c.fact 32 (f := .glo "_law_text") rfl)
theorem g_law_holds (X : K.In h) (G : h.Ns mainGlobals mg) (c : He.SaysD fa fn K) : mg "_law_holds" = some (.ref (He.fAd K ("_law_holds", none))) := He.glo_ok X G (c.fact 33 (f := .glo "_law_holds") rfl)
theorem g_law_value (X : K.In h) (G : h.Ns mainGlobals mg) (c : He.SaysD fa fn K) : mg "_law_value" = some (.ref (He.fAd K ("_law_value", none))) := He.glo_ok X G (c.fact 34 (f := .glo "_law_value") rfl)
theorem g_law_row (X : K.In h) (G : h.Ns mainGlobals mg) (c : He.SaysD fa fn K) : mg "_law_row" = some (.ref (He.fAd K ("_law_row", none))) := He.glo_ok X G (c.fact 35 (f := .glo "_law_row") rfl)
theorem g_law (X : K.In h) (G : h.Ns mainGlobals mg) (c : He.SaysD fa fn K) : mg "law" = some (.ref (He.fAd K ("law", none))) := He.glo_ok X G (c.fact 36 (f := .glo "law") rfl)
theorem free_all (X : K.In h) (G : h.Ns mainGlobals mg) (c : He.SaysD fa fn K) : Free mg := ⟨He.free_ok X G (c.fact 37 (f := .free "len") rfl), He.free_ok X G (c.fact 38 (f := .free "range") rfl), He.free_ok X G (c.fact 39 (f := .free "enumerate") rfl), He.free_ok X G (c.fact 40 (f := .free "int") rfl), He.free_ok X G (c.fact 41 (f := .free "abs") rfl), He.free_ok X G (c.fact 42 (f := .free "list") rfl), He.free_ok X G (c.fact 43 (f := .free "tuple") rfl), He.free_ok X G (c.fact 44 (f := .free "all") rfl), He.free_ok X G (c.fact 45 (f := .free "isinstance") rfl), He.free_ok X G (c.fact 46 (f := .free "max") rfl), He.free_ok X G (c.fact 47 (f := .free "min") rfl), He.free_ok X G (c.fact 48 (f := .free "str") rfl), He.free_ok X G (c.fact 49 (f := .free "bool") rfl), He.free_ok X G (c.fact 50 (f := .free "repr") rfl), He.free_ok X G (c.fact 51 (f := .free "sorted") rfl), He.free_ok X G (c.fact 52 (f := .free "set") rfl), He.free_ok X G (c.fact 53 (f := .free "sum") rfl), He.free_ok X G (c.fact 54 (f := .free "any") rfl), He.free_ok X G (c.fact 55 (f := .free "dict") rfl)⟩
theorem x_0 (c : He.SaysD fa fn K) : (He.Fa.cls "Table").ok K = true := c.fact 56 (f := .cls "Table") rfl
theorem x_1 (c : He.SaysD fa fn K) : (He.Fa.noat "Table" "columns").ok K = true := c.fact 57 (f := .noat "Table" "columns") rfl
theorem x_2 (c : He.SaysD fa fn K) : (He.Fa.mkr "Table").ok K = true := c.fact 58 (f := .mkr "Table") rfl
theorem x_3 (c : He.SaysD fa fn K) : (He.Fa.cls "Cond").ok K = true := c.fact 59 (f := .cls "Cond") rfl
theorem x_4 (c : He.SaysD fa fn K) : (He.Fa.noat "Cond" "table").ok K = true := c.fact 60 (f := .noat "Cond" "table") rfl
theorem x_5 (c : He.SaysD fa fn K) : (He.Fa.noat "Cond" "_tree").ok K = true := c.fact 61 (f := .noat "Cond" "_tree") rfl
theorem x_6 (c : He.SaysD fa fn K) : (He.Fa.noat "Cond" "_words").ok K = true := c.fact 62 (f := .noat "Cond" "_words") rfl
theorem x_7 (c : He.SaysD fa fn K) : (He.Fa.mkr "Cond").ok K = true := c.fact 63 (f := .mkr "Cond") rfl
theorem x_8 (c : He.SaysD fa fn K) : (He.Fa.int "WORD_LETTERS" 8).ok K = true := c.fact 64 (f := .int "WORD_LETTERS" 8) rfl
theorem x_9 (c : He.SaysD fa fn K) : (He.Fa.int "MOST_COLUMNS" 3).ok K = true := c.fact 65 (f := .int "MOST_COLUMNS" 3) rfl
theorem x_10 (c : He.SaysD fa fn K) : (He.Fa.glo "KEPT").ok K = true := c.fact 66 (f := .glo "KEPT") rfl
theorem x_11 (c : He.SaysD fa fn K) : (He.Fa.glo "Table").ok K = true := c.fact 67 (f := .glo "Table") rfl
theorem x_12 (c : He.SaysD fa fn K) : (He.Fa.glo "Cond").ok K = true := c.fact 68 (f := .glo "Cond") rfl
theorem x_13 (c : He.SaysD fa fn K) : (He.Fa.glo "EmptyfiltersError").ok K = true := c.fact 69 (f := .glo "EmptyfiltersError") rfl
theorem x_14 (c : He.SaysD fa fn K) : (He.Fa.glo "BadCondition").ok K = true := c.fact 70 (f := .glo "BadCondition") rfl
theorem x_15 (c : He.SaysD fa fn K) : (He.Fa.meth "BadCondition" "__init__").ok K = true := c.fact 71 (f := .meth "BadCondition" "__init__") rfl
theorem x_16 (c : He.SaysD fa fn K) : (He.Fa.noat "BadCondition" "at").ok K = true := c.fact 72 (f := .noat "BadCondition" "at") rfl
theorem x_17 (c : He.SaysD fa fn K) : (He.Fa.glo "LONG_SIGNS").ok K = true := c.fact 73 (f := .glo "LONG_SIGNS") rfl
theorem x_18 (c : He.SaysD fa fn K) : (He.Fa.glo "RANKS").ok K = true := c.fact 74 (f := .glo "RANKS") rfl
theorem x_19 (c : He.SaysD fa fn K) : (He.Fa.int "MOST_DIGITS" 30).ok K = true := c.fact 75 (f := .int "MOST_DIGITS" 30) rfl
theorem x_20 (c : He.SaysD fa fn K) : (He.Fa.str "ATOM" "an atom").ok K = true := c.fact 76 (f := .str "ATOM" "an atom") rfl
theorem x_21 (c : He.SaysD fa fn K) : (He.Fa.str "SIGN" "the sign of a test").ok K = true := c.fact 77 (f := .str "SIGN" "the sign of a test") rfl
theorem x_22 (c : He.SaysD fa fn K) : (He.Fa.str "SIDE" "a column or a number").ok K = true := c.fact 78 (f := .str "SIDE" "a column or a number") rfl
theorem x_23 (c : He.SaysD fa fn K) : (He.Fa.str "NUMBER" "a number").ok K = true := c.fact 79 (f := .str "NUMBER" "a number") rfl
theorem x_24 (c : He.SaysD fa fn K) : (He.Fa.str "BEHIND" "what may stand behind an atom").ok K = true := c.fact 80 (f := .str "BEHIND" "what may stand behind an atom") rfl
theorem x_25 (c : He.SaysD fa fn K) : (He.Fa.meth "Table" "__contains__").ok K = true := c.fact 81 (f := .meth "Table" "__contains__") rfl
theorem x_26 (c : He.SaysD fa fn K) : (He.Fa.meth "Cond" "__contains__").ok K = true := c.fact 82 (f := .meth "Cond" "__contains__") rfl
theorem x_27 (c : He.SaysD fa fn K) : (He.Fa.meth "Cond" "__bool__").ok K = true := c.fact 83 (f := .meth "Cond" "__bool__") rfl
theorem x_28 (c : He.SaysD fa fn K) : (He.Fa.meth "Table" "__eq__").ok K = true := c.fact 84 (f := .meth "Table" "__eq__") rfl
end

def exB (K : PySem.W.Frag) : Bool := He.tupB K "KEPT" (keptL.map He.Dv.str) && (baseB K (He.ga K "EmptyfiltersError") && (oexB K (He.ga K "BadCondition") && (He.tupB K "LONG_SIGNS" ((longSigns.map fun l => (⟨l.toArray⟩ : Str)).map He.Dv.str) && (He.valsB K (He.ga K "RANKS") [("(", .int 0), ("|", .int 1), ("&", .int 2), ("~", .int 3)] && (neqB K (He.ga K "Table") && (neqB K (He.ga K "Cond") && (callB K (He.ga K "Cond") && (propB K (He.ga K "Cond") "is_blank" && (fitF K (recA K (He.ga K "Cond") "is_blank" "property").2 "Cond.is_blank")))))))))
def tabM : List He.Tab := [(fun K => He.ga K "RANKS", ["(", "|", "&", "~"])]
def propM : List ((PySem.W.Frag → Addr) × He.DefD) := [(fun K => (recA K (He.ga K "Cond") "is_blank" "property").2, d_Cond_is_blank)]
abbrev AlM : Type := He.AlD × Bool × List (Option (List (Option (Str × Int)))) × List He.FnW
def asM (_ : Addr → Option Obj) : List Addr := List.range 2000
def obsK (K : PySem.W.Frag) : AlM := (He.obsD fa fn K, exB K, tabM.map (fun t => He.dicW K (t.1 K)), propM.map fun t => seenF K (t.1 K))
def obsMG (g : Addr → Option Obj) : AlM := obsK (He.frG g (asM g))
def valM (w : World) : AlM := (He.valD fn, true, tabM.map (fun t => some (He.keysIn w.params t.2)), propM.map fun t => t.2.val)
def SaysM (w : World) (K : PySem.W.Frag) : Prop := obsK K = valM w
theorem SaysM.d {w : World} {K : PySem.W.Frag} (c : SaysM w K) : He.SaysD fa fn K := congrArg (fun z : AlM => z.1) c
theorem SaysM.ex {w : World} {K : PySem.W.Frag} (c : SaysM w K) : exB K = true := congrArg (fun z : AlM => z.2.1) c
theorem SaysM.tab {w : World} {K : PySem.W.Frag} (c : SaysM w K) (i : Nat) {t : He.Tab} (h : tabM[i]? = some t := by rfl) : ∃ es n, KDict K w (t.1 K) es n := by
  have e : tabM.map (fun t => He.dicW K (t.1 K)) = tabM.map fun t => some (He.keysIn w.params t.2) := congrArg (fun z : AlM => z.2.2.1) c
  have e2 : (tabM.map fun t => He.dicW K (t.1 K))[i]? = (tabM.map fun t => some (He.keysIn w.params t.2))[i]? := by rw [e]
  rw [List.getElem?_map, List.getElem?_map, h] at e2
  exact He.dicW_ok (Option.some.inj e2)
theorem SaysM.prop {w : World} {K : PySem.W.Frag} (c : SaysM w K) (i : Nat) {t : (PySem.W.Frag → Addr) × He.DefD} (h : propM[i]? = some t := by rfl) : seenF K (t.1 K) = t.2.val := by
  have e : propM.map (fun t => seenF K (t.1 K)) = propM.map fun t => t.2.val := congrArg (fun z : AlM => z.2.2.2) c
  have e2 : (propM.map fun t => seenF K (t.1 K))[i]? = (propM.map fun t => t.2.val)[i]? := by rw [e]
  rw [List.getElem?_map, List.getElem?_map, h] at e2
  exact Option.some.inj e2
def hkM : PySem.W.Hook where
  α := AlM
  obs := fun s => obsMG s.heap.get?
  val := fun w => valM w
  says := fun w h => ∃ K : PySem.W.Frag, K.In h ∧ SaysM w K
  of := fun _ _ e => ⟨_, He.frG_in, e⟩
  keeps := fun _ _ _ ⟨K, hK, c⟩ k => ⟨K, PySem.W.Frag.In.keeps hK k, c⟩
abbrev R : PySem.W.OpenRow := PySem.W.OpenLaw.row PySem.Challenge.rw_emptyfilters_k07_whole_conditions_by_row
def ob (s : PySem.W.SharedT) : AlM := obsMG (HandSHeadRun.getT s)
theorem ob_eq (s : PySem.W.SharedT) : ob s = hkM.obs s.abs := by
  have e : HandSHeadRun.getT s = s.abs.heap.get? := funext (HandSHeadRun.getT_eq s)
  unfold ob
  rw [e] <;> rfl
theorem runF (w : World) : HandSHeadRun.RunEq R (PySem.W.view R.prog [82]) hkM ob 12000 ((["_wall", "__name__", "KEPT", "WORD_LETTERS", "is_integer", "is_word", "copied", "EmptyfiltersError", "BadTable", "BadCondition", "WrongTable", "LONG_SIGNS"] : List PySem.Str) ++ (["MOST_DIGITS", "run_end", "token_end", "tokens", "is_number", "RANKS", "WHOLE", "joined", "negated", "code_of", "with_signs_behind", "tree_of"] : List PySem.Str) ++ (["test_words", "words_within", "code_words", "ATOM", "SIGN", "SIDE", "NUMBER", "BEHIND", "after_atom_begins", "after_column", "after_atom_ends", "after"] : List PySem.Str) ++ (["wrong_place", "condition_words", "test_of", "condition_tree", "place", "equals", "stand", "stretches", "free_spots", "spots_beside", "Kinds", "compares"] : List PySem.Str) ++ (["holds", "marks_from", "value_on", "is_taken", "tests_in", "numbers_in", "marks_on", "same_values", "with_tree", "is_operand", "tree_for", "Cond"] : List PySem.Str) ++ (["MOST_COLUMNS", "first_bad", "Table", "_law_bag", "_law_take", "_law_of", "_law_long", "_law_tree", "_law_pieces", "_law_text", "_law_holds", "_law_value"] : List PySem.Str) ++ (["_law_row"] : List PySem.Str)) (w.withFollow "special-get-raises" false) := by
  intro os
  kernel_rfl
theorem runT (w : World) : HandSHeadRun.RunEq R (PySem.W.view R.prog [82]) hkM ob 12000 ((["_wall", "__name__", "KEPT", "WORD_LETTERS", "is_integer", "is_word", "copied", "EmptyfiltersError", "BadTable", "BadCondition", "WrongTable", "LONG_SIGNS"] : List PySem.Str) ++ (["MOST_DIGITS", "run_end", "token_end", "tokens", "is_number", "RANKS", "WHOLE", "joined", "negated", "code_of", "with_signs_behind", "tree_of"] : List PySem.Str) ++ (["test_words", "words_within", "code_words", "ATOM", "SIGN", "SIDE", "NUMBER", "BEHIND", "after_atom_begins", "after_column", "after_atom_ends", "after"] : List PySem.Str) ++ (["wrong_place", "condition_words", "test_of", "condition_tree", "place", "equals", "stand", "stretches", "free_spots", "spots_beside", "Kinds", "compares"] : List PySem.Str) ++ (["holds", "marks_from", "value_on", "is_taken", "tests_in", "numbers_in", "marks_on", "same_values", "with_tree", "is_operand", "tree_for", "Cond"] : List PySem.Str) ++ (["MOST_COLUMNS", "first_bad", "Table", "_law_bag", "_law_take", "_law_of", "_law_long", "_law_tree", "_law_pieces", "_law_text", "_law_holds", "_law_value"] : List PySem.Str) ++ (["_law_row"] : List PySem.Str)) (w.withFollow "special-get-raises" true) := by
  intro os
  kernel_rfl
theorem run (w : World) : HandSHeadRun.RunEq R (PySem.W.view R.prog [82]) hkM ob 12000 ((["_wall", "__name__", "KEPT", "WORD_LETTERS", "is_integer", "is_word", "copied", "EmptyfiltersError", "BadTable", "BadCondition", "WrongTable", "LONG_SIGNS"] : List PySem.Str) ++ (["MOST_DIGITS", "run_end", "token_end", "tokens", "is_number", "RANKS", "WHOLE", "joined", "negated", "code_of", "with_signs_behind", "tree_of"] : List PySem.Str) ++ (["test_words", "words_within", "code_words", "ATOM", "SIGN", "SIDE", "NUMBER", "BEHIND", "after_atom_begins", "after_column", "after_atom_ends", "after"] : List PySem.Str) ++ (["wrong_place", "condition_words", "test_of", "condition_tree", "place", "equals", "stand", "stretches", "free_spots", "spots_beside", "Kinds", "compares"] : List PySem.Str) ++ (["holds", "marks_from", "value_on", "is_taken", "tests_in", "numbers_in", "marks_on", "same_values", "with_tree", "is_operand", "tree_for", "Cond"] : List PySem.Str) ++ (["MOST_COLUMNS", "first_bad", "Table", "_law_bag", "_law_take", "_law_of", "_law_long", "_law_tree", "_law_pieces", "_law_text", "_law_holds", "_law_value"] : List PySem.Str) ++ (["_law_row"] : List PySem.Str)) w := PySem.W.byRow2 "special-get-raises" (P := fun w => HandSHeadRun.RunEq R (PySem.W.view R.prog [82]) hkM ob 12000 ((["_wall", "__name__", "KEPT", "WORD_LETTERS", "is_integer", "is_word", "copied", "EmptyfiltersError", "BadTable", "BadCondition", "WrongTable", "LONG_SIGNS"] : List PySem.Str) ++ (["MOST_DIGITS", "run_end", "token_end", "tokens", "is_number", "RANKS", "WHOLE", "joined", "negated", "code_of", "with_signs_behind", "tree_of"] : List PySem.Str) ++ (["test_words", "words_within", "code_words", "ATOM", "SIGN", "SIDE", "NUMBER", "BEHIND", "after_atom_begins", "after_column", "after_atom_ends", "after"] : List PySem.Str) ++ (["wrong_place", "condition_words", "test_of", "condition_tree", "place", "equals", "stand", "stretches", "free_spots", "spots_beside", "Kinds", "compares"] : List PySem.Str) ++ (["holds", "marks_from", "value_on", "is_taken", "tests_in", "numbers_in", "marks_on", "same_values", "with_tree", "is_operand", "tree_for", "Cond"] : List PySem.Str) ++ (["MOST_COLUMNS", "first_bad", "Table", "_law_bag", "_law_take", "_law_of", "_law_long", "_law_tree", "_law_pieces", "_law_text", "_law_holds", "_law_value"] : List PySem.Str) ++ (["_law_row"] : List PySem.Str)) w) runF runT w
end K07

namespace K07
open PySem PySem.Spec PyProof.Rows L2 Own
theorem strs_dv {K : PySem.W.Frag} (l : List Str) : (l.map He.Dv.str).map (He.Dv.v K) = l.map V.str := by
  rw [List.map_map]
  rfl
theorem facts {P : Program} {w : World} {K : PySem.W.Frag} {h : Heap} {mg : Str → Option Value} {f : Addr} (X : K.In h) (G : h.Ns mainGlobals mg) (hfa : mg ("law" : Str) = some (.ref f)) (s : SaysM w K) :
    ∃ fd : FuncData, (∀ (s : Shared) (v : Value), BindsTo s fd ⟨[v], []⟩ [("script", v)]) ∧ ∀ base : Heap, K.In base → base.Ns mainGlobals mg → FnOk P w K mg base CX0 8 f fd ["script"] (spLaw K) := by
  have c := s.d
  have hex := s.ex
  obtain ⟨exKept, exr0⟩ := Bool.and_eq_true_iff.mp hex
  obtain ⟨exBase, exr1⟩ := Bool.and_eq_true_iff.mp exr0
  obtain ⟨exOex, exr2⟩ := Bool.and_eq_true_iff.mp exr1
  obtain ⟨exLong, exr3⟩ := Bool.and_eq_true_iff.mp exr2
  obtain ⟨exRanks, exr4⟩ := Bool.and_eq_true_iff.mp exr3
  obtain ⟨exNT, exr5⟩ := Bool.and_eq_true_iff.mp exr4
  obtain ⟨exNC, exr6⟩ := Bool.and_eq_true_iff.mp exr5
  obtain ⟨exCall, exr7⟩ := Bool.and_eq_true_iff.mp exr6
  obtain ⟨exPB, exFit_is_blank⟩ := Bool.and_eq_true_iff.mp exr7
  have BI := baseB_ok exBase
  have OX := oexB_ok exOex
  obtain ⟨esR, nR, DR⟩ := s.tab 0
  have NT := neq_at (He.cls_ok (x_0 c)) exNT
  have N := neq_at (He.cls_ok (x_3 c)) exNC
  have CO := call_at exCall
  have PB := prop_at exPB
  obtain ⟨fd_is_word, F_is_word'⟩ := F_is_word c
  obtain ⟨fd_first_bad, F_first_bad'⟩ := F_first_bad c
  obtain ⟨fd_Tableinit, F_Tableinit'⟩ := F_Tableinit c
  obtain ⟨fd_copied, F_copied'⟩ := F_copied c
  obtain ⟨fd_BadConditioninit, F_BadConditioninit'⟩ := F_BadConditioninit c
  obtain ⟨fd_run_end, F_run_end'⟩ := F_run_end c
  obtain ⟨fd_token_end, F_token_end'⟩ := F_token_end c
  obtain ⟨fd_tokens, F_tokens'⟩ := F_tokens c
  obtain ⟨fd_is_number, F_is_number'⟩ := F_is_number c
  obtain ⟨fd_after_atom_begins, F_after_atom_begins'⟩ := F_after_atom_begins c
  obtain ⟨fd_after_column, F_after_column'⟩ := F_after_column c
  obtain ⟨fd_after_atom_ends, F_after_atom_ends'⟩ := F_after_atom_ends c
  obtain ⟨fd_after, F_after'⟩ := F_after c
  obtain ⟨fd_wrong_place, F_wrong_place'⟩ := F_wrong_place c
  obtain ⟨fd_condition_words, F_condition_words'⟩ := F_condition_words c
  obtain ⟨fd_test_of, F_test_of'⟩ := F_test_of c
  obtain ⟨fd_joined, F_joined'⟩ := F_joined c
  obtain ⟨fd_negated, F_negated'⟩ := F_negated c
  obtain ⟨fd_with_signs_behind, F_with_signs_behind'⟩ := F_with_signs_behind c
  obtain ⟨fd_tree_of, F_tree_of'⟩ := F_tree_of c
  obtain ⟨fd_condition_tree, F_condition_tree'⟩ := F_condition_tree c
  obtain ⟨fd_Condinit, F_Condinit'⟩ := F_Condinit c
  obtain ⟨fd_is_integer, F_is_integer'⟩ := F_is_integer c
  obtain ⟨fd_Tablecontains, F_Tablecontains'⟩ := F_Tablecontains c
  obtain ⟨fd_code_of, F_code_of'⟩ := F_code_of c
  obtain ⟨fd_compares, F_compares'⟩ := F_compares c
  obtain ⟨fd_holds, F_holds'⟩ := F_holds c
  obtain ⟨fd_marks_from, F_marks_from'⟩ := F_marks_from c
  obtain ⟨fd_value_on, F_value_on'⟩ := F_value_on c
  obtain ⟨fd_is_taken, F_is_taken'⟩ := F_is_taken c
  obtain ⟨fd_Condcontains, F_Condcontains'⟩ := F_Condcontains c
  obtain ⟨fd_Condbool, F_Condbool'⟩ := F_Condbool c
  obtain ⟨fd_Condcall, F_Condcall'⟩ := F_Condcall c
  obtain ⟨fd_Tableeq, F_Tableeq'⟩ := F_Tableeq c
  obtain ⟨fd_law_bag, F_law_bag'⟩ := F_law_bag c
  obtain ⟨fd_law_take, F_law_take'⟩ := F_law_take c
  obtain ⟨fd_law_of, F_law_of'⟩ := F_law_of c
  obtain ⟨fd_law_long, F_law_long'⟩ := F_law_long c
  obtain ⟨fd_law_tree, F_law_tree'⟩ := F_law_tree c
  obtain ⟨fd_law_pieces, F_law_pieces'⟩ := F_law_pieces c
  obtain ⟨fd_law_text, F_law_text'⟩ := F_law_text c
  obtain ⟨fd_law_holds, F_law_holds'⟩ := F_law_holds c
  obtain ⟨fd_law_value, F_law_value'⟩ := F_law_value c
  obtain ⟨fd_law_row, F_law_row'⟩ := F_law_row c
  obtain ⟨fd_Cond_is_blank, F_Cond_is_blank'⟩ := fun_at (d := d_Cond_is_blank) (s.prop 0) exFit_is_blank
  obtain ⟨fd, F⟩ := F_law c
  have e := hfa.symm.trans (g_law X G c)
  cases e
  have b := FunD.bindsA (ps := ["script"]) F fun _ _ _ _ _ _ us hl => match us, hl with | [_], _ => rfl
  have T0 := free_all X G c
  have kd : ∀ {x : Str} {i : Int}, (x, He.Dv.int i) ∈ [(("(" : Str), He.Dv.int 0), ("|", .int 1), ("&", .int 2), ("~", .int 3)] → KDct K w (He.ga K "RANKS") x (.int i) := fun hx => by
    obtain ⟨u, h1, h2⟩ := He.valsB_ok exRanks hx
    exact ⟨esR, nR, u, DR.at_, DR.lit, h1, h2⟩
  have T : TxT K w mg (He.ga K "LONG_SIGNS") (He.ga K "RANKS") := { T0 with
    g_LONG_SIGNS := He.glo_ok X G (x_17 c)
    s_LONG_SIGNS := fun H => by
      have q := He.tupB_ok exLong H
      rw [strs_dv, List.map_map] at q
      exact q
    g_ATOM := He.str_ok X G (x_20 c)
    g_SIGN := He.str_ok X G (x_21 c)
    g_SIDE := He.str_ok X G (x_22 c)
    g_NUMBER := He.str_ok X G (x_23 c)
    g_BEHIND := He.str_ok X G (x_24 c)
    g_MOST_DIGITS := He.int_ok X G (x_19 c)
    g_RANKS := He.glo_ok X G (x_18 c)
    r_lp := kd (by simp)
    r_or := kd (by simp)
    r_and := kd (by simp)
    r_neg := kd (by simp) }
  have TT : Txt K mg (He.ga K "KEPT") := { T0 with
    g_KEPT := He.glo_ok X G (x_10 c)
    s_KEPT := fun H => by
      have q := He.tupB_ok exKept H
      rw [strs_dv] at q
      exact q
    g_WORD_LETTERS := He.int_ok X G (x_8 c)
    g_MOST_COLUMNS := He.int_ok X G (x_9 c) }
  have MB := He.meth_ok (x_15 c)
  have TC : TxC K (He.ga K "Table") := ⟨He.cls_ok (x_0 c), He.noat_ok (x_1 c)⟩
  have TD : TxD K (He.ga K "Cond") := ⟨He.cls_ok (x_3 c), He.noat_ok (x_4 c), He.noat_ok (x_5 c), He.noat_ok (x_6 c)⟩
  have TN : TxN mg (He.ga K "Table") (He.ga K "Cond") := { T0 with g_Table := He.glo_ok X G (x_11 c), g_Cond := He.glo_ok X G (x_12 c) }
  refine ⟨fd, fun s v => b s [v] rfl, fun base _ _ => ?_⟩
  have c_is_word : Cal P w K mg base CX0 1 "is_word" _ fd_is_word ["thing"] spIsWord := ⟨ok_is_word F_is_word' TT, g_is_word X G c, F_is_word'.kp, b_is_word F_is_word'⟩
  have c_first_bad : Cal P w K mg base CX0 2 "first_bad" _ fd_first_bad ["names"] (spFirstBadA K) := ⟨ok_first_bad F_first_bad' TT c_is_word, g_first_bad X G c, F_first_bad'.kp, b_first_bad F_first_bad'⟩
  have c_Table : CalI P w K mg base CX0 3 "Table" (He.ga K "Table") _ fd_Tableinit ["self", "columns"] (spTableF K (He.ga K "Table")) := ⟨ok_TableinitF (aK := He.ga K "KEPT") F_Tableinit' T0 TC c_first_bad, He.mkr_ok (x_2 c), He.glo_ok X G (x_11 c), b_Tableinit F_Tableinit'⟩
  have c_copied : Cal P w K mg base CX0 1 "copied" _ fd_copied ["thing"] spCopied := ⟨ok_copied F_copied' T0, g_copied X G c, F_copied'.kp, b_copied F_copied'⟩
  have c_BadCondition : CalE P w K mg base CX0 2 "BadCondition" (He.ga K "BadCondition") _ fd_BadConditioninit ["self", "at"] (spErrInt (He.ga K "BadCondition") "at") := ⟨ok_BadConditioninit F_BadConditioninit' T0 BI (He.glo_ok X G (x_13 c)) OX (He.noat_ok (x_16 c)) c_copied, OX, MB.at_, beq_iff_eq.mp MB.fn, He.glo_ok X G (x_14 c), b_BadConditioninit F_BadConditioninit'⟩
  have c_run_end : Cal P w K mg base CX0 1 "run_end" _ fd_run_end ["text", "at", "low", "high"] spRunEnd := ⟨ok_run_end F_run_end' T0, g_run_end X G c, F_run_end'.kp, b_run_end F_run_end'⟩
  have c_token_end : Cal P w K mg base CX0 2 "token_end" _ fd_token_end ["text", "at"] spTokEnd := ⟨ok_token_end F_token_end' T.toTxR.toTxL c_run_end, g_token_end X G c, F_token_end'.kp, b_token_end F_token_end'⟩
  have c_tokens : Cal P w K mg base CX0 3 "tokens" _ fd_tokens ["text"] spTokens := ⟨ok_tokens F_tokens' T0 c_token_end, g_tokens X G c, F_tokens'.kp, b_tokens F_tokens'⟩
  have c_is_number : Cal P w K mg base CX0 2 "is_number" _ fd_is_number ["token"] spIsNum := ⟨ok_is_number F_is_number' T.toTxR c_run_end, g_is_number X G c, F_is_number'.kp, b_is_number F_is_number'⟩
  have c_after_atom_begins : Cal P w K mg base CX0 1 "after_atom_begins" _ fd_after_atom_begins ["word", "columns"] (spAftAtom K) := ⟨ok_after_atom F_after_atom_begins' T.toTxR, g_after_atom_begins X G c, F_after_atom_begins'.kp, b_after_atom_begins F_after_atom_begins'⟩
  have c_after_column : Cal P w K mg base CX0 1 "after_column" _ fd_after_column ["word"] spAftCol := ⟨ok_after_column F_after_column' T.toTxR, g_after_column X G c, F_after_column'.kp, b_after_column F_after_column'⟩
  have c_after_atom_ends : Cal P w K mg base CX0 1 "after_atom_ends" _ fd_after_atom_ends ["word", "depth"] spAftEnds := ⟨ok_after_ends F_after_atom_ends' T.toTxR, g_after_atom_ends X G c, F_after_atom_ends'.kp, b_after_atom_ends F_after_atom_ends'⟩
  have c_after : Cal P w K mg base CX0 3 "after" _ fd_after ["coming", "word", "depth", "columns"] (spAft K) := ⟨ok_after F_after' T.toTxR c_after_atom_begins c_after_column c_after_atom_ends c_is_number, g_after X G c, F_after'.kp, b_after F_after'⟩
  have c_wrong_place : Cal P w K mg base CX0 4 "wrong_place" _ fd_wrong_place ["found", "length", "columns"] (spWrong K) := ⟨ok_wrong F_wrong_place' T.toTxR c_after, g_wrong_place X G c, F_wrong_place'.kp, b_wrong_place F_wrong_place'⟩
  have c_condition_words : Cal P w K mg base (L2.CX P w) 5 "condition_words" _ fd_condition_words ["text", "columns"] (spWordsX K (He.ga K "BadCondition")) := ⟨ok_wordsX F_condition_words' T.toTxR c_tokens c_wrong_place c_BadCondition, g_condition_words X G c, F_condition_words'.kp, b_condition_words F_condition_words'⟩
  have c_test_of : Cal P w K mg base CX0 1 "test_of" _ fd_test_of ["words", "columns"] (spTestOf K) := ⟨ok_test_of F_test_of' T, g_test_of X G c, F_test_of'.kp, b_test_of F_test_of'⟩
  have c_joined : Cal P w K mg base CX0 1 "joined" _ fd_joined ["sign", "left", "right"] spJoin := ⟨ok_joined F_joined' T, g_joined X G c, F_joined'.kp, b_joined F_joined'⟩
  have c_negated : Cal P w K mg base CX0 1 "negated" _ fd_negated ["tree"] spNeg := ⟨ok_negated F_negated' T, g_negated X G c, F_negated'.kp, b_negated F_negated'⟩
  have c_with_signs_behind : Cal P w K mg base CX0 1 "with_signs_behind" _ fd_with_signs_behind ["items"] spShunt := ⟨ok_shunt F_with_signs_behind' T, g_with_signs_behind X G c, F_with_signs_behind'.kp, b_with_signs_behind F_with_signs_behind'⟩
  have c_tree_of : Cal P w K mg base CX0 2 "tree_of" _ fd_tree_of ["items"] spTreeOf := ⟨ok_tree_of F_tree_of' T c_with_signs_behind c_negated c_joined, g_tree_of X G c, F_tree_of'.kp, b_tree_of F_tree_of'⟩
  have c_condition_tree : Cal P w K mg base CX0 3 "condition_tree" _ fd_condition_tree ["words", "columns"] (spCTree K) := ⟨ok_ctree F_condition_tree' T c_test_of c_tree_of, g_condition_tree X G c, F_condition_tree'.kp, b_condition_tree F_condition_tree'⟩
  have c_Cond : CalI P w K mg base (L2.CX P w) 6 "Cond" (He.ga K "Cond") _ fd_Condinit ["self", "text", "table"] (spCondX K (He.ga K "Table") (He.ga K "Cond") (He.ga K "BadCondition")) := ⟨ok_Condinit F_Condinit' T0 TC TD c_condition_words c_condition_tree, He.mkr_ok (x_7 c), He.glo_ok X G (x_12 c), b_Condinit F_Condinit'⟩
  have c_CondR : CalI P w K mg base CX0 6 "Cond" (He.ga K "Cond") _ fd_Condinit ["self", "text", "table"] (spCondR (He.ga K "Table") (He.ga K "Cond")) := ⟨fn_mono (fn0 c_Cond.ok) fun _ _ _ _ h => condR_of h, c_Cond.mkr, c_Cond.at_, c_Cond.b⟩
  have c_is_integer : Cal P w K mg base CX0 1 "is_integer" _ fd_is_integer ["thing"] spIsInt := ⟨ok_is_integer F_is_integer' T0, g_is_integer X G c, F_is_integer'.kp, b_is_integer F_is_integer'⟩
  have c_Tablecontains : CalM P w K mg base CX0 2 (He.ga K "Table") "__contains__" _ fd_Tablecontains ["self", "thing"] (spContainsF (He.ga K "Table")) := ⟨ok_TablecontainsF F_Tablecontains' TT TC c_is_integer, He.meth_ok (x_25 c), b_Tablecontains F_Tablecontains'⟩
  have c_code_of : Cal P w K mg base CX0 1 "code_of" _ fd_code_of ["tree"] spCodeOf := ⟨ok_code_of F_code_of' T0, g_code_of X G c, F_code_of'.kp, b_code_of F_code_of'⟩
  have c_compares : Cal P w K mg base CX0 1 "compares" _ fd_compares ["left", "sign", "right"] spCompares := ⟨ok_compares F_compares' T0, g_compares X G c, F_compares'.kp, b_compares F_compares'⟩
  have c_holds : Cal P w K mg base CX0 2 "holds" _ fd_holds ["test", "row"] (spHolds K) := ⟨ok_holds F_holds' T0 c_compares, g_holds X G c, F_holds'.kp, b_holds F_holds'⟩
  have c_marks_from : Cal P w K mg base CX0 1 "marks_from" _ fd_marks_from ["code", "found", "everywhere"] (spMarks P w) := ⟨ok_marks_from F_marks_from' T0, g_marks_from X G c, F_marks_from'.kp, b_marks_from F_marks_from'⟩
  have c_value_on : Cal P w K mg base CX0 3 "value_on" _ fd_value_on ["code", "row"] (spValueOn K) := ⟨ok_value_on F_value_on' T0 c_holds c_marks_from, g_value_on X G c, F_value_on'.kp, b_value_on F_value_on'⟩
  have c_is_taken : Cal P w K mg base CX0 4 "is_taken" _ fd_is_taken ["code", "row"] (spIsTaken K) := ⟨ok_is_taken F_is_taken' T0 c_value_on, g_is_taken X G c, F_is_taken'.kp, b_is_taken F_is_taken'⟩
  have c_Condcontains : CalM P w K mg base CX0 5 (He.ga K "Cond") "__contains__" _ fd_Condcontains ["self", "thing"] (spCondIn (He.ga K "Table") (He.ga K "Cond")) := ⟨ok_Condcontains F_Condcontains' T0 TD c_Tablecontains c_is_taken c_code_of, He.meth_ok (x_26 c), b_Condcontains F_Condcontains'⟩
  have c_Condbool : CalM P w K mg base CX0 1 (He.ga K "Cond") "__bool__" _ fd_Condbool ["self"] (spCondBool (He.ga K "Cond")) := ⟨ok_Condbool F_Condbool' T0 TD, He.meth_ok (x_27 c), b_Condbool F_Condbool'⟩
  have c_Condcall : CalG P w K mg base CX0 4 _ fd_Condcall ["self", "row"] (spCondCall K (He.ga K "Cond")) := ⟨ok_Condcall F_Condcall' T0 TD c_value_on c_code_of, b_Condcall F_Condcall'⟩
  have c_isblank : CalG P w K mg base CX0 1 _ fd_Cond_is_blank ["self"] (spCondBlank (He.ga K "Cond")) := ⟨ok_Cond_is_blank F_Cond_is_blank' T0 TD, b_Cond_is_blank F_Cond_is_blank'⟩
  have c_Tableeq : CalM P w K mg base CX0 1 (He.ga K "Table") "__eq__" _ fd_Tableeq ["self", "other"] (spEqF (He.ga K "Table")) := ⟨ok_TableeqF F_Tableeq' TN TC NT, He.meth_ok (x_28 c), b_Tableeq F_Tableeq'⟩
  have c_law_bag : Cal P w K mg base CX0 1 "_law_bag" _ fd_law_bag ["script", "at"] (spBag K) := ⟨ok_bag F_law_bag' T0, g_law_bag X G c, F_law_bag'.kp, b_law_bag F_law_bag'⟩
  have c_law_take : Cal P w K mg base CX0 1 "_law_take" _ fd_law_take ["bag", "many"] spTake := ⟨ok_take F_law_take' T0, g_law_take X G c, F_law_take'.kp, b_law_take F_law_take'⟩
  have c_law_of : Cal P w K mg base CX0 2 "_law_of" _ fd_law_of ["bag", "some"] (spOf K) := ⟨ok_of F_law_of' T0 c_law_take, g_law_of X G c, F_law_of'.kp, b_law_of F_law_of'⟩
  have c_law_long : Cal P w K mg base CX0 2 "_law_long" _ fd_law_long ["bag", "blocks"] spLongS := ⟨ok_longS F_law_long' T0 c_law_take, g_law_long X G c, F_law_long'.kp, b_law_long F_law_long'⟩
  have r_law_tree : ∀ n, Cal P w K mg base CX0 (n + 2) "_law_tree" _ fd_law_tree ["bag", "depth", "many", "numbers"] (spLTree n) := fun n => by
    induction n with
    | zero => exact ⟨⟨fun _ _ _ _ h => False.elim h, fun _ _ _ _ _ _ _ _ _ _ _ _ _ h => False.elim h⟩, g_law_tree X G c, F_law_tree'.kp, b_law_tree F_law_tree'⟩
    | succ n ih => exact ⟨ok_tree n F_law_tree' T0 c_law_take c_law_of ih, g_law_tree X G c, F_law_tree'.kp, b_law_tree F_law_tree'⟩
  have c_law_tree := r_law_tree 5
  have r_law_pieces : ∀ n, Cal P w K mg base CX0 (n + 1) "_law_pieces" _ fd_law_pieces ["bag", "tree", "columns", "outer"] (spPieces n) := fun n => by
    induction n with
    | zero => exact ⟨⟨fun _ _ _ _ h => False.elim h, fun _ _ _ _ _ _ _ _ _ _ _ _ _ h => False.elim h⟩, g_law_pieces X G c, F_law_pieces'.kp, b_law_pieces F_law_pieces'⟩
    | succ n ih => exact ⟨ok_pieces n F_law_pieces' T0 c_law_take ih, g_law_pieces X G c, F_law_pieces'.kp, b_law_pieces F_law_pieces'⟩
  have c_law_pieces := r_law_pieces 5
  have c_law_text : Cal P w K mg base CX0 2 "_law_text" _ fd_law_text ["bag", "pieces"] spText := ⟨ok_text7 F_law_text' T0 c_law_take, g_law_text X G c, F_law_text'.kp, b_law_text F_law_text'⟩
  have c_law_holds : Cal P w K mg base CX0 1 "_law_holds" _ fd_law_holds ["one", "sign", "other"] spLHolds := ⟨ok_holds7 F_law_holds' T0, g_law_holds X G c, F_law_holds'.kp, b_law_holds F_law_holds'⟩
  have r_law_value : ∀ n, Cal P w K mg base CX0 (n + 1) "_law_value" _ fd_law_value ["tree", "row"] (spLVal n) := fun n => by
    induction n with
    | zero => exact ⟨⟨fun _ _ _ _ h => False.elim h, fun _ _ _ _ _ _ _ _ _ _ _ _ _ h => False.elim h⟩, g_law_value X G c, F_law_value'.kp, b_law_value F_law_value'⟩
    | succ n ih => exact ⟨ok_lval n F_law_value' T0 c_law_holds ih, g_law_value X G c, F_law_value'.kp, b_law_value F_law_value'⟩
  have c_law_value := r_law_value 5
  have c_law_row : Cal P w K mg base CX0 3 "_law_row" _ fd_law_row ["bag", "many", "numbers"] spRow7 := ⟨ok_row7 F_law_row' T0 c_law_take c_law_long c_law_of, g_law_row X G c, F_law_row'.kp, b_law_row F_law_row'⟩
  exact ok_law F T0 TC TD NT PB CO c_law_bag c_law_take c_law_long c_law_row c_law_tree c_law_pieces c_law_text c_law_value c_Table c_CondR c_Condcall c_Condcontains c_Condbool c_isblank c_Tableeq
end K07
open PySem PySem.W PySem.Calls PyProof.Rows
set_option maxHeartbeats 0 in
theorem PySem.Challenge.cw_emptyfilters_k07_whole_conditions_by_row_holds : PySem.Challenge.rw_emptyfilters_k07_whole_conditions_by_row.Holds := by
  w_on; o_law
  refine HandSHeadRun.head_any (r := OpenLaw.row PySem.Challenge.rw_emptyfilters_k07_whole_conditions_by_row) (q := view (OpenLaw.row PySem.Challenge.rw_emptyfilters_k07_whole_conditions_by_row).prog [82]) (H := K07.hkM) (ob := K07.ob) (M := 12000) (loose := ((["_wall", "__name__", "KEPT", "WORD_LETTERS", "is_integer", "is_word", "copied", "EmptyfiltersError", "BadTable", "BadCondition", "WrongTable", "LONG_SIGNS"] : List PySem.Str) ++ (["MOST_DIGITS", "run_end", "token_end", "tokens", "is_number", "RANKS", "WHOLE", "joined", "negated", "code_of", "with_signs_behind", "tree_of"] : List PySem.Str) ++ (["test_words", "words_within", "code_words", "ATOM", "SIGN", "SIDE", "NUMBER", "BEHIND", "after_atom_begins", "after_column", "after_atom_ends", "after"] : List PySem.Str) ++ (["wrong_place", "condition_words", "test_of", "condition_tree", "place", "equals", "stand", "stretches", "free_spots", "spots_beside", "Kinds", "compares"] : List PySem.Str) ++ (["holds", "marks_from", "value_on", "is_taken", "tests_in", "numbers_in", "marks_on", "same_values", "with_tree", "is_operand", "tree_for", "Cond"] : List PySem.Str) ++ (["MOST_COLUMNS", "first_bad", "Table", "_law_bag", "_law_take", "_law_of", "_law_long", "_law_tree", "_law_pieces", "_law_text", "_law_holds", "_law_value"] : List PySem.Str) ++ (["_law_row"] : List PySem.Str))) (d := HandSHeadRun.topDef (OpenLaw.row PySem.Challenge.rw_emptyfilters_k07_whole_conditions_by_row).prog 82) (kwd := []) K07.ob_eq
    (by kernel_rfl) (fun s => by kernel_rfl) K07.run (by kernel_rfl) (by kernel_rfl) (by kernel_rfl) (by rfl) (by first | assumption | decide +kernel) (by decide +kernel) ⟨rfl, rfl, rfl, rfl, rfl, by decide +kernel⟩ ?hw ?hc
  case hw => w_witness2
  case hc =>
    refine L2.walk_ofE (l := PySem.Challenge.rw_emptyfilters_k07_whole_conditions_by_row) (n := 63) (k := 8) (x := "script") (CX := L2.CX0) rfl (by decide) (by kernel_rfl) ⟨rfl, by decide, by decide⟩ ?F (fun _ _ _ _ z => z)
    intro w mg fa h Y G hmg0
    obtain ⟨K, KX, c⟩ := Y
    have hmg : mg ("law" : PySem.Str) = some (.ref fa) := by
      have e : (HandSHeadRun.topDef (OpenLaw.row PySem.Challenge.rw_emptyfilters_k07_whole_conditions_by_row).prog 82).name = ("law" : PySem.Str) := by kernel_rfl
      rw [← e]
      exact hmg0
    obtain ⟨fd, hb, hF⟩ := K07.facts (P := (PySem.Challenge.rw_emptyfilters_k07_whole_conditions_by_row).prog) (w := w) KX G hmg c
    exact ⟨K, fd, K07.spLaw K, KX, hb, fun H a ns hl _ hS => ⟨a, ns, rfl, hS, hl, fun _ => rfl⟩, hF⟩
