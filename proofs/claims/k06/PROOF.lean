import PyProof.Rows.All
import Wide.All
import OpenK.AllK
import Wide.FinOn
import HandS.ForMost
import HandS.IsInst
import HandS.TupAny
import HandS.TupMul
import HandS.Wide
import HandS.OwnEq
import HandS.Walk
import HandS.Defaults
import PyProof.InstNe
import KE.KFmtOwn
import HandS.Style
import HandS.FStr
import HandS.Small
import KE.GoesEnum
import PyProof.CollectStr
import PyProof.ListNew
import PyProof.ListRange
import HandS.ForExc
import HandS.ExcInit
import HandS.ExcField
import HandS.ExcIs
import HandS.ClsMeth
import KE.KExcIs
import HandS.Ends
import HandS.HeadEnd
import PyProof.ReprRoads
import PyProof.ReprLen
import PyProof.StrLawsRepr
import PyProof.LongRange
import HandS.SetFor
import HandS.Strs
import HandS.Deep
import PyProof.P3In
import HandS.Star
import HandS.Head0
import HandS.Head1
import HandS.Head2
import HandS.HeadHook1
import HandS.HeadHook2
import HandS.HeadHook3
import PySem.Challenge.RW_emptyfilters_k06_integers_beside_rows
set_option Elab.async false
set_option linter.all false
set_option maxRecDepth 100000
set_option maxHeartbeats 4000000
namespace Own
open PySem PySem.Spec PyProof.Rows L2
section
variable {X : Cx} {n : Nat}
theorem run_own {CX : CXT} {f : Addr} {fd : FuncData} {ps : List Str} {sp : Sp} {E : XK} (F : FnOk X.prog X.w X.K X.mg X.base CX n f fd ps sp)
    (hb : Binds X.K fd ps []) (hx : Passes CX X E) (hr : Room n X.A) {pins : List (Addr × Obj)} {s : Shared} {σ : L2.St} {H : Hp} {vs : List V} {us : List Value} {Q : V → Hp → Prop} (I : Inv X pins σ H s) (r : Vals vs us)
    (hsp : sp vs H Q E) : wpAny (model X.prog X.w) X.A (call (.ref f) us) (EP X pins σ Q) X.xe s :=
  run_fn (ds := []) (dvs := []) F hr hb .nil hx I r (by rw [List.append_nil]; exact hsp)
/-- x in o, by an own __contains__ at f -/
def rInOwn (C : Addr) (neg : Bool) (sp : Sp) (E : XK) : R2 := fun x y H Q => ∃ a dx fs, y = .ref a ∧ H a = some (.ins C dx fs) ∧ sp [.ref a, x] H (fun v H' => ∃ b, v = .bl b ∧ Q (.bl (if neg then !b else b)) H') E
theorem contains_own {CX : CXT} {C f : Addr} {fd : FuncData} {ps : List Str} {sp : Sp} {E : XK} (F : FnOk X.prog X.w X.K X.mg X.base CX n f fd ps sp)
    (hm : Meth X.K C "__contains__" f) (hb : Binds X.K fd ps []) (hx : Passes CX X E) (hr : Room n X.A) {pins : List (Addr × Obj)} {s : Shared} {σ : L2.St} {H : Hp} {x : V} {v : Value} {a dx : Addr} {fs : List (Str × V)} {Q : Bool → Hp → Prop} (I : Inv X pins σ H s) (rx : RelV x v)
    (ha : H a = some (.ins C dx fs)) (hsp : sp [.ref a, x] H (fun v H' => ∃ b, v = .bl b ∧ Q b H') E) :
    wpAny (model X.prog X.w) X.A (contains (.ref a) v) (fun b s' => ∃ H', Inv X pins σ H' s' ∧ Q b H') X.xe s := by
  obtain ⟨mA, J, _⟩ := ins_get I.hok ha
  obtain ⟨od, J, _⟩ := J.look
  have hK := I.kIn
  have hf := PySem.W.looks_findIn (M := model X.prog X.w) hK hm.at_
  unfold contains
  refine wpAny_holding ?_
  have hs0 : stdlibNamesSay? (.ref a) v = none := by rfl
  rw [hs0]
  show wpAny (model X.prog X.w) X.A (specialOf (.ref a) "__contains__" >>= _) _ _ _
  unfold specialOf
  refine wpAny_bind (wpAny_bind (J.type.here (hf.here ?_)))
  have e1 : ((some (Value.ref f)) == some Value.none) = false := by rfl
  dsimp only
  rw [e1]
  simp only [Bool.false_eq_true, if_false]
  unfold callSpecialUnlessNone? specialOf
  refine wpAny_bind (wpAny_bind (wpAny_bind (J.type.here (hf.here ?_))))
  refine wpAny_holding (wpAny_bind ((PySem.W.bind_fn hK _ (beq_iff_eq.mp hm.fn)).here ?_))
  dsimp only
  have e2 : (Value.ref f == Value.none) = false := by rfl
  rw [e2]
  simp only [Bool.false_eq_true, if_false]
  show wpAny (model X.prog X.w) X.A (call (.ref f) [.ref a, v] >>= _) _ _ _
  have r2 : Vals [V.ref a, x] [Value.ref a, v] := .cons rfl (.cons rx .nil)
  refine wpAny_bind (thn (run_own (n := n) F hb hx hr I r2 hsp) fun u s1 ⟨z, H1, I1, rz, b, ez, q⟩ => ?_)
  subst ez
  cases rz
  refine wpAny_pure ?_
  show wpAny (model X.prog X.w) X.A (truthy (.bool b)) _ _ _
  exact wpAny_pure ⟨H1, I1, q⟩
theorem op_in_own {CX : CXT} {C f : Addr} {fd : FuncData} {ps : List Str} {sp : Sp} {E : XK} (F : FnOk X.prog X.w X.K X.mg X.base CX n f fd ps sp)
    (hm : Meth X.K C "__contains__" f) (hb : Binds X.K fd ps []) (hx : Passes CX X E) (hr : Room n X.A) : OpR X (compareOp .In) (rInOwn C false sp E) := by
  intro pins s σ H x y v u Q I rx ry hq
  obtain ⟨a, dx, fs, rfl, ha, h⟩ := hq
  cases ry
  refine wpAny_bind (thn (contains_own F hm hb hx hr I rx ha (Q := fun b H' => Q (.bl b) H') h) fun b s1 ⟨H1, I1, q⟩ => ?_)
  exact wpAny_pure ⟨.bl b, H1, I1, rfl, q⟩
theorem op_notIn_own {CX : CXT} {C f : Addr} {fd : FuncData} {ps : List Str} {sp : Sp} {E : XK} (F : FnOk X.prog X.w X.K X.mg X.base CX n f fd ps sp)
    (hm : Meth X.K C "__contains__" f) (hb : Binds X.K fd ps []) (hx : Passes CX X E) (hr : Room n X.A) : OpR X (compareOp .NotIn) (rInOwn C true sp E) := by
  intro pins s σ H x y v u Q I rx ry hq
  obtain ⟨a, dx, fs, rfl, ha, h⟩ := hq
  cases ry
  refine wpAny_bind (thn (contains_own F hm hb hx hr I rx ha (Q := fun b H' => Q (.bl (!b)) H') h) fun b s1 ⟨H1, I1, q⟩ => ?_)
  exact wpAny_pure ⟨.bl (!b), H1, I1, rfl, q⟩
end
/-! ### callees by name -/
structure Cal (P : Program) (w : World) (K : PySem.W.Frag) (mg : Str → Option Value) (base : Heap) (CX : CXT) (k : Nat) (x : Str) (f : Addr) (fd : FuncData) (ps : List Str) (sp : Sp) : Prop where
  ok : FnOk P w K mg base CX k f fd ps sp
  at_ : mg x = some (.ref f)
  kp : PySem.W.keepIn K (.ref f) = true
  b : Binds K fd ps []
theorem pe_cal {X : Cx} {k : Nat} {x : Str} {f : Addr} {fd : FuncData} {ps : List Str} {sp : Sp} {e : Expr} {es : List Expr} {t : TA} {p pos : Pos} (c : Cal X.prog X.w X.K X.mg X.base CX0 k x f fd ps sp) (hr : Room k X.A) (ha : PA X (e :: es) t)
    (hg : Gl X x := by rfl) (hdb : (x == ("__debug__" : Str)) = false := by decide) (he : starEach (e :: es) X.env = (false, eval e X.env) :: starEach es X.env := by rfl) (hpl : (backTo pos (starEach es X.env)).any (·.1) = false := by rfl) :
    PE X (.Call (.Name x p) (e :: es) [] pos) (tCall sp [] E0 t) := pe_call c.ok hr hg c.at_ c.kp c.b .nil pass0 ha hdb he hpl
theorem pe_gint {X : Cx} {x : Str} {i : Int} {pos : Pos} (hg : Gl X x) (hm : ∃ t, X.mg x = some (.int i t)) (hd : (x == ("__debug__" : Str)) = false := by decide) : PE X (.Name x pos) (tC (.int i)) := by
  obtain ⟨t, h⟩ := hm
  exact pe_glob hg h ⟨t, rfl⟩ hd
theorem hu_of' {k : Nat} {A : Around} (hr : Room k A) : A.units + 64 < cLine := hr.units
/-! ### builtins that the top leaves -/
structure Free (mg : Str → Option Value) : Prop where
  len : mg "len" = none
  range : mg "range" = none
  enumerate : mg "enumerate" = none
  int : mg "int" = none
  abs : mg "abs" = none
  list : mg "list" = none
  tuple : mg "tuple" = none
  all : mg "all" = none
  isinstance : mg "isinstance" = none
  max : mg "max" = none
  min : mg "min" = none
  str : mg "str" = none
  bool : mg "bool" = none
  repr : mg "repr" = none
  sorted : mg "sorted" = none
  set : mg "set" = none
  sum : mg "sum" = none
  any : mg "any" = none
  dict : mg "dict" = none
/-! ### the bag: a list of two ints, and what a draw from it leaves -/
def Bag (H : Hp) (b : Addr) : Prop := ∃ x y : Int, H b = some (.lst [.int x, .int y]) ∧ 0 ≤ x ∧ 0 ≤ y
def But (b : Addr) (H H' : Hp) : Prop := ∀ a o, a ≠ b → H a = some o → H' a = some o
theorem But.refl {b : Addr} {H : Hp} : But b H H := fun _ _ _ h => h
theorem But.trans {b : Addr} {H H1 H2 : Hp} (x : But b H H1) (y : But b H1 H2) : But b H H2 := fun a o n h => y a o n (x a o n h)
theorem But.same {b : Addr} {H H1 : Hp} (x : Same H H1) : But b H H1 := fun a o _ h => x a o h
theorem But.new {b p : Addr} {H H1 : Hp} {o : HO} (x : But b H H1) (hp : H1 p = none) : But b H (upd H1 p o) := fun a u n h => by
  have q := x a u n h
  rw [upd_ne (ne_of_none q hp)]
  exact q
theorem But.put {b : Addr} {H H1 : Hp} {o : HO} (x : But b H H1) : But b H (upd H1 b o) := fun a u n h => by
  rw [upd_ne n]
  exact x a u n h
theorem But.putb {b p : Addr} {H H1 : Hp} {o : HO} (x : But b H H1) (hp : H p = none) : But b H (upd H1 p o) := fun a u n h => by
  rw [upd_ne (ne_of_none h hp)]
  exact x a u n h
theorem But.list {K : PySem.W.Frag} {b a : Addr} {H H1 : Hp} {xs : List V} (x : But b H H1) (n : a ≠ b) (h : SqL K H a xs) : SqL K H1 a xs := by
  rcases h with (h | ⟨o, h⟩) | h
  · exact .inl (.inl (x _ _ n h))
  · exact .inl (.inr ⟨o, x _ _ n h⟩)
  · exact .inr h
theorem But.tup {K : PySem.W.Frag} {b a : Addr} {H H1 : Hp} {xs : List V} (x : But b H H1) (n : a ≠ b) (h : SqT K H a xs) : SqT K H1 a xs := by
  rcases h with (h | ⟨o, h⟩) | h
  · exact .inl (.inl (x _ _ n h))
  · exact .inl (.inr ⟨o, x _ _ n h⟩)
  · exact .inr h
theorem Bag.new {b p : Addr} {H : Hp} {o : HO} (x : Bag H b) (hp : H p = none) : Bag (upd H p o) b := by
  obtain ⟨x, y, h, h0, h1⟩ := x
  exact ⟨x, y, by rw [upd_ne (ne_of_none h hp)]; exact h, h0, h1⟩
theorem Bag.ne {b p : Addr} {H : Hp} (x : Bag H b) (hp : H p = none) : b ≠ p := by
  obtain ⟨x, y, h, _, _⟩ := x
  exact ne_of_none h hp
def spTake : Sp := fun vs H Q _ => ∃ (b : Addr) (m : Int), vs = [.ref b, .int m] ∧ Bag H b ∧ 0 < m ∧ m < 1073741824 ∧ ∀ (d : Int) (H' : Hp), 0 ≤ d → d < m → But b H H' → Bag H' b → Q (.int d) H'
/-- some[draw]: one of the items of a list -/
def spOf (K : PySem.W.Frag) : Sp := fun vs H Q _ => ∃ (b l : Addr) (xs : List V), vs = [.ref b, .ref l] ∧ Bag H b ∧ l ≠ b ∧ SqL K H l xs ∧ xs ≠ [] ∧ xs.length < 1000000 ∧ ∀ (v : V) (H' : Hp), v ∈ xs → But b H H' → Bag H' b → Q v H'
def spBag (K : PySem.W.Frag) : Sp := fun vs H Q _ => ∃ (a : Addr) (ns : List Int) (n : Nat), vs = [.ref a, .int n] ∧ SqL K H a (ns.map V.int) ∧ ns.length ≤ 63 ∧ n ≤ 63 ∧ ∀ (b : Addr) (H' : Hp), Same H H' → H b = none → Bag H' b → Q (.ref b) H'
theorem mem_cut {xs : List V} {lo hi : Option Int} {x : V} (h : x ∈ cutV xs lo hi) : x ∈ xs := by
  unfold cutV at h
  exact List.mem_of_mem_drop (List.mem_of_mem_take h)
theorem int_of_mem {ns : List Int} {x : V} (h : x ∈ ns.map V.int) : ∃ u, x = V.int u := by
  obtain ⟨u, _, e⟩ := List.mem_map.mp h
  exact ⟨u, e.symm⟩
theorem same_new {p : Addr} {H H1 : Hp} {o : HO} (x : Same H H1) (hp : H1 p = none) : Same H (upd H1 p o) := fun a u h => by
  have q := x a u h
  rw [upd_ne (ne_of_none q hp)]
  exact q
theorem same_newH {p : Addr} {H : Hp} {o : HO} (hp : H p = none) : Same H (upd H p o) := same_new (Same.refl H) hp
theorem len_ints {ns : List Int} : (ns.map V.int).length = ns.length := List.length_map ..
/-- two ways to one value: what is to be shown behind is shown once -/
theorem pick {α : Type} {P : α → Prop} {G : Prop} (main : (∀ c, P c) → G) (rest : ∀ c, P c) : G := main rest
theorem pickP {α : Type} (R : α → Prop) {P : α → Prop} {G : Prop} (main : (∀ c, R c → P c) → G) (rest : ∀ c, R c → P c) : G := main rest
theorem abs_nn (i : Int) : 0 ≤ (if i < 0 then -i else i) := by
  split <;> omega
/-! ### kinds of values -/
inductive Kd where
  | non | bl | int | str | lst | tup
  deriving DecidableEq
def Kd.nm : Kd → String
  | .non => "NoneType"
  | .bl => "bool"
  | .int => "int"
  | .str => "str"
  | .lst => "list"
  | .tup => "tuple"
def kdO : Option HO → Option Kd
  | some (.lst _) => some .lst
  | some (.tup _) => some .tup
  | _ => none
def kd (H : Hp) : V → Option Kd
  | .non => some .non
  | .bl _ => some .bl
  | .int _ => some .int
  | .str _ => some .str
  | .ref a => kdO (H a)
  | _ => none
theorem kdO_lst {o : Option HO} (h : kdO o = some .lst) : ∃ xs, o = some (.lst xs) := by
  unfold kdO at h
  split at h
  · exact ⟨_, rfl⟩
  · cases h
  · cases h
theorem kdO_tup {o : Option HO} (h : kdO o = some .tup) : ∃ xs, o = some (.tup xs) := by
  unfold kdO at h
  split at h
  · cases h
  · exact ⟨_, rfl⟩
  · cases h
theorem kdO_or {o : Option HO} {t : Kd} (h : kdO o = some t) : t = .lst ∨ t = .tup := by
  unfold kdO at h
  split at h
  · cases h; exact .inl rfl
  · cases h; exact .inr rfl
  · cases h
theorem kd_ok {K : PySem.W.Frag} {H : Hp} {v : V} {t : Kd} (h : kd H v = some t) : TyX K H v (.type t.nm) := by
  cases v with
  | non => cases h; exact .base .non
  | bl b => cases h; exact .base (.bl b)
  | int i => cases h; exact .base (.int i)
  | str z => cases h; exact .base (.str z)
  | ref a =>
    have h1 : kdO (H a) = some t := h
    rcases kdO_or h1 with e | e <;> subst e
    · obtain ⟨xs, e⟩ := kdO_lst h1
      exact .base (.lst e)
    · obtain ⟨xs, e⟩ := kdO_tup h1
      exact .base (.tup e)
  | _ => cases h
theorem kd_lst {H : Hp} {a : Addr} {xs : List V} (h : H a = some (.lst xs)) : kd H (.ref a) = some .lst := by
  show kdO (H a) = _
  rw [h] <;> rfl
theorem kd_tup {H : Hp} {a : Addr} {xs : List V} (h : H a = some (.tup xs)) : kd H (.ref a) = some .tup := by
  show kdO (H a) = _
  rw [h] <;> rfl
theorem kd_but {H H' : Hp} {b : Addr} {v : V} {t : Kd} (h : kd H v = some t) (x : But b H H') (n : v ≠ .ref b) : kd H' v = some t := by
  cases v with
  | ref a =>
    have na : a ≠ b := fun e => n (by rw [e])
    have h1 : kdO (H a) = some t := h
    rcases kdO_or h1 with e | e <;> subst e
    · obtain ⟨xs, e⟩ := kdO_lst h1
      exact kd_lst (x _ _ na e)
    · obtain ⟨xs, e⟩ := kdO_tup h1
      exact kd_tup (x _ _ na e)
  | _ => exact h
theorem kd_same {H H' : Hp} {v : V} {t : Kd} (h : kd H v = some t) (x : Same H H') : kd H' v = some t := by
  cases v with
  | ref a =>
    have h1 : kdO (H a) = some t := h
    rcases kdO_or h1 with e | e <;> subst e
    · obtain ⟨xs, e⟩ := kdO_lst h1
      exact kd_lst (x _ _ e)
    · obtain ⟨xs, e⟩ := kdO_tup h1
      exact kd_tup (x _ _ e)
  | _ => exact h
def isIntV : V → Bool
  | .int _ => true
  | _ => false
theorem kit_int {K : PySem.W.Frag} (t : Kd) : PySem.W.kitOne K (.type t.nm) (.type "int") = some (decide (t = .int) || decide (t = .bl)) := by
  cases t <;> exact kit_ty (by decide +kernel)
theorem kit_bool {K : PySem.W.Frag} (t : Kd) : PySem.W.kitOne K (.type t.nm) (.type "bool") = some (decide (t = .bl)) := by
  cases t <;> exact kit_ty (by decide +kernel)
theorem kit_str {K : PySem.W.Frag} (t : Kd) : PySem.W.kitOne K (.type t.nm) (.type "str") = some (decide (t = .str)) := by
  cases t <;> exact kit_ty (by decide +kernel)
theorem kit_tuple {K : PySem.W.Frag} (t : Kd) : PySem.W.kitOne K (.type t.nm) (.type "tuple") = some (decide (t = .tup)) := by
  cases t <;> exact kit_ty (by decide +kernel)
theorem kit_list {K : PySem.W.Frag} (t : Kd) : PySem.W.kitOne K (.type t.nm) (.type "list") = some (decide (t = .lst)) := by
  cases t <;> exact kit_ty (by decide +kernel)
theorem kit_dict {K : PySem.W.Frag} (t : Kd) : PySem.W.kitOne K (.type t.nm) (.type "dict") = some false := by
  cases t <;> exact kit_ty (by decide +kernel)
theorem kd_isInt {H : Hp} {v : V} {t : Kd} (h : kd H v = some t) : isIntV v = decide (t = .int) := by
  cases v with
  | ref a => rcases kdO_or (show kdO (H a) = some t from h) with e | e <;> subst e <;> rfl
  | _ => cases h <;> rfl
theorem kd_str {H : Hp} {v : V} (h : kd H v = some .str) : ∃ z, v = .str z := by
  cases v with
  | str z => exact ⟨z, rfl⟩
  | ref a => rcases kdO_or (show kdO (H a) = some .str from h) with e | e <;> cases e
  | _ => cases h
theorem kd_tuple {H : Hp} {v : V} (h : kd H v = some .tup) : ∃ a xs, v = .ref a ∧ H a = some (.tup xs) := by
  cases v with
  | ref a =>
    obtain ⟨xs, e⟩ := kdO_tup (show kdO (H a) = some .tup from h)
    exact ⟨a, xs, rfl, e⟩
  | _ => cases h
theorem int_not_bool {H : Hp} {v : V} {t : Kd} (h : kd H v = some t) : ((decide (t = .int) || decide (t = .bl)) && !decide (t = .bl)) = isIntV v := by
  rw [kd_isInt h]
  cases t <;> rfl
/-- is_integer -/
def spIsInt : Sp := fun vs H Q _ => ∃ (v : V) (t : Kd), vs = [v] ∧ kd H v = some t ∧ Q (.bl (isIntV v)) H
theorem take_snoc {α : Type} {xs : List α} {i : Nat} {x : α} (h : xs[i]? = some x) : xs.take (i + 1) = xs.take i ++ [x] := by
  rw [List.take_succ, h] <;> rfl
theorem map_take_snoc {α β : Type} {xs : List α} {i : Nat} {x : α} (f : α → β) (h : xs[i]? = some x) : (xs.take (i + 1)).map f = (xs.take i).map f ++ [f x] := by
  rw [take_snoc h, List.map_append] <;> rfl
/-- a value whose kind is known, a tuple's items too -/
def Known (H : Hp) (v : V) : Prop := (∃ t, kd H v = some t) ∧ ∀ a xs, v = .ref a → H a = some (.tup xs) → xs.length ≤ 1000 ∧ ∀ x ∈ xs, ∃ t, kd H x = some t
def rowO : Option HO → Int → Bool
  | some (.tup xs), m => decide ((xs.length : Int) = m) && xs.all isIntV
  | _, _ => false
/-- a tuple of m integers -/
def rowB (H : Hp) (v : V) (m : Int) : Bool := match v with
  | .ref a => rowO (H a) m
  | _ => false
theorem rowB_tup {H : Hp} {a : Addr} {xs : List V} {m : Int} (h : H a = some (.tup xs)) : rowB H (.ref a) m = (decide ((xs.length : Int) = m) && xs.all isIntV) := by
  show rowO (H a) m = _
  rw [h] <;> rfl
theorem rowB_not {H : Hp} {v : V} {t : Kd} {m : Int} (h : kd H v = some t) (n : t ≠ .tup) : rowB H v m = false := by
  cases v with
  | ref a =>
    rcases kdO_or (show kdO (H a) = some t from h) with e | e <;> subst e
    · obtain ⟨xs, e⟩ := kdO_lst (show kdO (H a) = some .lst from h)
      show rowO (H a) m = false
      rw [e] <;> rfl
    · exact absurd rfl n
  | _ => rfl
def spIsRow : Sp := fun vs H Q _ => ∃ (v : V) (m : Int), vs = [v, .int m] ∧ Known H v ∧ ∀ H', Same H H' → Q (.bl (rowB H v m)) H'
theorem all_id_map {α : Type} (xs : List α) (f : α → Bool) : (xs.map f).all id = xs.all f := by
  rw [List.all_map] <;> rfl
def spNumber : Sp := fun vs H Q _ => ∃ (b : Addr), vs = [.ref b] ∧ Bag H b ∧ ∀ (n : Int) (H' : Hp), But b H H' → Bag H' b → Q (.int n) H'
/-! ### words -/
def keptL : List Str := ["def", "if", "else", "for", "in", "break", "skip", "refuse", "take", "guard", "blank", "every", "none", "any", "all", "pick", "given", "or", "and", "not", "true", "false", "self"]
def lowB (c : Nat) : Bool := decide (97 ≤ c) && decide (c ≤ 122)
def wordB (z : Str) : Bool := !(inV (.str z) (keptL.map V.str)) && ((decide ((1 : Int) ≤ (z.length : Nat)) && decide (((z.length : Nat) : Int) ≤ 8)) && z.cps.toList.all lowB)
def wordV : V → Bool
  | .str z => wordB z
  | _ => false
theorem wordV_not {H : Hp} {v : V} {t : Kd} (h : kd H v = some t) (n : t ≠ .str) : wordV v = false := by
  cases v with
  | str z => cases h; exact absurd rfl n
  | _ => rfl
theorem le_sign (c d : Nat) : (!decide (([c] : List Nat) < [d])) = decide (d ≤ c) := by
  have h : (([c] : List Nat) < [d]) ↔ c < d := by
    rw [List.cons_lt_cons_iff]
    constructor
    · rintro (h | ⟨_, h⟩)
      · exact h
      · exact absurd h (by decide)
    · exact fun h => .inl h
  by_cases q : d ≤ c
  · rw [decide_eq_true q, decide_eq_false (fun z => absurd (h.mp z) (by omega))] <;> rfl
  · rw [decide_eq_false q, decide_eq_true (h.mpr (by omega))] <;> rfl
theorem flat_strs (l : List Str) : (l.map V.str).all flatV = true := by
  rw [List.all_map]
  exact List.all_eq_true.mpr fun _ _ => rfl
/-- is_word -/
def spIsWord : Sp := fun vs H Q _ => ∃ (v : V) (t : Kd), vs = [v] ∧ kd H v = some t ∧ (∀ z, v = .str z → z.length ≤ 1000) ∧ ∀ H', Same H H' → Q (.bl (wordV v)) H'
/-! ### the first wrong entry -/
def badFrom (pre : List V) : List V → Option Nat
  | [] => none
  | x :: r => if (!(wordV x) || inV x pre) = true then some pre.length else badFrom (pre ++ [x]) r
def dueV (xs : List V) : V :=
  if (decide ((1 : Int) ≤ (xs.length : Nat)) && decide (((xs.length : Nat) : Int) ≤ 3)) = true then (match badFrom [] xs with
    | some i => .int (i : Nat)
    | none => .non)
  else .int (-1)
theorem cut_take (xs : List V) (i : Nat) : cutV xs none (some (i : Int)) = xs.take i := by
  unfold cutV
  rw [HT.sIx_none, HT.sIx_nat, List.drop_zero, Nat.sub_zero, ← List.take_eq_take_min] 
theorem word_str {x : V} (h : wordV x = true) : ∃ z, x = .str z ∧ wordB z = true := by
  cases x with
  | str z => exact ⟨z, rfl, h⟩
  | _ => cases h
theorem word_flat {x : V} (h : wordV x = true) : flatV x = true := by
  obtain ⟨z, rfl, _⟩ := word_str h
  rfl
/-- items that a word's test may meet -/
def Ent (H : Hp) (x : V) : Prop := ∃ t, kd H x = some t ∧ ∀ z, x = .str z → z.length ≤ 1000
theorem Ent.same {H H' : Hp} {x : V} (e : Ent H x) (s : Same H H') : Ent H' x := by
  obtain ⟨t, h, l⟩ := e
  exact ⟨t, kd_same h s, l⟩
def spFirstBad (K : PySem.W.Frag) : Sp := fun vs H Q _ => ∃ (a : Addr) (xs : List V), vs = [.ref a] ∧ SqL K H a xs ∧ xs.length ≤ 1000 ∧ (∀ x ∈ xs, Ent H x) ∧ ∀ H', Same H H' → Q (dueV xs) H'
/-! ### tables -/
/-- a table at p with the columns xs -/
def TabAt (H : Hp) (C p : Addr) (xs : List V) : Prop := ∃ dx t, H p = some (.ins C dx [("columns", .ref t)]) ∧ H t = some (.tup xs)
theorem TabAt.same {H H' : Hp} {C p : Addr} {xs : List V} (h : TabAt H C p xs) (e : Same H H') : TabAt H' C p xs := by
  obtain ⟨dx, t, h1, h2⟩ := h
  exact ⟨dx, t, e _ _ h1, e _ _ h2⟩
theorem TabAt.but {H H' : Hp} {C p b : Addr} {xs : List V} (h : TabAt H C p xs) (e : But b H H') (hb : Bag H b) : TabAt H' C p xs := by
  obtain ⟨dx, t, h1, h2⟩ := h
  obtain ⟨x, y, h3, _⟩ := hb
  exact ⟨dx, t, e _ _ (ne_of h1 h3 (by intro q; cases q)) h1, e _ _ (ne_of h2 h3 (by intro q; cases q)) h2⟩
/-- Table(list), a right one -/
def spTable (K : PySem.W.Frag) (C : Addr) : Sp := fun vs H Q _ => ∃ (p a dx : Addr) (xs : List V), vs = [.ref p, .ref a] ∧ H p = some (.ins C dx []) ∧ SqL K H a xs ∧ xs.length ≤ 1000 ∧ (∀ x ∈ xs, Ent H x) ∧ dueV xs = .non ∧
  ∀ H', But p H H' → TabAt H' C p xs → Q .non H'
/-- thing in table -/
def spContains (C : Addr) : Sp := fun vs H Q _ => ∃ (p : Addr) (v : V) (xs : List V), vs = [.ref p, v] ∧ TabAt H C p xs ∧ xs.length ≤ 1000 ∧ Known H v ∧ ∀ H', Same H H' → Q (.bl (rowB H v (xs.length : Nat))) H'
/-! ### data: flat lists -/
theorem canAll_of : ∀ {ds : List PyData}, (∀ d ∈ ds, d.canLay0 = true ∧ d.depth = 0) → PyData.canLayAll0 ds = true ∧ PyData.depthAll ds = 0
  | [], _ => ⟨by simp only [PyData.canLayAll0], by simp only [PyData.depthAll]⟩
  | d :: r, h => by
    obtain ⟨h1, h2⟩ := h d (List.mem_cons_self ..)
    obtain ⟨h3, h4⟩ := canAll_of (ds := r) fun x hx => h x (List.mem_cons_of_mem _ hx)
    exact ⟨by simp only [PyData.canLayAll0, h1, h3, Bool.and_self], by simp only [PyData.depthAll, h2, h4, Nat.max_self]⟩
theorem shaped_lst {ds : List PyData} (h : ∀ d ∈ ds, d.canLay0 = true ∧ d.depth = 0) : SeqAt.shaped (.list ds) = true := by
  obtain ⟨h1, h2⟩ := canAll_of h
  unfold SeqAt.shaped
  simp only [PyData.canLay0, PyData.depth, h1, h2, Bool.true_and]
  decide
theorem shaped_tup {ds : List PyData} (h : ∀ d ∈ ds, d.canLay0 = true ∧ d.depth = 0) : SeqAt.shaped (.tuple ds) = true := by
  obtain ⟨h1, h2⟩ := canAll_of h
  unfold SeqAt.shaped
  simp only [PyData.canLay0, PyData.depth, h1, h2, Bool.true_and]
  decide
theorem int_flatD (n : Int) : (PyData.int n).canLay0 = true ∧ (PyData.int n).depth = 0 := ⟨by simp only [PyData.canLay0], by simp only [PyData.depth]⟩
theorem shaped_ints (ns : List Int) : SeqAt.shaped (.list (ns.map PyData.int)) = true := shaped_lst fun d hd => by
  obtain ⟨n, _, rfl⟩ := List.mem_map.mp hd
  exact int_flatD n
theorem shaped_nil : SeqAt.shaped (.list []) = true := shaped_lst fun _ h => by cases h
theorem dp_ints {K : PySem.W.Frag} {H : Hp} : ∀ (ns : List Int), DpAll K H (ns.map V.int) (ns.map PyData.int)
  | [] => .nil
  | n :: r => .cons (.int n) (dp_ints r)
theorem eqv_ints_nil (ns : List Int) : PyData.eqv (.list (ns.map PyData.int)) (.list []) = decide (ns = []) := by
  cases ns with
  | nil => simp [PyData.eqv, PyData.eqvAll]
  | cons n r => simp [PyData.eqv, PyData.eqvAll]
theorem pick2 {P : Option V → Hp → Prop} (R : Option V → Hp → Prop) {G : Prop} (main : (∀ o H, R o H → P o H) → G) (rest : ∀ o H, R o H → P o H) : G := main rest
def spValue : Sp := fun vs H Q _ => ∃ (b : Addr) (m : Int), vs = [.ref b, .int m] ∧ Bag H b ∧ 0 ≤ m ∧ m ≤ 3 ∧ ∀ (v : V) (H' : Hp), Known H' v → But b H H' → Bag H' b → Q v H'
theorem known_flat {H : Hp} {v : V} (h : flatV v = true) : Known H v := by
  cases v with
  | non => exact ⟨⟨_, rfl⟩, fun a xs e => by cases e⟩
  | bl b => exact ⟨⟨_, rfl⟩, fun a xs e => by cases e⟩
  | int b => exact ⟨⟨_, rfl⟩, fun a xs e => by cases e⟩
  | str b => exact ⟨⟨_, rfl⟩, fun a xs e => by cases e⟩
  | _ => cases h
theorem known_lst {H : Hp} {a : Addr} {xs : List V} (h : H a = some (.lst xs)) : Known H (.ref a) :=
  ⟨⟨_, kd_lst h⟩, fun b ys e h2 => by
    cases e
    rw [h] at h2
    cases h2⟩
theorem known_tup {H : Hp} {a : Addr} {xs : List V} (h : H a = some (.tup xs)) (hl : xs.length ≤ 1000) (hx : ∀ x ∈ xs, ∃ t, kd H x = some t) : Known H (.ref a) :=
  ⟨⟨_, kd_tup h⟩, fun b ys e h2 => by
    cases e
    rw [h] at h2
    cases h2
    exact ⟨hl, hx⟩⟩
theorem pss_cut {X : Cx} {sts : List Stmt} {t t' : TS} (h : PSs X sts t) (w : ∀ D σ H, t' D σ H → t D σ H) : PSs X sts t' := ⟨fun pins s σ H D I q => h.run pins s σ H D I (w D σ H q)⟩
theorem But.at {b : Addr} {H H' : Hp} (x : But b H H') {a : Addr} {o : HO} (hb : Bag H b) (h : H a = some o) (n : ∀ x y, o ≠ .lst [.int x, .int y]) : H' a = some o := by
  obtain ⟨x1, y1, h3, _⟩ := hb
  exact x a o (ne_of h h3 (n x1 y1)) h
theorem But.free {b p : Addr} {H H1 : Hp} (x : But b H H1) (n : p ≠ b) (h : H1 p = none) : H p = none := by
  cases e : H p with
  | none => rfl
  | some o =>
    rw [x p o n e] at h
    cases h
theorem Bag.put {b p : Addr} {H : Hp} {o : HO} (x : Bag H b) (n : b ≠ p) : Bag (upd H p o) b := by
  obtain ⟨x1, y1, h, h0, h1⟩ := x
  exact ⟨x1, y1, by rw [upd_ne n]; exact h, h0, h1⟩
theorem kd_put {H : Hp} {v : V} {t : Kd} {p : Addr} {o : HO} (h : kd H v = some t) (n : v ≠ .ref p) : kd (upd H p o) v = some t :=
  kd_but (b := p) h (But.put But.refl) n
theorem kd_new {H : Hp} {v : V} {t : Kd} {p : Addr} {o : HO} (h : kd H v = some t) (hp : H p = none) : kd (upd H p o) v = some t := kd_same h (same_newH hp)
theorem kd_ne {H : Hp} {v : V} {t : Kd} {p : Addr} (h : kd H v = some t) (hp : H p = none) : v ≠ .ref p := by
  intro e
  subst e
  have h1 : kdO (H p) = some t := h
  rw [hp] at h1
  cases h1
theorem ixN_of {n : Nat} {d : Int} (h0 : 0 ≤ d) (h1 : d < (n : Int)) : ixN n d = some d.toNat := by
  unfold ixN
  rw [if_pos h0, if_pos h1]
/-! ### t * 1 is t itself -/
theorem tuple_mul1 (l : Addr) (items : Array Value) (n : Nat) (dd : Option Addr) (sl : Array (Option Value)) (u : Tok) :
    Meets (Builtin.«tuple.__mul__» ⟨[.ref l, .int 1 u], []⟩) (fun _ R s => s.heap.get? l = some { cls := .type "tuple", dict := dd, data := .seq items n, slots := sl } ∧
      R (.ok (.ret (Value.ref l))) s) :=
  .of_wp fun prog w A R s h => by
    obtain ⟨hp, g, d, tk, os⟩ := s
    obtain ⟨hl, h⟩ := h
    have f1 := AutoSeq1.idx_int
    wp_walk using wpAny_loadPart' hl
    exact ⟨_, rfl, h⟩
def rRep1 (K : PySem.W.Frag) : R2 := fun x y H Q => ∃ l xs, x = .ref l ∧ y = .int 1 ∧ SqT K H l xs ∧ Q (.ref l) H
theorem op_rep1 {X : Cx} : OpR X (binaryOp .Mult) (rRep1 X.K) := by
  intro pins s σ H x y v u Q I rx ry h
  obtain ⟨l, xs, rfl, rfl, hT, q⟩ := h
  cases rx
  obtain ⟨t, rfl⟩ := ry
  obtain ⟨its, r, ⟨⟨cls, dd, data, sl⟩, ho, hc, n, hd⟩, hs⟩ := I.tuple hT
  simp only at hc hd
  subst hc hd
  refine wpAny_binaryOp_repeat_ref (T := "tuple") (U := "int") (by decide) ⟨_, ho, rfl⟩ (fun s' => typeIs_int s' 1 t) noFill_tuple_mul F.fills_int_mul F.slot_int_rmul repeat_tuple F.slot_int_index.lookup
    (call_meets F.slot_int_rmul (typeIs_int s 1 t) F.entry_int_rmul (F.args_int_rmul_2 _ _) (int_rmul_tuple 1 t l its.toArray n dd sl)
      ⟨ho, rfl, ⟨_, ho, rfl⟩, call_meets F.slot_tuple_mul ⟨_, ho, rfl⟩ F.entry_tuple_mul (F.args_tuple_mul_2 _ _) (tuple_mul1 l its.toArray n dd sl t) ⟨ho, ?_⟩⟩)
  exact ⟨.ref l, H, I, rfl, q⟩
theorem op_rep {X : Cx} : OpR X (binaryOp .Mult) (fun x y H Q => rRepT X.K x y H Q ∨ rRep1 X.K x y H Q) := OpR.or op_repT op_rep1
/-! ### plainer readings -/
theorem opr_imp {X : Cx} {f : Value → Value → Sem Value} {r r' : R2} (h : OpR X f r) (w : ∀ x y H Q, r' x y H Q → r x y H Q) : OpR X f r' :=
  fun pins s σ H x y v u Q I rx ry q => h pins s σ H x y v u Q I rx ry (w x y H Q q)
/-- a tuple at r, all else as it was -/
def TupTo (H : Hp) (xs : List V) (Q : VK) : Prop := ∀ (r : Addr) (H' : Hp), Same H H' → H' r = some (.tup xs) → Q (.ref r) H'
theorem TupTo.new {H : Hp} {xs : List V} {Q : VK} (h : TupTo H xs Q) : ∀ p, H p = none → Q (.ref p) (upd H p (.tup xs)) := fun p hp => h p _ (same_newH hp) upd_same
def rCatS : R2 := fun x y H Q => ∃ a b xs ys, x = .ref a ∧ y = .ref b ∧ H a = some (.tup xs) ∧ H b = some (.tup ys) ∧ xs.length + ys.length ≤ 1000 ∧ TupTo H (xs ++ ys) Q
theorem op_catS {X : Cx} : OpR X (binaryOp .Add) rCatS := opr_imp op_catA fun x y H Q h => by
  obtain ⟨a, b, xs, ys, rfl, rfl, ha, hb, hl, q⟩ := h
  refine ⟨a, b, xs, ys, rfl, rfl, SqT.of ha, SqT.of hb, Nat.le_of_lt (small1000 hl), fun e => ?_, fun _ e => ?_, fun _ _ => q.new⟩
  · exact q b H (Same.refl H) (by rw [e, List.nil_append]; exact hb)
  · exact q a H (Same.refl H) (by rw [e, List.append_nil]; exact ha)
def rRepS : R2 := fun x y H Q => ∃ l k xs, x = .ref l ∧ y = .int k ∧ H l = some (.tup xs) ∧ xs ≠ [] ∧ 1 ≤ k ∧ k ≤ 1000 ∧ xs.length ≤ 1000 ∧ TupTo H (List.replicate k.toNat xs).flatten Q
theorem op_repS {X : Cx} : OpR X (binaryOp .Mult) rRepS := opr_imp op_rep fun x y H Q h => by
  obtain ⟨l, k, xs, rfl, rfl, hl, hx, h1, h2, h3, q⟩ := h
  by_cases e : k = 1
  · subst e
    exact .inr ⟨l, xs, rfl, rfl, SqT.of hl, q l H (Same.refl H) (by simpa using hl)⟩
  · exact .inl ⟨l, k, xs, rfl, rfl, SqT.of hl, hx, by omega, h2, h3, q.new⟩
def rSlS : V → Option Int → Option Int → Hp → VK → Prop := fun x lo hi H Q => ∃ a xs, x = .ref a ∧ H a = some (.tup xs) ∧ TupTo H (cutV xs lo hi) Q
theorem cut_whole {xs : List V} {lo hi : Option Int} (h : HT.sIx xs.length 0 lo = 0 ∧ HT.sIx xs.length xs.length hi = xs.length) : cutV xs lo hi = xs := by
  unfold cutV
  rw [h.1, h.2, List.drop_zero, Nat.sub_zero, List.take_length]
theorem sl_tupS {X : Cx} : SlR X rSlS := fun pins s σ H x v vl vu lo hi sl Q I rx e1 e2 e3 q => by
  obtain ⟨a, xs, rfl, ha, t⟩ := q
  exact sl_tupA pins s σ H (.ref a) v vl vu lo hi sl Q I rx e1 e2 e3 ⟨a, xs, rfl, SqT.of ha, fun e => t a H (Same.refl H) (by rw [cut_whole e]; exact ha), fun _ => t.new⟩
theorem cut_drop (xs : List V) (i : Nat) : cutV xs (some (i : Int)) none = xs.drop i := by
  unfold cutV
  rw [HT.sIx_none, HT.sIx_nat]
  rw [List.take_of_length_le (by rw [List.length_drop]; exact Nat.le_refl _)]
  rcases Nat.le_total i xs.length with h | h
  · rw [Nat.min_eq_left h]
  · rw [Nat.min_eq_right h, List.drop_length, List.drop_of_length_le h]
/-! ### methods and makers by name -/
structure CalM (P : Program) (w : World) (K : PySem.W.Frag) (mg : Str → Option Value) (base : Heap) (CX : CXT) (k : Nat) (C : Addr) (m : Str) (f : Addr) (fd : FuncData) (ps : List Str) (sp : Sp) : Prop where
  ok : FnOk P w K mg base CX k f fd ps sp
  mt : Meth K C m f
  b : Binds K fd ps []
structure CalI (P : Program) (w : World) (K : PySem.W.Frag) (mg : Str → Option Value) (base : Heap) (CX : CXT) (k : Nat) (x : Str) (C f : Addr) (fd : FuncData) (ps : List Str) (sp : Sp) : Prop where
  ok : FnOk P w K mg base CX k f fd ps sp
  mkr : Mk K C f
  at_ : mg x = some (.ref C)
  b : Binds K fd ps []
section
variable {X : Cx} {k : Nat} {x : Str} {C f : Addr} {fd : FuncData} {ps : List Str} {sp : Sp} {e : Expr} {es : List Expr} {t : TA} {p pos : Pos}
theorem pe_mkr (c : CalI X.prog X.w X.K X.mg X.base CX0 k x C f fd ps sp) (hr : Room (k + 1) X.A) (ha : PA X (e :: es) t)
    (hg : Gl X x := by rfl) (hdb : (x == ("__debug__" : Str)) = false := by decide) (he : starEach (e :: es) X.env = (false, eval e X.env) :: starEach es X.env := by rfl) (hpl : (backTo pos (starEach es X.env)).any (·.1) = false := by rfl) :
    PE X (.Call (.Name x p) (e :: es) [] pos) (tMake C sp [] E0 t) := pe_make c.mkr c.ok hr hg c.at_ c.b .nil pass0 ha hdb he hpl
theorem op_in_cal (c : CalM X.prog X.w X.K X.mg X.base CX0 k C "__contains__" f fd ps sp) (hr : Room k X.A) : OpR X (compareOp .In) (rInOwn C false sp E0) := op_in_own c.ok c.mt c.b pass0 hr
theorem op_notIn_cal (c : CalM X.prog X.w X.K X.mg X.base CX0 k C "__contains__" f fd ps sp) (hr : Room k X.A) : OpR X (compareOp .NotIn) (rInOwn C true sp E0) := op_notIn_own c.ok c.mt c.b pass0 hr
end
theorem Known.same {H H' : Hp} {v : V} (h : Known H v) (e : Same H H') : Known H' v := by
  obtain ⟨⟨t, ht⟩, hk⟩ := h
  refine ⟨⟨t, kd_same ht e⟩, fun a xs ev ha => ?_⟩
  subst ev
  rcases kdO_or (show kdO (H a) = some t from ht) with q | q <;> subst q
  · obtain ⟨ys, q⟩ := kdO_lst (show kdO (H a) = some .lst from ht)
    rw [e _ _ q] at ha
    cases ha
  · obtain ⟨ys, q⟩ := kdO_tup (show kdO (H a) = some .tup from ht)
    rw [e _ _ q] at ha
    cases ha
    obtain ⟨h1, h2⟩ := hk a _ rfl q
    exact ⟨h1, fun x hx => let ⟨t, ht⟩ := h2 x hx; ⟨t, kd_same ht e⟩⟩
theorem rowB_same {H H' : Hp} {v : V} {m : Int} (h : Known H v) (e : Same H H') : rowB H' v m = rowB H v m := by
  obtain ⟨⟨t, ht⟩, _⟩ := h
  by_cases q : t = .tup
  · subst q
    obtain ⟨a, xs, rfl, ha⟩ := kd_tuple ht
    rw [rowB_tup ha, rowB_tup (e _ _ ha)]
  · rw [rowB_not ht q, rowB_not (kd_same ht e) q]
theorem But.to_same {b : Addr} {H H1 H2 : Hp} (s : Same H H1) (x : But b H1 H2) (hb : H b = none) : Same H H2 := fun a o h => x a o (ne_of_none h hb) (s a o h)
theorem Bag.same {b : Addr} {H H' : Hp} (x : Bag H b) (e : Same H H') : Bag H' b := by
  obtain ⟨x, y, h, h0, h1⟩ := x
  exact ⟨x, y, e _ _ h, h0, h1⟩
theorem kd_flat {H : Hp} {v : V} (h : flatV v = true) : ∃ t, kd H v = some t := (known_flat h).1
theorem known_tupF {H : Hp} {a : Addr} {xs : List V} (h : H a = some (.tup xs)) (hl : xs.length ≤ 1000) (hx : ∀ x ∈ xs, flatV x = true) : Known H (.ref a) := known_tup h hl fun x q => kd_flat (hx x q)
theorem cut_len (xs : List V) (lo hi : Option Int) : (cutV xs lo hi).length ≤ xs.length := by
  unfold cutV
  rw [List.length_take, List.length_drop]
  omega
theorem rep_flat {x : V} (n : Nat) : (List.replicate n [x]).flatten = List.replicate n x := by
  induction n with
  | zero => rfl
  | succ n ih => rw [List.replicate_succ, List.flatten_cons, ih, List.replicate_succ] <;> rfl
theorem rowB_bad {H : Hp} {a : Addr} {xs : List V} {m : Int} (h : H a = some (.tup xs)) (hx : ∃ x ∈ xs, isIntV x = false) : rowB H (.ref a) m = false := by
  rw [rowB_tup h]
  obtain ⟨x, h1, h2⟩ := hx
  have e : xs.all isIntV = false := by
    rw [List.all_eq_false]
    exact ⟨x, h1, by rw [h2]; decide⟩
  rw [e, Bool.and_false]
theorem rowB_len {H : Hp} {a : Addr} {xs : List V} {m : Int} (h : H a = some (.tup xs)) (hx : (xs.length : Int) ≠ m) : rowB H (.ref a) m = false := by
  rw [rowB_tup h, decide_eq_false hx, Bool.false_and]
end Own

namespace Own
open PySem PySem.Spec PyProof.Rows L2
section
variable {X : Cx} {n : Nat} {CX : CXT} {C f : Addr} {fd : FuncData} {ps : List Str} {sp : Sp} {E : XK}
/-- the callee runs, some units deeper -/
theorem run_at {A : Around} (sb : Sub X n A) (F : FnOk X.prog X.w X.K X.mg X.base CX n f fd ps sp) (hb : Binds X.K fd ps []) (hx : Passes CX X E)
    {pins : List (Addr × Obj)} {s : Shared} {σ : L2.St} {H : Hp} {vs : List V} {us : List Value} {Q : V → Hp → Prop} (I : Inv X pins σ H s) (r : Vals vs us) (hsp : sp vs H Q E) :
    wpAny (model X.prog X.w) A (call (.ref f) us) (EP X pins σ Q) X.xe s := by
  have hl : (us ++ ([] : List Value)).length = ps.length := by
    rw [List.append_nil, ← r.length]
    exact F.len _ _ _ _ hsp
  have bt := hb s us I.kIn hl
  rw [List.append_nil] at bt
  obtain ⟨h0, h1, h2, h3, h4, h5, h6, h7⟩ := I.env0
  refine wpAny_call (codeAny_mono (F.run A X.stack s H ⟨us, []⟩ us vs Q E sb.room ⟨sb.fr.trans h0, h1, h2, h3, h4, h5, h6, h7⟩ bt r hsp) fun z s' hq => ?_)
  match z, hq with
  | .error e, hq => exact hx pins σ H s e s' I hq
  | .ok (.ret u), hq => exact I.after hq
theorem sub_of {A : Around} (hr : Room n X.A) : Sub X n X.A := ⟨hr, rfl⟩
/-- what stands at an instance -/
theorem inst_at {pins : List (Addr × Obj)} {s : Shared} {σ : L2.St} {H : Hp} {a dx : Addr} {fs : List (Str × V)} (I : Inv X pins σ H s) (ha : H a = some (.ins C dx fs)) : ∃ od, PySem.W.InstAt s.heap a (PySem.W.instObj C dx) C (some od) := by
  obtain ⟨mA, J, _⟩ := ins_get I.hok ha
  obtain ⟨od, J, _⟩ := J.look
  exact ⟨od, J⟩
def rLenOwn (C : Addr) (sp : Sp) (E : XK) : List V → Hp → VK → Prop := fun xs H Q => ∃ a dx fs, xs = [.ref a] ∧ H a = some (.ins C dx fs) ∧ sp [.ref a] H (fun v H' => ∃ k : Nat, v = .int k ∧ k < 1000000 ∧ Q (.int k) H') E
theorem call_len_own (Fn : FnOk X.prog X.w X.K X.mg X.base CX n f fd ps sp) (hm : Meth X.K C "__len__" f) (hb : Binds X.K fd ps []) (hx : Passes CX X E) (hr : Room (n + 1) X.A) : CallR X (.builtin "len") (rLenOwn C sp E) := by
  intro pins s σ H xs us Q I r h
  obtain ⟨a, dx, fs, rfl, ha, q⟩ := h
  obtain ⟨od, J⟩ := inst_at I ha
  obtain ⟨m, hF⟩ := I.fr
  match us, r with
  | [u], .cons ru .nil =>
    cases ru
    refine PySem.W.len_K hF I.ok.mod.kin J hm.at_ hm.fn ?_
    refine thn (run_at (A := X.A.in1) ⟨hr.in1, rfl⟩ Fn hb hx I (show Vals [V.ref a] [Value.ref a] from .cons rfl .nil) q) fun v s1 ⟨z, H1, I1, rz, k, ez, hk, q1⟩ => ?_
    subst ez
    obtain ⟨t, rfl⟩ := rz
    show (0 ≤ (k : Int) ∧ (k : Int) < 2 ^ 63) ∧ _
    exact ⟨⟨by omega, by omega⟩, .int k, H1, I1.tok _, ⟨_, rfl⟩, q1⟩
def rReprOwn (C : Addr) (sp : Sp) (E : XK) : List V → Hp → VK → Prop := fun xs H Q => ∃ a dx fs, xs = [.ref a] ∧ H a = some (.ins C dx fs) ∧ sp [.ref a] H (fun v H' => ∃ z : Str, v = .str z ∧ Q (.str z) H') E
theorem call_repr_own (Fn : FnOk X.prog X.w X.K X.mg X.base CX n f fd ps sp) (hm : Meth X.K C "__repr__" f) (hb : Binds X.K fd ps []) (hx : Passes CX X E) (hr : Room (n + 1) X.A) : CallR X (.builtin "repr") (rReprOwn C sp E) := by
  intro pins s σ H xs us Q I r h
  obtain ⟨a, dx, fs, rfl, ha, q⟩ := h
  obtain ⟨od, J⟩ := inst_at I ha
  obtain ⟨m, hF⟩ := I.fr
  match us, r with
  | [u], .cons ru .nil =>
    cases ru
    refine PySem.W.repr_K hr.in1.units0 hF I.ok.mod.kin J hm.at_ hm.fn ?_
    refine thn (run_at (A := X.A.in1) ⟨hr.in1, rfl⟩ Fn hb hx I (show Vals [V.ref a] [Value.ref a] from .cons rfl .nil) q) fun v s1 ⟨z, H1, I1, rz, k, ez, q1⟩ => ?_
    subst ez
    obtain ⟨t, rfl⟩ := rz
    exact ⟨.str k, H1, I1, ⟨_, rfl⟩, q1⟩
/-- x == y by x's own __eq__; y of a class that does not come first -/
def rEqOwn (K : PySem.W.Frag) (C : Addr) (neg : Bool) (sp : Sp) (E : XK) : R2 := fun x y H Q => ∃ a dx fs t, x = .ref a ∧ H a = some (.ins C dx fs) ∧ TyX K H y t ∧ PySem.W.notFirst K C t = true ∧
  sp [.ref a, y] H (fun v H' => ∃ b, v = .bl b ∧ Q (.bl (if neg then !b else b)) H') E
theorem op_eq_own (Fn : FnOk X.prog X.w X.K X.mg X.base CX n f fd ps sp) (hm : Meth X.K C "__eq__" f) (hb : Binds X.K fd ps []) (hx : Passes CX X E) (hr : Room n X.A) : OpR X (compareOp .Eq) (rEqOwn X.K C false sp E) := by
  intro pins s σ H x y v u Q I rx ry h
  obtain ⟨a, dx, fs, t, rfl, ha, ty, nf, q⟩ := h
  cases rx
  obtain ⟨od, J⟩ := inst_at I ha
  obtain ⟨m, hF⟩ := I.fr
  obtain ⟨Pd, Z, pz, _⟩ := kit_of I ry ty
  refine PySem.W.cmp_K (op := .Eq) hr.units0 hF I.ok.mod.kin J (Z.ty _ _ I.kIn pz) nf hm.at_ hm.fn ?_
  refine thn (run_at ⟨hr, rfl⟩ Fn hb hx I (show Vals [V.ref a, y] [Value.ref a, u] from .cons rfl (.cons ry .nil)) q) fun w s1 ⟨z, H1, I1, rz, k, ez, q1⟩ => ?_
  subst ez
  cases rz
  exact ⟨.bl k, H1, I1, rfl, q1⟩
open Builtin in
theorem op_ne_own (Fn : FnOk X.prog X.w X.K X.mg X.base CX n f fd ps sp) (hm : Meth X.K C "__eq__" f) (hn : PySem.W.findIn X.K (.ref C) "__ne__" = some (some (.builtin "object.__ne__"))) (ho : PySem.W.mroIn X.K C (.type "object") = some true)
    (hb : Binds X.K fd ps []) (hx : Passes CX X E) (hr : Room (n + 1) X.A) : OpR X (compareOp .NotEq) (rEqOwn X.K C true sp E) := by
  intro pins s σ H x y v u Q I rx ry h
  obtain ⟨a, dx, fs, t, rfl, ha, ty, nf, q⟩ := h
  cases rx
  obtain ⟨od, J⟩ := inst_at I ha
  obtain ⟨Pd, Z, pz, _⟩ := kit_of I ry ty
  have hK := I.kIn
  have core : wpAny (model X.prog X.w) X.A (tryCompare (.ref a) "__ne__" u) (fun r s' => ∃ w, r = some w ∧ EP X pins σ Q w s') X.xe s := by
    unfold tryCompare
    refine wpAny_bind ?_
    simp only [callSpecialIfBound?, bindSpecialIfBound?]
    refine wpAny_holding (wpAny_bind (wpAny_bind (wpAny_bind (J.type.here ((PySem.W.looks_findIn hK hn).here ?_)))))
    refine wpAny_bind (wpAny_askSetting (wpAny_ite ?_))
    have hbs : bindSpecial (.builtin "object.__ne__") (.ref a) = pure (.builtin "object.__ne__", [.ref a]) := F.cmp_object.ne.bind _
    have fin : wpAny (model X.prog X.w) X.A (call (.builtin "object.__ne__") [.ref a, u]) (fun v s' => ∃ b, v = .bool b ∧ EP X pins σ Q (.bool b) s') X.xe s := by
      refine wpAny_call (codeAny_call_builtin F.cmp_object.ne.plain F.cmpEntry_ne (PySem.W.check_slot (i := "object.__ne__") (owner := "object") (n := "__ne__") F.cmpKind_ne F.cmpSplit_ne (J.type.andThen (PySem.W.looks_mroIn hK ho)) (F.cmpArgs_ne _ _) ?_))
      unfold Builtin.«object.__ne__»
      refine wpAny_bind (m := slotArgs "__ne__" 1 _) (wpAny_pure ?_)
      refine wpAny_bind (m := cRoomFor _ _) (wpAny_cRoomFor hr.in1.units0 ?_)
      refine wpAny_bind (m := callSpecialIfBound? (.ref a) (Str.ofString "__eq__") _) (PySem.W.ifBound_K hK J hm.at_ hm.fn ?_)
      refine thn (run_at (A := X.A.in1) ⟨hr.in1, rfl⟩ Fn hb hx I (show Vals [V.ref a, y] [Value.ref a, u] from .cons rfl (.cons ry .nil)) q) fun w s1 ⟨z, H1, I1, rz, k, ez, q1⟩ => ?_
      subst ez
      cases rz
      show wpAny _ _ (do ret (.bool (!(← truthy (.bool k))))) _ _ _
      refine wpAny_bind (wpAny_pure ?_)
      exact wpAny_pure ⟨!k, rfl, .bl (!k), H1, I1, rfl, q1⟩
    have cont : ∀ (v : Value) (s' : Shared), (∃ b, v = .bool b ∧ EP X pins σ Q (.bool b) s') → wpAny (model X.prog X.w) X.A (match (some v : Option Value) with
        | some .notImplemented => pure none
        | none => pure none
        | some r => pure (some r) : Sem (Option Value)) (fun r s' => ∃ w, r = some w ∧ EP X pins σ Q w s') X.xe s' := fun v s' ⟨b, e, z⟩ => by
      subst e
      exact wpAny_pure ⟨_, rfl, z⟩
    split
    · refine wpAny_bind ((PySem.W.Looks.of_pure hbs).here (wpAny_pure ?_))
      exact wpAny_bind (wpAny_mono fin (fun v s' z => wpAny_pure (cont v s' z)) fun _ _ e => e)
    · refine wpAny_tryCatch (wpAny_bind ((PySem.W.Looks.of_pure hbs).here (wpAny_pure ?_)))
      exact wpAny_bind (wpAny_mono fin (fun v s' z => wpAny_pure (cont v s' z)) fun _ _ e => e)
  show wpAny (model X.prog X.w) X.A (richCompare .NotEq (.ref a) u) _ _ _
  unfold richCompare
  simp only [oneThing_ref]
  refine wpAny_holding (wpAny_bind (wpAny_cRoomFor hr.units0 ?_))
  refine wpAny_bind (J.type.here (wpAny_bind ((Z.ty _ _ hK pz).here ?_)))
  have last : wpAny (model X.prog X.w) X.A (tryCompare (.ref a) (cmpInfo CmpOp.NotEq).2.fst u) (fun r s' => ∃ w, r = some w ∧ EP X pins σ Q w s') X.xe s := core
  have key : (Value.ref C != t) = true → PySem.W.subIn X.K t (.ref C) = some false := fun z => by
    rcases Bool.or_eq_true_iff.mp nf with g | g
    · have g1 := eq_of_beq g
      rw [g1, bne_self_eq_false] at z
      cases z
    · exact eq_of_beq g
  by_cases z : (Value.ref C != t) = true
  · rw [if_pos z]
    refine wpAny_bind ((PySem.W.looks_subIn hK (key z)).here ?_)
    simp only [Bool.false_eq_true, if_false]
    refine wpAny_bind (thn last fun r s2 ⟨w, e, g⟩ => ?_)
    subst e
    exact wpAny_pure g
  · rw [if_neg z]
    refine wpAny_bind (wpAny_pure ?_)
    simp only [Bool.false_eq_true, if_false]
    refine wpAny_bind (thn last fun r s2 ⟨w, e, g⟩ => ?_)
    subst e
    exact wpAny_pure g
end
/-! ### enumerate of a tuple -/
/-- the tuple at a, its items in new pairs -/
def IteT (K : PySem.W.Frag) (a : Addr) : It where
  go := fun i H => ∃ (xs : List V) (x : V), SqT K H a xs ∧ xs[i]? = some x
  yld := fun i H v H' => ∃ T x, v = .ref T ∧ H T = none ∧ H' = upd H T (.tup [.int (i : Nat), x]) ∧ ∀ xs, SqT K H a xs → xs[i]? = some x
  stop := fun i H => ∃ xs : List V, SqT K H a xs ∧ xs.length = i
theorem apart_iter {h : Heap} {a it : Addr} {i : Nat} {its : Array Value} (t : h.IsTuple a its) (x : h.IsTupleIter it a i) : a ≠ it := by
  intro e
  subst e
  obtain ⟨o, h1, _, n, h2⟩ := t
  obtain ⟨o', h3, _, h4⟩ := x
  rw [h1] at h3
  cases h3
  rw [h2] at h4
  cases h4
theorem turn_enumT {P : Program} {w : World} {K : PySem.W.Frag} {elts : List Expr} {kk : Nat} {tpos : Pos} (a e it : Addr) :
    Turn P w K (.Tuple elts kk tpos) (IteT K a) [e, it] e (fun i h => (∃ old, IsEnum h e it ((i : Nat) : Int) old) ∧ h.IsTupleIter it a i ∧ e ≠ it ∧ e ≠ a) where
  mem := List.mem_cons_self ..
  obj := fun i h ⟨⟨old, he⟩, ⟨o, ho, hc, hd⟩, _⟩ b hb => by
    rcases List.mem_cons.mp hb with z | z
    · subst z
      exact ⟨_, he, nofun⟩
    · rw [List.mem_singleton.mp z]
      exact ⟨o, ho, fun v q => by rw [hd] at q; cases q⟩
  keep := fun i h h' ⟨⟨old, he⟩, hi, hne⟩ k => ⟨⟨old, k e (List.mem_cons_self ..) _ he⟩, hi.at fun o q => k it (List.mem_cons_of_mem _ (List.mem_singleton.mpr rfl)) o q, hne⟩
  item := by
    intro X hP hw hK hc i pins s σ H E I hf st hg
    subst hP hw hK
    obtain ⟨⟨old, he⟩, hit, hne, hna⟩ := st
    obtain ⟨xs, x, hq, hx⟩ := hg
    obtain ⟨its, rv, p, hz⟩ := I.tuple hq
    obtain ⟨u, hu, ru⟩ := rv.get hx
    have hT : s.heap.IsTuple a its.toArray := p
    have hlt : i < its.toArray.size := by
      have z := (List.getElem?_eq_some_iff.mp hu).1
      simpa using z
    have D := Draws.tuple (prog := X.prog) (w := X.w) (A := X.A.in1) (I.ok.hd hc) it a (apart_iter hT hit) its.toArray
    have hel : e < s.heap.objs.size := Heap.lt_size he
    have hil : it < s.heap.objs.size := by
      obtain ⟨_, q, _⟩ := hit
      exact Heap.lt_size q
    refine wpAny_pyNext_enum_itemD D he ⟨hit, hT⟩ hlt hne (by intro z; rcases List.mem_cons.mp z with z | z; exact hne z; exact hna (List.mem_singleton.mp z)) fun y h' tk hy ho st' hT' hsz hk => ?_
    have ey : y = u := by
      have z : its[i]? = some y := by simpa using hy
      rw [hu] at z
      exact (Option.some.inj z).symm
    subst ey
    refine ⟨_, rfl, wpAny_letOwnedTupleGo_enum (s := { s with heap := h', toks := tk + 1 }) ho fun h2 he2 sb => ?_⟩
    have e2 : h2.get? s.heap.objs.size = some { cls := .type "tuple", data := .seq #[.int i tk, y] } := (sb.2 _ (Nat.ne_of_gt hel)).trans hT'
    have new : ObjOk X.prog X.w (upd H s.heap.objs.size (.tup [.int (i : Nat), x])) h2 s.heap.objs.size (.tup [.int (i : Nat), x]) :=
      ⟨(by show 2 ≤ sizeLine; decide), [.int i tk, y], .cons ⟨_, rfl⟩ (.cons ru .nil), ⟨_, e2, rfl, _, rfl⟩⟩
    have I1 : Inv X pins σ (upd H s.heap.objs.size (.tup [.int (i : Nat), x])) { s with heap := h2, toks := tk + 1 } :=
      I.turnedNew (ch := [e, it]) (fun b ob hb q => by
        have n1 : b ≠ e := fun z => hb (z ▸ List.mem_cons_self ..)
        have n2 : b ≠ it := fun z => hb (z ▸ List.mem_cons_of_mem _ (List.mem_singleton.mpr rfl))
        exact (sb.2 b n1).trans (hk b ob n1 n2 q)) hf (Nat.le_refl _) new
    have e1 : ((i + 1 : Nat) : Int) = (i : Int) + 1 := by omega
    refine ⟨.ref s.heap.objs.size, _, I1, rfl, ⟨_, x, rfl, I.hok.fresh (Nat.le_refl _), rfl, fun ys hy => by rw [I.tuple_inj hy hq]; exact hx⟩, ⟨⟨y, by rw [e1]; exact he2⟩, st'.1.at fun o q => (sb.2 it (Ne.symm hne)).trans q, hne, hna⟩, fun b hb => ?_⟩
    have hbl : b < s.heap.objs.size := by
      rcases List.mem_cons.mp hb with z | z
      · rw [z]; exact hel
      · rw [List.mem_singleton.mp z]; exact hil
    rw [upd_ne (Nat.ne_of_lt hbl)]
    exact (hf b hb).1
  done := by
    intro X hP hw hK hc i pins s σ H E I hf st hg
    subst hP hw hK
    obtain ⟨⟨old, he⟩, hit, hne, hna⟩ := st
    obtain ⟨xs, hq, hx⟩ := hg
    obtain ⟨its, rv, p, hz⟩ := I.tuple hq
    obtain ⟨f0, f1, f2, f3, f4, f5⟩ := hf it (List.mem_cons_of_mem _ (List.mem_singleton.mpr rfl))
    have hT : s.heap.IsTuple a its.toArray := p
    have hn : its.toArray.size = i := by rw [List.size_toArray, ← rv.length, hx]
    have D := Draws.tuple (prog := X.prog) (w := X.w) (A := X.A.in1) (I.ok.hd hc) it a (apart_iter hT hit) its.toArray
    rw [hn] at D
    exact wpAny_pyNext_enum_endD D he ⟨hit, hT⟩ fun h' eb => ⟨rfl, I.turned (t' := s.toks) (fun b o hb q => eb b o hb q) f0 f1 f3 f4 f5⟩
  self := fun A i s Q E ⟨⟨_, he⟩, _⟩ h => wpAny_pyIter_enum he h
set_option maxHeartbeats 4000000 in
theorem enum_new1 {v : Value} {o : Obj} {G : Heap → Prop} (B : Begins v o G) :
    Meets (Builtin.«enumerate.__new__» ⟨[.type "enumerate", v], []⟩) (fun _ R s => G s.heap ∧
      R (.ok (.ret (.ref (s.heap.push o).objs.size))) { s with heap := (s.heap.push o).push { cls := .type "enumerate", data := .fields #[.none, .bool false, .ref s.heap.objs.size, rawInt 0, .none, .none] } }) :=
  .of_wp fun prog w A R s h => by
    obtain ⟨hp, g, d, tk, os⟩ := s
    obtain ⟨h1, h⟩ := h
    have hsub := sub_enumerate
    have q1 : ∀ {A' : Around} {E : Value → Shared → Prop} {Q : Value → Shared → Prop}, Q (.ref hp.objs.size) ⟨hp.push o, g, d, tk, os⟩ → wpAny (model prog w) A' (pyIter v) Q E ⟨hp, g, d, tk, os⟩ :=
      fun z => B.iter _ _ _ _ ⟨hp, g, d, tk, os⟩ _ h1 z
    wp_walk using q1
    refine wpAny_stack_any fun st => wpAny_pure ?_
    split
    · rename_i c _ _ _ _ _
      by_cases z : (c == Value.type "enumerate") = true
      · rw [z]
        wp_walk using q1
        exact ⟨_, rfl, h⟩
      · rw [Bool.not_eq_true] at z
        rw [z]
        wp_walk using q1
        exact ⟨_, rfl, h⟩
    · wp_walk using q1
      exact ⟨_, rfl, h⟩
theorem enum_made {prog : Program} {w : World} {A : Around} {E : Value → Shared → Prop} {s : Shared} {v : Value} {o : Obj} {G : Heap → Prop} {Q : Value → Shared → Prop} (B : Begins v o G) (h1 : G s.heap)
    (h : ∀ h', IsEnum h' (s.heap.objs.size + 1) s.heap.objs.size 0 .none → h'.get? s.heap.objs.size = some o → (∀ b o', s.heap.get? b = some o' → h'.get? b = some o') → Q (.ref (s.heap.objs.size + 1)) { s with heap := h' }) :
    wpAny (model prog w) A (call (.type "enumerate") [v]) Q E s := by
  refine callType_new F.called_enumerate (by decide) (F.typeCall_enumerate_1 _) (F.newCall_enumerate_1 _) (fun obj => F.args_object_init_2 obj _) F.entry_enumerate_new (enum_new1 B) ⟨h1, ?_⟩
  have hz : (s.heap.push o).objs.size = s.heap.objs.size + 1 := Heap.size_push ..
  show _ ∧ _
  rw [hz]
  have he : IsEnum ((s.heap.push o).push { cls := .type "enumerate", data := .fields #[.none, .bool false, .ref s.heap.objs.size, rawInt 0, .none, .none] }) (s.heap.objs.size + 1) s.heap.objs.size 0 .none := by
    have q := Heap.get?_push_size (s.heap.push o) (o := { cls := .type "enumerate", data := .fields #[.none, .bool false, .ref s.heap.objs.size, rawInt 0, .none, .none] }) rfl
    rw [hz] at q
    exact q
  exact ⟨⟨_, he, rfl⟩, h _ he (Heap.get?_push_of_some _ (Heap.get?_push_size _ B.free)) fun b o' x => Heap.get?_push_of_some _ (Heap.get?_push_of_some _ x)⟩
theorem walk_enumT {K : PySem.W.Frag} {a : Addr} {xs : List V} : Walk (IteT K a) xs.length (fun H => SqT K H a xs) (YPair (fun i => some (.int (i : Nat))) (fun i => xs[i]?)) := by
  refine ⟨fun i _ hi q => ⟨xs, xs[i], q, by simp [hi]⟩, fun _ q => ⟨xs, q, rfl⟩, fun i H v H' _ q y => ?_⟩
  obtain ⟨T, x, h1, h2, h3, h4⟩ := y
  exact ⟨T, .int (i : Nat), x, h1, h2, h3, rfl, h4 xs q⟩
/-- a list or a tuple -/
def SqA (K : PySem.W.Frag) (H : Hp) (a : Addr) (xs : List V) : Prop := SqL K H a xs ∨ SqT K H a xs
theorem tup_same {K : PySem.W.Frag} {a : Addr} {H H1 : Hp} {xs : List V} (x : Same H H1) (h : SqT K H a xs) : SqT K H1 a xs := by
  rcases h with (h | ⟨o, h⟩) | h
  · exact .inl (.inl (x _ _ h))
  · exact .inl (.inr ⟨o, x _ _ h⟩)
  · exact .inr h
theorem SqA.same {K : PySem.W.Frag} {a : Addr} {H H1 : Hp} {xs : List V} (h : SqA K H a xs) (x : Same H H1) : SqA K H1 a xs := h.elim (fun h => .inl (x.seq h)) fun h => .inr (tup_same x h)
/-- enumerate of a list or a tuple: for whatever walk it is -/
def iEnumA (K : PySem.W.Frag) (ta : TA) : TI := fun σ H R => ta σ H fun vs H1 => ∃ a xs, vs = [.ref a] ∧ SqA K H1 a xs ∧ ∀ J G, Walk J xs.length G (YPair (fun i => some (.int (i : Nat))) (fun i => xs[i]?)) → (∀ H', Same H1 H' → G H') → R J H1
set_option maxHeartbeats 400000 in
theorem pi_enumA {X : Cx} {e : Expr} {ta : TA} {p pos tpos : Pos} {elts : List Expr} {kk : Nat} (hg : Gl X "enumerate") (hm : X.mg "enumerate" = none) (ha : PA X [e] ta) (hs : starEach [e] X.env = [(false, eval e X.env)] := by rfl) :
    PI X (.Tuple elts kk tpos) (.Call (.Name "enumerate" p) [e] [] pos) (iEnumA X.K ta) := by
  refine ⟨fun pins s σ H R I h => ?_⟩
  refine Call_ (ld_blt I hg hm boot_enumerate (PyProof.Rows.callWith_type1 (thn (ha.run pos pins s σ H _ I h) fun us s1 ⟨vs, H1, I1, r1, q1⟩ => ?_) hs rfl))
  obtain ⟨a, xs, ex, hq⟩ := q1
  subst ex
  have fp : ∀ b ∈ [s1.heap.objs.size + 1, s1.heap.objs.size], FpOk X pins H1 b := fun b hb => by
    have hle : s1.heap.objs.size ≤ b := by
      rcases List.mem_cons.mp hb with z | z
      · rw [z]
        exact Nat.le_succ _
      · rw [List.mem_singleton.mp z]
        exact Nat.le_refl _
    exact I1.fpOk hle (I1.hok.fresh hle)
  cases r1 with
  | cons r rr =>
    cases rr
    cases r
    obtain ⟨hs, q0⟩ := hq
    rcases hs with hq | hq
    · have q := q0 (Ite X.K a) _ walk_enum (fun H' e => e.seq hq)
      obtain ⟨its, rv, p', hz⟩ := I1.list hq
      refine enum_made (begins_list a its.toArray) p'.isList fun h' he hit hk => wpAny_pyIter_enum he ?_
      exact ⟨s1.heap.objs.size + 1, [s1.heap.objs.size + 1, s1.heap.objs.size], _, _, H1, rfl, I1.kept (t' := s1.toks) hk, turn_enum a (s1.heap.objs.size + 1) s1.heap.objs.size, ⟨⟨.none, he⟩, ⟨_, hit, rfl, rfl⟩, Nat.succ_ne_self _⟩, fp, q⟩
    · have q := q0 (IteT X.K a) _ walk_enumT (fun H' e => tup_same e hq)
      obtain ⟨its, rv, p', hz⟩ := I1.tuple hq
      have hlt : a < s1.heap.objs.size := by
        obtain ⟨o, ho, _⟩ := p'
        exact Heap.lt_size ho
      have hne : s1.heap.objs.size + 1 ≠ a := Nat.ne_of_gt (Nat.lt_succ_of_lt hlt)
      refine enum_made (begins_tuple a its.toArray) p' fun h' he hit hk => wpAny_pyIter_enum he ?_
      exact ⟨s1.heap.objs.size + 1, [s1.heap.objs.size + 1, s1.heap.objs.size], _, _, H1, rfl, I1.kept (t' := s1.toks) hk, turn_enumT a (s1.heap.objs.size + 1) s1.heap.objs.size, ⟨⟨.none, he⟩, ⟨_, hit, rfl, rfl⟩, Nat.succ_ne_self _, hne⟩, fp, q⟩
end Own

namespace Own
open PySem PySem.Spec PyProof.Rows L2
section
variable {prog : Program} {w : World} {A : Around} {E : Value → Shared → Prop} {s : Shared}
/-- a list of a text: its signs -/
theorem list_str_init {R : Result → Shared → Prop} (hh : A.handled = none) (x : Str) (t : Tok) (hn : x.cps.size ≤ sizeLine) (S : Addr) (hS : s.heap.get? S = some { cls := .type "list", data := .seq #[] })
    (hR : ∀ (s' : Shared) acc' c', (∀ b o, b ≠ S → s.heap.get? b = some o → s'.heap.get? b = some o) → s'.gens = s.gens → s'.drawn = s.drawn → s'.os = s.os → s'.heap.get? S = some { cls := .type "list", dict := none, data := .seq acc' c', slots := #[] } →
      ItemsOf (SignAt x) acc' x.cps.size → R (.ok (.ret .none)) s') :
    wpAny (model prog w) A.in1 (Builtin.«list.__init__» ⟨[.ref S, .str x t], []⟩)
      (fun fin s' => match fin with | .done f => R (.ok f) s' | .again c' => c'.quiet = true ∧ codeAny (model prog w) A c' R s') (fun e s' => R (.error e) s') s := by
  show wpAny _ _ (do let old ← Builtin.List.listItems (.ref S); Builtin.List.listUpdate (.ref S) (fun _ => #[]); letGo old.toList.reverse; Builtin.List.listExtendWith (.ref S) (.str x t) .none) _ _ s
  refine wpAny_bind ?_
  unfold Builtin.List.listItems
  refine wpAny_bind (wpAny_seqItems hS rfl (wpAny_pure ?_))
  show wpAny _ _ (updateSeq S (fun _ => #[]) >>= fun _ => letGo (#[] : Array Value).toList.reverse >>= fun _ => Builtin.List.listExtendWith (.ref S) (.str x t) .none) _ _ s
  refine wpAny_bind (wpAny_updateSeq hS rfl ?_)
  have hS2 := Heap.get?_update_self (Obj.mapSeq (fun _ => (#[] : Array Value))) hS rfl
  have oth : ∀ b o, b ≠ S → s.heap.get? b = some o → (s.heap.update S (Obj.mapSeq (fun _ => (#[] : Array Value)))).get? b = some o := fun b o hb e => (Heap.get?_update_other _ _ (Ne.symm hb)).trans e
  have hlt : S < s.heap.objs.size := Heap.lt_size hS
  have hsz : (s.heap.update S (Obj.mapSeq (fun _ => (#[] : Array Value)))).objs.size = s.heap.objs.size := by first | exact Heap.size_update .. | simp
  refine wpAny_bind (wpAny_letGo ?_)
  unfold Builtin.List.listExtendWith
  refine wpAny_bind (wpAny_typeOf (T := "str") (v := .str x t) rfl ?_)
  have h1 : Builtin.List.listSameRef (.ref S) (.str x t) = false := rfl
  have h2 : (Value.type "str" == Value.type "list") = false := by decide
  have h3 : (Value.type "str" == Value.type "tuple") = false := by decide
  simp only [h1, h2, h3, Bool.or_false, Bool.false_eq_true, if_false]
  refine wpAny_bind (wpAny_pyIter_str fun o St W hst => ?_)
  refine wpAny_bind (wpAny_holding ?_)
  unfold Builtin.List.listLengthHint
  refine wpAny_bind (wpAny_specialOf (T := "str") (v := .str x t) rfl F.str_len ?_)
  wp_delta
  refine wpAny_bind (wpAny_isInstance (T := "str") (v := .str x t) (b := true) rfl (by rw [isSubtype_type]; kernel_rfl) ?_)
  show wpAny _ A.in1 (typeOf (Value.str x t) >>= _) _ _ _
  refine wpAny_bind (wpAny_typeOf (T := "str") (v := .str x t) rfl ?_)
  refine wpAny_pure ?_
  rw [if_neg (by decide)]
  generalize hH : s.heap.update S (Obj.mapSeq (fun _ => (#[] : Array Value))) = H at W hst hS2 oth hsz ⊢
  have hSf : S ∉ [H.objs.size] := fun hm => by
    have e := List.mem_singleton.mp hm
    rw [hsz] at e
    exact absurd hlt (by rw [e]; exact Nat.lt_irrefl _)
  have hS3 : (H.push o).get? S = _ := Heap.get?_push_of_some _ hS2
  refine wpAny_pure ⟨plainId_quiet F.plain_extend_loop _, codeAny_extend_loopS (W A.in1 hh).toS hn _ hSf _ x.cps.size 0 _ _ _ rfl (Nat.zero_le _) hst hS3 (ItemsOf.nil _) fun s' acc' c' hm hS' hacc => ?_⟩
  refine hR s' acc' c' (fun b ob hb e => hm.heap b ob (fun hmem => ?_) (Heap.get?_push_of_some _ (oth b ob hb e))) hm.gens hm.drawn hm.os hS' hacc
  rcases List.mem_cons.mp hmem with z | z
  · exact hb z
  · have e2 := List.mem_singleton.mp z
    rw [hsz] at e2
    exact absurd (Heap.lt_size e) (by rw [e2]; exact Nat.lt_irrefl _)
theorem list_str {Q : Value → Shared → Prop} (hh : A.handled = none) (x : Str) (t : Tok) (hn : x.cps.size ≤ sizeLine)
    (hQ : ∀ (s' : Shared) acc' c', (∀ b o, s.heap.get? b = some o → s'.heap.get? b = some o) → s'.gens = s.gens → s'.drawn = s.drawn → s'.os = s.os → s'.heap.get? s.heap.objs.size = some { cls := .type "list", dict := none, data := .seq acc' c', slots := #[] } →
      ItemsOf (SignAt x) acc' x.cps.size → Q (.ref s.heap.objs.size) s') : wpAny (model prog w) A (call (.type "list") [.str x t]) Q E s := by
  refine callType_codes (Q₁ := fun obj s₁ => obj = .ref s.heap.objs.size ∧ s₁ = { s with heap := s.heap.push { cls := .type "list", data := .seq #[] } }) F.called_list (F.typeCall_list_1 _) F.entry_list_init (code_list_new _ ⟨rfl, rfl⟩) fun obj s1 h1 => ?_
  obtain ⟨rfl, rfl⟩ := h1
  have hS : (s.heap.push { cls := .type "list", data := .seq #[] }).get? s.heap.objs.size = some { cls := .type "list", data := .seq #[] } := Heap.get?_push_size _ rfl
  refine ⟨⟨_, hS, rfl⟩, F.args_list_init_2 _ _, list_str_init (A := A.in1) hh x t hn _ hS fun s' acc' c' hk hg hd ho hS' hacc => ?_⟩
  exact ⟨rfl, hQ s' acc' c' (fun b o e => hk b o (Nat.ne_of_lt (Heap.lt_size e)) (Heap.get?_push_of_some _ e)) hg hd ho hS' hacc⟩
end
def signsV (z : Str) : List V := z.cps.toList.map fun c => V.str ⟨#[c]⟩
theorem vals_of_get : ∀ (xs : List V) (us : List Value), xs.length = us.length → (∀ (i : Nat) (x : V) (u : Value), xs[i]? = some x → us[i]? = some u → RelV x u) → Vals xs us
  | [], [], _, _ => .nil
  | [], _ :: _, e, _ => by cases e
  | _ :: _, [], e, _ => by cases e
  | x :: xs, u :: us, e, h => .cons (h 0 x u rfl rfl) (vals_of_get xs us (Nat.succ.inj e) fun i y v h1 h2 => h (i + 1) y v h1 h2)
theorem signs_vals {x : Str} {acc : Array Value} (h : ItemsOf (SignAt x) acc x.cps.size) : Vals (signsV x) acc.toList := by
  refine vals_of_get _ _ (by unfold signsV; rw [List.length_map, Array.length_toList, Array.length_toList, h.1]) fun i y v h1 h2 => ?_
  rw [Array.getElem?_toList] at h2
  obtain ⟨c, u, hc, rfl⟩ := h.2 i v h2
  unfold signsV at h1
  rw [List.getElem?_map, Array.getElem?_toList, hc] at h1
  cases h1
  exact ⟨u, rfl⟩
theorem call_list_str {X : Cx} (hc : X.calm = true) : CallR X (.type "list") (fun xs H Q => ∃ z, xs = [.str z] ∧ z.length ≤ 1000 ∧ ∀ l, H l = none → Q (.ref l) (upd H l (.lst (signsV z)))) := by
  intro pins s σ H xs us Q I r h
  obtain ⟨z, rfl, hz, q⟩ := h
  obtain ⟨u, rfl, t, rfl⟩ := vals1 r
  have hn : z.cps.size ≤ sizeLine := Nat.le_of_lt (small1000 hz)
  refine list_str (I.ok.hd hc) z t hn fun s' acc' c' hk hg hd ho hS' hacc => ?_
  obtain ⟨hp, g, d, tk, os⟩ := s'
  obtain rfl : g = s.gens := hg
  obtain rfl : d = s.drawn := hd
  obtain rfl : os = s.os := ho
  refine ⟨.ref s.heap.objs.size, _, I.laid (t' := tk) hk (Nat.le_refl _) (show ObjOk X.prog X.w _ hp _ (.lst (signsV z)) from ⟨?_, acc'.toList, c', signs_vals hacc, hS'⟩), rfl, q _ (I.hok.fresh (Nat.le_refl _))⟩
  unfold signsV
  rw [List.length_map, Array.length_toList]
  exact hn
/-! ### a slice of a list or a tuple -/
def rSlA2 (K : PySem.W.Frag) : V → Option Int → Option Int → Hp → VK → Prop := fun x lo hi H Q => ∃ a xs, x = .ref a ∧ SqA K H a xs ∧ ∀ (r : Addr) (H' : Hp), Same H H' → SqA K H' r (cutV xs lo hi) → Q (.ref r) H'
theorem sl_A {X : Cx} : SlR X (rSlA2 X.K) := fun pins s σ H x v vl vu lo hi sl Q I rx e1 e2 e3 h => by
  obtain ⟨a, xs, rfl, ha, q⟩ := h
  rcases ha with ha | ha
  · exact sl_list pins s σ H (.ref a) v vl vu lo hi sl Q I rx e1 e2 e3 ⟨a, xs, rfl, ha, fun p np => q p _ (same_newH np) (.inl (SqL.of upd_same))⟩
  · refine sl_tupA pins s σ H (.ref a) v vl vu lo hi sl Q I rx e1 e2 e3 ⟨a, xs, rfl, ha, fun e => ?_, fun _ p np => q p _ (same_newH np) (.inr (SqT.of upd_same))⟩
    exact q a H (Same.refl H) (.inr (by rw [cut_whole e]; exact ha))
def SqB (K : PySem.W.Frag) (H : Hp) (a : Addr) (xs : List V) : Prop := SqL K H a xs ∨ H a = some (.tup xs)
theorem SqB.seqA {K : PySem.W.Frag} {H : Hp} {a : Addr} {xs : List V} (h : SqB K H a xs) : SqA K H a xs := h.elim .inl fun h => .inr (SqT.of h)
theorem SqB.same {K : PySem.W.Frag} {a : Addr} {H H1 : Hp} {xs : List V} (h : SqB K H a xs) (x : Same H H1) : SqB K H1 a xs := h.elim (fun h => .inl (x.seq h)) fun h => .inr (x _ _ h)
def spFirstBadA (K : PySem.W.Frag) : Sp := fun vs H Q _ => ∃ (a : Addr) (xs : List V), vs = [.ref a] ∧ SqB K H a xs ∧ xs.length ≤ 1000 ∧ (∀ x ∈ xs, Ent H x) ∧ ∀ H', Same H H' → Q (dueV xs) H'
def spTableA (K : PySem.W.Frag) (C : Addr) : Sp := fun vs H Q _ => ∃ (p a dx : Addr) (xs : List V), vs = [.ref p, .ref a] ∧ H p = some (.ins C dx []) ∧ SqB K H a xs ∧ xs.length ≤ 1000 ∧ (∀ x ∈ xs, Ent H x) ∧ dueV xs = .non ∧
  ∀ H', But p H H' → TabAt H' C p xs → Q .non H'
end Own

namespace Own
open PySem PySem.Spec PyProof.Rows L2
/-! ### len, repr, ==, != of an own class, by name -/
/-- what of a class no def of it says: no __ne__ of its own, and so on -/
structure NeAt (K : PySem.W.Frag) (C : Addr) : Prop where
  cl : Cls K C
  ha : PySem.W.findIn K (.ref C) "__class__" = some (some (.builtin "object.__class__"))
  hn : PySem.W.specialIn K (.builtin "object.__class__") "__get__" = some (some (.builtin "getset_descriptor.__get__"))
  htk : PySem.W.takesIn K (.builtin "object.__class__") = some true
  hm : PySem.W.mroIn K C (.type "object") = some true
  ne : PySem.W.findIn K (.ref C) "__ne__" = some (some (.builtin "object.__ne__"))
  kL : PySem.W.kitOne K (.type "list") (.ref C) = some false
  kT : PySem.W.kitOne K (.type "tuple") (.ref C) = some false
  kS : PySem.W.kitOne K (.type "str") (.ref C) = some false
  fL : PySem.W.notFirst K C (.type "list") = true
  fT : PySem.W.notFirst K C (.type "tuple") = true
  fS : PySem.W.notFirst K C (.type "str") = true
section
variable {X : Cx} {k : Nat} {C f : Addr} {fd : FuncData} {ps : List Str} {sp : Sp}
theorem call_len_cal (c : CalM X.prog X.w X.K X.mg X.base CX0 k C "__len__" f fd ps sp) (hr : Room (k + 1) X.A) : CallR X (.builtin "len") (rLenOwn C sp E0) := call_len_own c.ok c.mt c.b pass0 hr
theorem call_repr_cal (c : CalM X.prog X.w X.K X.mg X.base CX0 k C "__repr__" f fd ps sp) (hr : Room (k + 1) X.A) : CallR X (.builtin "repr") (rReprOwn C sp E0) := call_repr_own c.ok c.mt c.b pass0 hr
theorem op_eq_cal (c : CalM X.prog X.w X.K X.mg X.base CX0 k C "__eq__" f fd ps sp) (hr : Room k X.A) : OpR X (compareOp .Eq) (rEqOwn X.K C false sp E0) := op_eq_own c.ok c.mt c.b pass0 hr
theorem op_ne_cal (n : NeAt X.K C) (c : CalM X.prog X.w X.K X.mg X.base CX0 k C "__eq__" f fd ps sp) (hr : Room (k + 1) X.A) : OpR X (compareOp .NotEq) (rEqOwn X.K C true sp E0) := op_ne_own c.ok c.mt n.ne n.hm c.b pass0 hr
end
theorem NeAt.self {K : PySem.W.Frag} {C : Addr} (n : NeAt K C) : PySem.W.notFirst K C (.ref C) = true := by
  unfold PySem.W.notFirst
  rw [beq_self_eq_true, Bool.true_or]
theorem NeAt.ty {K : PySem.W.Frag} {C : Addr} (n : NeAt K C) {H : Hp} {a dx : Addr} {fs : List (Str × V)} (h : H a = some (.ins C dx fs)) : TyX K H (.ref a) (.ref C) :=
  .base (.ins h n.cl n.ha n.hn n.htk n.hm)
/-! ### texts as data -/
theorem dp_strs {K : PySem.W.Frag} {H : Hp} : ∀ (ys : List Str), DpAll K H (ys.map V.str) (ys.map PyData.str)
  | [] => .nil
  | n :: r => .cons (.str n) (dp_strs r)
theorem eqvAll_strs : ∀ (ys zs : List Str), PyData.eqvAll (ys.map PyData.str) (zs.map PyData.str) = decide (ys = zs)
  | [], [] => by simp [PyData.eqvAll]
  | [], _ :: _ => by simp [PyData.eqvAll]
  | _ :: _, [] => by simp [PyData.eqvAll]
  | y :: ys, z :: zs => by
    have ih := eqvAll_strs ys zs
    simp only [List.map_cons, PyData.eqvAll, PyData.eqv, ih]
    rw [Bool.eq_iff_iff]
    simp
theorem eqv_tups (ys zs : List Str) : PyData.eqv (.tuple (ys.map PyData.str)) (.tuple (zs.map PyData.str)) = decide (ys = zs) := by
  rw [← eqvAll_strs]
  simp only [PyData.eqv]
theorem eqv_lsts (ys zs : List Str) : PyData.eqv (.list (ys.map PyData.str)) (.list (zs.map PyData.str)) = decide (ys = zs) := by
  rw [← eqvAll_strs]
  simp only [PyData.eqv]
/-! ### words -/
/-- a text of one to eight small letters -/
def lowS (z : Str) : Prop := 1 ≤ z.length ∧ z.length ≤ 8 ∧ ∀ c ∈ z.cps.toList, lowB c = true
theorem low_of {z : Str} (h : wordB z = true) : lowS z := by
  unfold wordB at h
  simp only [Bool.and_eq_true, decide_eq_true_eq] at h
  obtain ⟨_, ⟨h1, h2⟩, h3⟩ := h
  exact ⟨by omega, by omega, fun c hc => List.all_eq_true.mp h3 c hc⟩
theorem strOk_low {z : Str} (h : ∀ c ∈ z.cps.toList, lowB c = true) : PyData.canLay0 (.str z) = true := by
  unfold PyData.canLay0 PyData.strOk
  rw [← Array.all_toList, List.all_eq_true]
  intro c hc
  have q := h c hc
  unfold lowB at q
  simp only [Bool.and_eq_true, decide_eq_true_eq] at q
  exact decide_eq_true (by omega)
def Words (ws : List Str) : Prop := ∀ z ∈ ws, wordB z = true
theorem flat_word {z : Str} (h : wordB z = true) : (PyData.str z).canLay0 = true ∧ (PyData.str z).depth = 0 := ⟨strOk_low (low_of h).2.2, by simp only [PyData.depth]⟩
theorem shaped_tupW {ws : List Str} (h : Words ws) : SeqAt.shaped (.tuple (ws.map PyData.str)) = true := shaped_tup fun d hd => by
  obtain ⟨z, hz, rfl⟩ := List.mem_map.mp hd
  exact flat_word (h z hz)
theorem shaped_lstW {ws : List Str} (h : Words ws) : SeqAt.shaped (.list (ws.map PyData.str)) = true := shaped_lst fun d hd => by
  obtain ⟨z, hz, rfl⟩ := List.mem_map.mp hd
  exact flat_word (h z hz)
theorem inV_str (z : Str) : ∀ (l : List Str), inV (.str z) (l.map V.str) = decide (z ∈ l)
  | [] => by rfl
  | y :: l => by
    have ih := inV_str z l
    unfold inV at ih ⊢
    rw [List.map_cons, List.any_cons, ih]
    show ((y == z) || decide (z ∈ l)) = decide (z ∈ y :: l)
    rw [Bool.eq_iff_iff]
    simp only [Bool.or_eq_true, beq_iff_eq, decide_eq_true_eq, List.mem_cons]
    constructor
    · rintro (e | e)
      · exact .inl e.symm
      · exact .inr e
    · rintro (e | e)
      · exact .inl e.symm
      · exact .inr e
theorem inV_mem {x : V} {xs ys : List V} (h : ∀ y, y ∈ xs ↔ y ∈ ys) : inV x xs = inV x ys := by
  unfold inV
  rw [Bool.eq_iff_iff, List.any_eq_true, List.any_eq_true]
  constructor
  · rintro ⟨y, hy, e⟩
    exact ⟨y, (h y).mp hy, e⟩
  · rintro ⟨y, hy, e⟩
    exact ⟨y, (h y).mpr hy, e⟩
theorem badFrom_words : ∀ (ws pre : List Str), Words ws → (∀ z ∈ ws, z ∉ pre) → ws.Nodup → badFrom (pre.map V.str) (ws.map V.str) = none
  | [], _, _, _, _ => rfl
  | z :: ws, pre, hw, hp, hn => by
    obtain ⟨n1, n2⟩ := List.nodup_cons.mp hn
    have h1 : wordV (.str z) = true := hw z (List.mem_cons_self ..)
    have h2 : inV (.str z) (pre.map V.str) = false := by
      rw [inV_str]
      exact decide_eq_false (hp z (List.mem_cons_self ..))
    have ih := badFrom_words ws (pre ++ [z]) (fun y hy => hw y (List.mem_cons_of_mem _ hy)) (fun y hy hm => by
      rcases List.mem_append.mp hm with hm | hm
      · exact hp y (List.mem_cons_of_mem _ hy) hm
      · rw [List.mem_singleton.mp hm] at hy
        exact n1 hy) n2
    show (if (!(wordV (.str z)) || inV (.str z) (pre.map V.str)) = true then some _ else badFrom (pre.map V.str ++ [.str z]) (ws.map V.str)) = none
    rw [h1, h2, if_neg (by decide)]
    rw [List.map_append] at ih
    exact ih
/-- one to three different words -/
structure Cols (ws : List Str) : Prop where
  w : Words ws
  nd : ws.Nodup
  l1 : 1 ≤ ws.length
  l3 : ws.length ≤ 3
theorem due_cols {ws : List Str} (c : Cols ws) : dueV (ws.map V.str) = .non := by
  have q := badFrom_words ws [] c.w (fun _ _ h => by cases h) c.nd
  unfold dueV
  have h1 := c.l1
  have h3 := c.l3
  rw [List.length_map, decide_eq_true (by omega : (1 : Int) ≤ (ws.length : Nat)), decide_eq_true (by omega : ((ws.length : Nat) : Int) ≤ 3), if_pos (by rfl)]
  rw [show badFrom [] (ws.map V.str) = none from q]
theorem ent_word {H : Hp} {ws : List Str} (h : Words ws) : ∀ x ∈ ws.map V.str, Ent H x := fun x hx => by
  obtain ⟨z, hz, rfl⟩ := List.mem_map.mp hx
  refine ⟨_, rfl, fun y e => ?_⟩
  cases e
  have := (low_of (h z hz)).2.1
  omega
/-! ### len, repr and == of a table -/
def spLenT (C : Addr) : Sp := fun vs H Q _ => ∃ (p : Addr) (xs : List V), vs = [.ref p] ∧ TabAt H C p xs ∧ Q (.int (xs.length : Nat)) H
def reprT (ys : List Str) : Str := ((Str.empty ++ "Table(") ++ Txt.join ", " ys) ++ ")"
def spReprT (C : Addr) : Sp := fun vs H Q _ => ∃ (p : Addr) (ys : List Str), vs = [.ref p] ∧ TabAt H C p (ys.map V.str) ∧ Cols ys ∧ Q (.str (reprT ys)) H
def spEqT (C : Addr) : Sp := fun vs H Q _ => ∃ (p : Addr) (y : V) (ys : List Str), vs = [.ref p, y] ∧ TabAt H C p (ys.map V.str) ∧ Words ys ∧
  ((∃ q zs, y = .ref q ∧ TabAt H C q (zs.map V.str) ∧ Words zs ∧ Q (.bl (decide (ys = zs))) H) ∨ (∃ t, kd H y = some t ∧ (t = .lst ∨ t = .tup ∨ t = .str) ∧ Q (.bl false) H))
theorem join_len (S : Str) (ys : List Str) : (Txt.join S ys).length ≤ (ys.map (·.length)).sum + ys.length * S.length := by
  show (Builtin.Str.glued S ys).length ≤ _
  rw [StrLaws.glued_eq_join]
  exact StrLaws.join_length_le S ys
theorem sum_words : ∀ {ws : List Str}, Words ws → (ws.map (·.length)).sum ≤ ws.length * 8
  | [], _ => Nat.zero_le _
  | z :: r, h => by
    have ih := sum_words (ws := r) fun y hy => h y (List.mem_cons_of_mem _ hy)
    have := (low_of (h z (List.mem_cons_self ..))).2.1
    simp only [List.map_cons, List.sum_cons, List.length_cons]
    omega
end Own

namespace Own
open PySem PySem.Spec PyProof.Rows L2
def abcL : List Str := ["a", "b", "c", "d", "e", "f", "g", "h", "i", "j", "k", "l", "m", "n", "o", "p", "q", "r", "s", "t", "u", "v", "w", "x", "y", "z"]
theorem abc_signs : signsV "abcdefghijklmnopqrstuvwxyz" = abcL.map V.str := by decide +kernel
theorem abc_low : ∀ z ∈ abcL, z.length = 1 ∧ ∀ c ∈ z.cps.toList, lowB c = true := by decide +kernel
theorem abc_nd : abcL.Nodup := by decide +kernel
theorem abc_kept : ∀ z ∈ abcL, z ∉ keptL := by decide +kernel
theorem cps_app (a b : Str) : (a ++ b).cps.toList = a.cps.toList ++ b.cps.toList := by
  show (a.cps ++ b.cps).toList = _
  exact Array.toList_append
theorem len_cps (a : Str) : a.cps.toList.length = a.length := Array.length_toList
theorem low_app {a b : Str} (ha : ∀ c ∈ a.cps.toList, lowB c = true) (hb : ∀ c ∈ b.cps.toList, lowB c = true) : ∀ c ∈ (a ++ b).cps.toList, lowB c = true := fun c hc => by
  rw [cps_app] at hc
  rcases List.mem_append.mp hc with hc | hc
  · exact ha c hc
  · exact hb c hc
theorem low_cut {z : Str} {lo hi : Option Int} (h : ∀ c ∈ z.cps.toList, lowB c = true) : ∀ c ∈ (cutS z lo hi).cps.toList, lowB c = true := fun c hc => by
  unfold cutS at hc
  exact h c (List.mem_of_mem_drop (List.mem_of_mem_take hc))
theorem len_cutS (z : Str) (lo hi : Option Int) : (cutS z lo hi).length = min (HT.sIx z.length z.length hi - HT.sIx z.length 0 lo) (z.length - HT.sIx z.length 0 lo) := by
  show (((z.cps.toList.drop (HT.sIx z.length 0 lo)).take (HT.sIx z.length z.length hi - HT.sIx z.length 0 lo)).toArray).size = _
  rw [List.size_toArray, List.length_take, List.length_drop, Array.length_toList] <;> rfl
theorem len_takeS {z : Str} {i : Nat} (h : i ≤ z.length) : (cutS z none (some (i : Int))).length = i := by
  rw [len_cutS, HT.sIx_none, HT.sIx_nat]
  omega
theorem len_dropS {z : Str} {i : Nat} (h : i ≤ z.length) : (cutS z (some (i : Int)) none).length = z.length - i := by
  rw [len_cutS, HT.sIx_none, HT.sIx_nat]
  omega
theorem low_swap {z x : Str} {d : Int} (hz : lowS z) (hx : x.length = 1) (hl : ∀ c ∈ x.cps.toList, lowB c = true) (d0 : 0 ≤ d) (d1 : d < z.length) : lowS (cutS z none (some d) ++ x ++ cutS z (some (d + 1)) none) := by
  obtain ⟨j, rfl⟩ : ∃ j : Nat, d = j := ⟨d.toNat, by omega⟩
  have e1 : (cutS z none (some (j : Int))).length = j := len_takeS (by omega)
  have e2 : (cutS z (some ((j : Int) + 1)) none).length = z.length - (j + 1) := by
    have q := len_dropS (z := z) (i := j + 1) (by omega)
    exact q
  obtain ⟨h1, h2, h3⟩ := hz
  refine ⟨?_, ?_, low_app (low_app (low_cut h3) hl) (low_cut h3)⟩
  · rw [Str.length_append, Str.length_append]
    omega
  · rw [Str.length_append, Str.length_append]
    omega
theorem word_of {z : Str} (h : lowS z) (hk : z ∉ keptL) : wordB z = true := by
  obtain ⟨h1, h2, h3⟩ := h
  unfold wordB
  rw [inV_str, decide_eq_false hk]
  simp only [Bool.not_false, Bool.true_and, Bool.and_eq_true, decide_eq_true_eq]
  exact ⟨⟨by omega, by omega⟩, List.all_eq_true.mpr h3⟩
theorem not_kept {z : Str} (h : wordB z = true) : z ∉ keptL := fun hm => by
  unfold wordB at h
  rw [inV_str, decide_eq_true hm] at h
  simp at h
theorem nodup_sub : ∀ (l m : List Str), l.Nodup → (∀ x ∈ l, x ∈ m) → l.length ≤ m.length
  | [], _, _, _ => Nat.zero_le _
  | x :: l, m, hn, h => by
    obtain ⟨n1, n2⟩ := List.nodup_cons.mp hn
    have hx := h x (List.mem_cons_self ..)
    have ih := nodup_sub l (m.erase x) n2 fun y hy => (List.mem_erase_of_ne (fun e : y = x => n1 (by rw [← e]; exact hy))).mpr (h y (List.mem_cons_of_mem _ hy))
    rw [List.length_erase_of_mem hx] at ih
    have := List.length_pos_of_mem hx
    rw [List.length_cons]
    omega
/-- a letter that is not among three -/
theorem abc_free {us : List Str} (h : us.length ≤ 3) : ∃ z ∈ abcL, z ∉ us := by
  by_cases q : ∃ z ∈ abcL, z ∉ us
  · exact q
  · have q2 : ∀ x ∈ abcL, x ∈ us := fun x hx => Classical.byContradiction fun n => q ⟨x, hx, n⟩
    have := nodup_sub abcL us abc_nd q2
    have e : abcL.length = 26 := rfl
    omega
theorem filter_snoc {α : Type} {xs : List α} {i : Nat} {x : α} (p : α → Bool) (h : xs[i]? = some x) : (xs.take (i + 1)).filter p = (xs.take i).filter p ++ if p x = true then [x] else [] := by
  rw [take_snoc h, List.filter_append, List.filter_cons, List.filter_nil]
theorem atI_last {α : Type} {xs : List α} {v : α} (h : xs[xs.length - 1]? = some v) : atI xs (-1) = some v := by
  have hj : xs.length - 1 < xs.length := (List.getElem?_eq_some_iff.mp h).1
  have e : ixN xs.length (-1) = some (xs.length - 1) := by
    unfold ixN
    rw [if_neg (by omega), if_pos (by omega)]
    congr 1
    omega
  unfold atI
  rw [e]
  exact h
/-- a new word -/
def spWord (K : PySem.W.Frag) : Sp := fun vs H Q _ => ∃ (b u : Addr) (us : List Str), vs = [.ref b, .ref u] ∧ Bag H b ∧ u ≠ b ∧ SqL K H u (us.map V.str) ∧ Words us ∧ us.length ≤ 3 ∧
  ∀ (z : Str) (H' : Hp), wordB z = true → z ∉ us → But b H H' → Bag H' b → Q (.str z) H'
end Own

namespace Own
open PySem PySem.Spec PyProof.Rows L2
section
variable {X : Cx} {x : Str} {B : Addr} {e : Expr} {es : List Expr} {ta : TA} {p1 p2 pos : Pos} {pl : Sem Bool}
/-- the base class at B says no __init__ of its own: the built-in's is found -/
structure BaseI (K : PySem.W.Frag) (B : Addr) : Prop where
  rd : ClX.CRead K B (.type "type")
  ini : PySem.W.findCls K (.ref B) (.type "type") "__init__" = some (.val (.builtin "ValueError.__init__"))
/-- B.__init__(self, ..) -/
theorem pe_binit (b : BaseI X.K B) (hg : Gl X x) (hm : X.mg x = some (.ref B)) (ha : PA X (e :: es) ta)
    (hc : eval (.Call (.Attribute (.Name x p1) "__init__" p2) (e :: es) [] pos) X.env = (do
      let ov ← eval (.Name x p1) X.env
      standAt p2.atName
      let (f, first) ← holding [ov] (getMethod ov "__init__" pl)
      callWith pos f first (backTo pos (starEach (e :: es) X.env)) (backToKw pos (keywordEach [] X.env))) := by rfl)
    (hdb : (x == ("__debug__" : Str)) = false := by decide)
    (he : starEach (e :: es) X.env = (false, eval e X.env) :: starEach es X.env := by rfl) (hpl : (backTo pos (starEach es X.env)).any (·.1) = false := by rfl) :
    PE X (.Call (.Attribute (.Name x p1) "__init__" p2) (e :: es) [] pos) (tVeI X.K ta) := by
  refine ⟨fun pins s σ H Q I h => ?_⟩
  refine PySem.W.methodCall_KW (ld_glob I hg hm ?_ hdb) hc
  refine PySem.W.method_cls I.kIn b.rd.ga (PySem.W.cls_value I.kIn b.rd.rd b.ini (by decide +kernel) ?_)
  show wpAny _ _ (callWith pos (Value.builtin "ValueError.__init__") [] (backTo pos (starEach (e :: es) X.env)) []) _ _ _
  refine PyProof.Rows.callWith_method1 (thn (ha.run pos pins _ σ H _ (I.tok _) h) fun us s1 ⟨vs, H1, I1, r1, a, C, ws, ev, hl, T, ea, q⟩ => ?_) he hpl
  subst ev
  cases r1 with
  | @cons _ u0 _ ur ra rw' =>
    obtain rfl : u0 = Value.ref a := ra
    have hlen : ur.length ≤ sizeLine := by
      rw [← Paired.length rw', sizeLine_eq]
      omega
    exact oinit_ok T I1 ea hlen fun s' J => ⟨.non, H1, J, rfl, q⟩
end
/-! ### isinstance of the exception that the suite holds -/
def rIsX (K : PySem.W.Frag) (a : Addr) (cls : Value) (d : Option Addr) : List V → Hp → VK → Prop := fun xs H Q => ∃ (D dd : Addr) (fs : List (Str × V)) (c : V) (u : Value) (b : Bool), cls = .ref D ∧ d = some dd ∧ H dd = some (.xd fs) ∧ ExcC K D ∧ xs = [.ref a, c] ∧ ClsV c u ∧ PySem.W.kitOne K (.ref D) u = some b ∧ Q (.bl b) H
def rIsXT (K : PySem.W.Frag) (a : Addr) (cls : Value) (d : Option Addr) : List V → Hp → VK → Prop := fun xs H Q => ∃ (D dd : Addr) (fs : List (Str × V)) (tp : Addr) (cs : List V) (us : List Value) (b : Bool), cls = .ref D ∧ d = some dd ∧ H dd = some (.xd fs) ∧ ExcC K D ∧ xs = [.ref a, .ref tp] ∧ H tp = some (.tup cs) ∧ Paired ClsV cs us ∧ PySem.W.kitAny K (.ref D) us = some b ∧ Q (.bl b) H
section
variable {X : Cx} {a : Addr} {oe : Obj} {cls : Value} {d : Option Addr} {pn : List (Addr × Obj)}
theorem held_at {pins : List (Addr × Obj)} {σ : L2.St} {H : Hp} {s : Shared} {D dd : Addr} {fs : List (Str × V)} (I : Inv (X.suite a ((a, oe) :: pn)) pins σ H s) (hz : Zc (.ref D) (some dd) oe) (hf : ∃ vs, oe.data = .fields vs) (ea : H dd = some (.xd fs)) :
    ∃ od, PySem.W.InstAt s.heap a oe D (some od) := by
  obtain ⟨ha, _⟩ := I.pin (a, oe) (List.mem_append_left _ List.mem_cons_self)
  obtain ⟨vs, hd⟩ := hf
  have hx : ObjOk X.prog X.w H s.heap dd (.xd fs) := I.hok dd _ ea
  obtain ⟨mA, hns, hr⟩ := hx
  obtain ⟨od, ho, hl⟩ := lookIn_ns hns
  exact ⟨od, ha, hz.1, by unfold PySem.W.notCls; rw [hd] <;> rfl, by rw [hz.2]; exact ho⟩
theorem kit_held {K : PySem.W.Frag} {D x : Addr} {ox : Obj} {od : Option Obj} (c : ExcC K D) : PySem.W.KitX K (.ref x) (.ref D) (fun h => PySem.W.InstAt h x ox D od) :=
  PySem.W.kitx_exc (by obtain ⟨cd, hc, _⟩ := PySem.W.any_some c.hd; rw [hc]; rfl) c.hg c.hk c.hs c.ha c.hn c.ht c.hm
theorem call_isX (hz : Zc cls d oe) (hf : ∃ vs, oe.data = .fields vs) : CallR (X.suite a ((a, oe) :: pn)) (.builtin "isinstance") (rIsX X.K a cls d) := by
  intro pins s σ H xs us Q I r h
  obtain ⟨D, dd, fs, c, u, b, rfl, rfl, ea, E, rfl, k, e, q⟩ := h
  obtain ⟨od, J⟩ := held_at I hz hf ea
  obtain ⟨u1, u2, rfl, r1, r2⟩ := vals2 r
  cases r1
  have e2 := k.eq r2
  subst e2
  exact PySem.W.kia_one (kit_held E) I.kIn J e (fun z => nomatch z) fun tk => ⟨.bl b, H, I.tok tk, rfl, q⟩
theorem call_isXT (hz : Zc cls d oe) (hf : ∃ vs, oe.data = .fields vs) : CallR (X.suite a ((a, oe) :: pn)) (.builtin "isinstance") (rIsXT X.K a cls d) := by
  intro pins s σ H xs us Q I r h
  obtain ⟨D, dd, fs, tp, cs, ws, b, rfl, rfl, ea, E, rfl, hT, k, e, q⟩ := h
  obtain ⟨od, J⟩ := held_at I hz hf ea
  obtain ⟨u1, u2, rfl, r1, r2⟩ := vals2 r
  cases r1
  cases (show u2 = Value.ref tp from r2)
  obtain ⟨_, its, rv, o, h1, h2, n, h3⟩ := (show ObjOk X.prog X.w H s.heap tp (.tup cs) from I.hok tp _ hT)
  have e3 := ClsV.all k rv
  subst e3
  obtain ⟨oc, oda, dt, sl⟩ := o
  simp only at h2 h3
  subst h2 h3
  exact PySem.W.kia_tup (kit_held E) I.kIn J h1 e (fun z => nomatch z) fun tk => ⟨.bl b, H, I.tok tk, rfl, q⟩
end
/-! ### own exception classes, by name -/
structure CalE (P : Program) (w : World) (K : PySem.W.Frag) (mg : Str → Option Value) (base : Heap) (CX : CXT) (k : Nat) (x : Str) (C f : Addr) (fd : FuncData) (ps : List Str) (sp : Sp) : Prop where
  ok : FnOk P w K mg base CX k f fd ps sp
  cls : OexC K C
  ini : PySem.W.findIn K (.ref C) "__init__" = some (some (.ref f))
  fn : PySem.W.typeIn K (.ref f) = some (.type "function")
  at_ : mg x = some (.ref C)
  b : Binds K fd ps []
section
variable {X : Cx} {k : Nat} {x : Str} {C f : Addr} {fd : FuncData} {ps : List Str} {sp : Sp} {e : Expr} {es : List Expr} {t : TA} {p pos pos2 : Pos} {W : WX}
theorem ps_raiseE (c : CalE X.prog X.w X.K X.mg X.base CX0 k x C f fd ps sp) (hr : Room (k + 1) X.A) (hc : X.calm = true) (tk : Takes X W) (ha : PA X (e :: es) t)
    (hg : Gl X x := by rfl) (hdb : (x == ("__debug__" : Str)) = false := by decide) (he : starEach (e :: es) X.env = (false, eval e X.env) :: starEach es X.env := by rfl) (hpl : (backTo pos (starEach es X.env)).any (·.1) = false := by rfl) :
    PS X (.Raise (some (.Call (.Name x p) (e :: es) [] pos)) none pos2) (fun _ σ H => tMkO C sp [] t σ H fun cls d H' => W cls d σ H') :=
  ps_raise hc tk (pmk_oex c.cls c.ini c.fn c.ok hr c.b .nil pass0 hg c.at_ ha hdb he hpl)
/-- C(..), C's __init__ may raise; the wish of it at these locals -/
def tMakeS (C : Addr) (sp : Sp) (E : L2.St → XK) (t : TA) : TE := fun σ H Q => t σ H fun vs H1 => ∀ x dx, H1 x = none → H1 dx = none → dx ≠ x → sp (.ref x :: vs) (upd (upd H1 dx (.own x)) x (.ins C dx [])) (fun v H2 => v = .non ∧ Q (.ref x) H2) (E σ)
theorem pe_mkrX (c : CalI X.prog X.w X.K X.mg X.base (L2.CX X.prog X.w) k x C f fd ps sp) (hr : Room (k + 1) X.A) (tk : Takes X W) (ha : PA X (e :: es) t)
    (hg : Gl X x := by rfl) (hdb : (x == ("__debug__" : Str)) = false := by decide) (he : starEach (e :: es) X.env = (false, eval e X.env) :: starEach es X.env := by rfl) (hpl : (backTo pos (starEach es X.env)).any (·.1) = false := by rfl) :
    PE X (.Call (.Name x p) (e :: es) [] pos) (tMakeS C sp (fun σ cls d H => W cls d σ H) t) := by
  refine ⟨fun pins s σ H Q I h => wpAny_Call_Name_kw (ld_glob I hg c.at_ ?_ hdb)⟩
  refine PySem.W.callWith_K (h₀ := X.base) I.ok.mod.kin c.mkr.kp (thn (ha.run pos pins s σ H _ I h) fun us s1 ⟨vs, H1, I1, r, q⟩ => ⟨I1.kIn, ?_⟩) he hpl
  have q1 := q (s1.heap.objs.size + 1) s1.heap.objs.size (I1.hok.fresh (Nat.le_succ _)) (I1.hok.fresh (Nat.le_refl _)) (Nat.ne_of_lt (Nat.lt_succ_self _))
  have I2 := Inv.made (C := C) I1
  have r2 : Vals (V.ref (s1.heap.objs.size + 1) :: vs) (Value.ref (s1.heap.objs.size + 1) :: us) := .cons rfl r
  have hl : (Value.ref (s1.heap.objs.size + 1) :: us ++ []).length = ps.length := by
    rw [List.append_nil, ← r2.length]
    exact c.ok.len _ _ _ _ q1
  have bt := c.b _ (Value.ref (s1.heap.objs.size + 1) :: us) I2.kIn hl
  rw [List.append_nil] at bt
  show wpAny _ _ (call (.ref C) us) _ _ _
  refine wpAny_call (make_map (f := f) I1.kIn c.mkr.makes c.mkr.init (beq_iff_eq.mp c.mkr.fn) (codeAny_mono (c.ok.run _ X.stack _ _ ⟨Value.ref (s1.heap.objs.size + 1) :: us, []⟩ _ _ _ _ (hr.make C us []) (I2.env0.make C us []) bt r2 q1) fun z s' hz => ?_))
  match z, hz with
  | .error er, hz => exact tk er s' (XE.of_call I2 (fun _ _ _ h => h) hz)
  | .ok (.ret u), hz =>
    obtain ⟨v, H', I3, rv, ev, q3⟩ := I2.after hz
    subst ev
    exact ⟨rv, V.ref (s1.heap.objs.size + 1), H', I3, rfl, q3⟩
end
end Own
namespace Own
open PySem PySem.Spec PyProof.Rows L2
theorem pe_cal0 {X : Cx} {k : Nat} {x : Str} {f : Addr} {fd : FuncData} {ps : List Str} {sp : Sp} {p pos : Pos} (c : Cal X.prog X.w X.K X.mg X.base CX0 k x f fd ps sp) (hr : Room k X.A) (hg : Gl X x := by rfl) (hdb : (x == ("__debug__" : Str)) = false := by decide) :
    PE X (.Call (.Name x p) [] [] pos) (tCall sp [] E0 tNil) := pe_call0 c.ok hr hg c.at_ c.kp c.b .nil pass0 hdb
/-! ### the errors' own promises -/
/-- copied(v), v no list, no tuple -/
def spCopied : Sp := fun vs H Q _ => ∃ (v : V) (t : Kd), vs = [v] ∧ kd H v = some t ∧ t ≠ .lst ∧ t ≠ .tup ∧ Q v H
/-- self.at = a small number -/
def spErrAt (C : Addr) : Sp := fun vs H Q _ => ∃ (a : Addr) (i : Int), vs = [.ref a, .int i] ∧ H a = some (exo a C none) ∧ -1 ≤ i ∧ i ≤ 2 ∧ ∀ d, H d = none → d ≠ a → Q .non (upd (upd H d (exd d [("at", .int i)])) a (exo a C (some d)))
/-- Table(columns), or the error -/
def spTableX (K : PySem.W.Frag) (C CB : Addr) : Sp := fun vs H Q E => ∃ (p a dx : Addr) (xs : List V), vs = [.ref p, .ref a] ∧ H p = some (.ins C dx []) ∧ SqB K H a xs ∧ xs.length ≤ 1000 ∧ (∀ x ∈ xs, Ent H x) ∧
  (dueV xs = .non → ∀ H', But p H H' → TabAt H' C p xs → Q .non H') ∧ (∀ i, dueV xs = .int i → ∀ d H', Same H H' → H' d = some (.xd [("at", .int i)]) → E (.ref CB) (some d) H')
theorem badFrom_le : ∀ (xs pre : List V) (i : Nat), badFrom pre xs = some i → i < pre.length + xs.length
  | [], _, _, h => by cases h
  | x :: r, pre, i, h => by
    unfold badFrom at h
    split at h
    · cases h
      rw [List.length_cons]
      omega
    · have := badFrom_le r (pre ++ [x]) i h
      rw [List.length_append, List.length_singleton] at this
      rw [List.length_cons]
      omega
theorem due_cases (xs : List V) : dueV xs = .non ∨ ∃ i : Int, dueV xs = .int i ∧ -1 ≤ i ∧ i ≤ 2 := by
  unfold dueV
  split
  · rename_i h
    simp only [Bool.and_eq_true, decide_eq_true_eq] at h
    cases e : badFrom [] xs with
    | none => exact .inl rfl
    | some i =>
      have q := badFrom_le xs [] i e
      rw [List.length_nil] at q
      exact .inr ⟨i, rfl, by omega, by omega⟩
  · exact .inr ⟨-1, rfl, by decide, by decide⟩
end Own
namespace Own
open PySem PySem.Spec PyProof.Rows L2
theorem put_same {H H1 : Hp} {g : Addr} {o : HO} (s : Same H H1) (hg : H g = none) : Same H (upd H1 g o) := fun x u e => by
  rw [upd_ne (ne_of_none e hg)]
  exact s x u e
theorem made_same {H H1 : Hp} {p dx C : Addr} (np : H p = none) (ndx : H dx = none) (B : But p (upd (upd H dx (.own p)) p (.ins C dx [])) H1) : Same H H1 := fun q o e => by
  refine B q o (ne_of_none e np) ?_
  rw [upd_ne (ne_of_none e np), upd_ne (ne_of_none e ndx)]
  exact e
end Own

namespace Own
open PySem PySem.Spec PyProof.Rows L2
/-! ### the law's def, asked where nothing is being shown: repr of data -/
/-- as FnOk, at the place where laws are called -/
def Asked (P : Program) (w : World) (K : PySem.W.Frag) (mg : Str → Option Value) (base : Heap) (f : Addr) (fd : FuncData) (ps : List Str) (sp : Sp) : Prop :=
  ∀ (s : Shared) (H : Hp) (us : List Value) (vs : List V) (Q : VK), Env0 P w K mg base callerA [] s H → BindsTo s fd ⟨us, []⟩ (ps.zip us) → Vals vs us → sp vs H Q E0 →
    codeAny (model P w) callerA (.call (.ref f) ⟨us, []⟩) (CR CX0 [] P w H s Q E0) s
theorem asked_of {P : Program} {w : World} {K : PySem.W.Frag} {mg : Str → Option Value} {base : Heap} {x qual : Str} {params : Arguments} {body : List Stmt} {scope : Scope} {f : Addr} {fd : FuncData} {N ps : List Str} {k : Nat} {sp : Sp}
    (F : FunD K x qual params body scope [] [] f fd) (S : FnScope N ps scope) (hr : Room (k + 1) callerA) (len : ∀ vs H Q E, sp vs H Q E → vs.length = ps.length)
    (hbody : ∀ (cdv : Value) (s : Shared) (H : Hp) (vs : List V) (Q : VK), Room k (callerA.deeper (envOfC qual scope s.heap.objs.size f cdv)) → (callerA.deeper (envOfC qual scope s.heap.objs.size f cdv)).guards = some [] → sp vs H Q E0 →
      ∃ t, PSs (cxOf CX0 P w K mg base N qual scope f cdv callerA [] s H E0) body t ∧ t { nx := fun _ H' => Q .non H', rt := Q } (L2.start N vs) H) : Asked P w K mg base f fd ps sp := by
  obtain ⟨oc, od, dV, kV, doc, pm, an, cdv, ct, osl, rfl, lk, hcd, _, _⟩ := F.ex
  intro s H us vs Q e0 hb r hsp
  have X0 : K.In s.heap := e0.mod.kin.keeps fun b o e => (e0.bs b o e).1
  have nl : s.heap.NoLimit := e0.mod.nolimit.keeps fun b o e => (e0.bs b o e).1
  refine codeAny_call_function hr.depth (X0 _ _ lk) rfl S.co S.gen rfl (PySem.W.codeRec_of X0 hcd) (hb _ _ _ _ ?_)
  refine wpAny_newFunctionEnv_cells S.kind (fun y hy => ?_) fun env he s1 ic => ?_
  · obtain ⟨n, v⟩ := y
    exact (S.par n (List.of_mem_zip hy).1).imp id fun q => ⟨q, PySem.W.cellsFrom_some _ _ _ (.inl q)⟩
  subst he
  refine ⟨nl.keeps ic.toInCall.keep, codeAny_func ?_⟩
  obtain ⟨t, ht, hq⟩ := hbody cdv s H vs Q (hr.deeper _) rfl hsp
  refine wpAny_mono (ht.run [] s1 (L2.start N vs) H _ (inv_start S hr.hd e0 (len _ _ _ _ hsp) r ic) hq) (fun fl s' hs => ?_) fun e s' hs => hs
  match fl, hs with
  | .ret u, ⟨v, σ', H', J, rv, q⟩ => exact ⟨v, H', J.os, J.bare, J.base, J.hok, rv, q⟩
  | .next, ⟨σ', H', J, q⟩ => exact ⟨V.non, H', J.os, J.bare, J.base, J.hok, rfl, q⟩
  | .brk, ⟨_, _, _, q⟩ => exact q.elim
  | .cont, ⟨_, _, _, q⟩ => exact q.elim
/-- repr of a list or a tuple of data -/
def rReprD (K : PySem.W.Frag) : List V → Hp → VK → Prop := fun xs H Q => ∃ (a : Addr) (d : PyData), xs = [.ref a] ∧ Dp K H (.ref a) d ∧ d.showable = true ∧ d.hasDict = false ∧ d.depth ≤ 60 ∧ d.shown.length ≤ sizeLine ∧ Q (.str d.shown) H
theorem call_repr_data {X : Cx} (hu : X.A.units + 64 < cLine) (hg : X.A.guards = some []) : CallR X (.builtin "repr") (rReprD X.K) := by
  intro pins s σ H xs us Q I r h
  obtain ⟨a, d, rfl, hd, h1, h2, h3, h4, q⟩ := h
  obtain ⟨u, rfl, ru⟩ := vals1 r
  cases ru
  obtain ⟨as, rd⟩ := Dp.reads I d (.ref a) (.ref a) hd rfl
  refine repr_of_reads' rd h1 (fun e => by rw [h2] at e; cases e) hg (by omega) (fun _ _ e => e) (fun h' u tk hk => ?_) h4
  exact ⟨.str d.shown, H, I.kept (t' := tk) hk, ⟨_, rfl⟩, q⟩
/-! ### the end of a law whose def is asked so -/
theorem asked_call {P : Program} {w : World} {K : PySem.W.Frag} {mg mb : Str → Option Value} {fa a : Addr} {fd : FuncData} {x : Str} {sp : Sp} {s1 : Shared} {vs : List Value} {ns : List Int}
    (KX : K.In s1.heap) (hns : s1.heap.Ns mainGlobals mg) (hb : s1.heap.Ns builtinsNs mb) (hbb : ∀ x : Str, x ≠ "__name__" → mb x = bootBuiltins x) (hlim : s1.heap.NoLimit) (hg : s1.gens = #[])
    (ha : s1.heap.get? a = some { cls := .type "list", data := .seq vs.toArray }) (hi : IntsAre vs ns) (hl : ns.length ≤ sizeLine)
    (F : ∀ base : Heap, K.In base → base.Ns mainGlobals mg → Asked P w K mg base fa fd [x] sp) (hbind : ∀ (s : Shared) (u : Value), BindsTo s fd ⟨[u], []⟩ [(x, u)])
    (hsp : ∀ H : Hp, SqL K H a (ns.map V.int) → sp [.ref a] H (fun v _ => v = .bl true) E0) :
    codeAny (model P w) callerA (.call (.ref fa) ⟨[.ref a], []⟩) (fun r s' => r = .ok (.ret (.bool true)) ∧ OldK s1.heap s'.heap ∧ s'.os = s1.os ∧ AllBare s'.gens) s1 := by
  have rv := vals_ints hi
  have go : ∀ H : Hp, (∀ b, H b = none ∨ (b = a ∧ K.lookup a = none ∧ H b = some (.frz { cls := .type "list", data := .seq vs.toArray } (.lst (ns.map V.int))))) → SqL K H a (ns.map V.int) →
      codeAny (model P w) callerA (.call (.ref fa) ⟨[.ref a], []⟩) (fun r s' => r = .ok (.ret (.bool true)) ∧ OldK s1.heap s'.heap ∧ s'.os = s1.os ∧ AllBare s'.gens) s1 := by
    intro H hH hS
    have hok : HOk P w H s1.heap := fun b u z => by
      rcases hH b with q | ⟨rfl, _, q⟩
      · rw [q] at z
        cases z
      · rw [q] at z
        cases z
        exact ⟨ha, by rw [List.length_map]; exact hl, vs, _, rv, ha⟩
    have at_ : ∀ {b : Addr} {o : Obj}, s1.heap.get? b = some o → (b = a → K.lookup a = none → False) → (hidT s1.heap H).get? b = some o := fun {b o} e n => hidT_get e (by
      rcases hH b with q | ⟨q1, q2, _⟩
      · exact q
      · exact (n q1 q2).elim)
    have inK : K.In (hidT s1.heap H) := fun b o e => at_ (KX b o e) fun q1 q2 => by
      subst q1
      rw [q2] at e
      cases e
    have dic : ∀ {b : Addr} {m : Str → Option Value}, s1.heap.Ns b m → (hidT s1.heap H).Ns b m := fun {b m} ⟨o, es, ep, e, dd, r⟩ => ⟨o, es, ep, at_ e (fun q1 _ => by
      subst q1
      rw [ha] at e
      cases e
      cases dd), dd, r⟩
    have M : Mod K mg (hidT s1.heap H) := ⟨inK, dic hns, ⟨mb, dic hb, hbb⟩, let ⟨mc, h1, h2⟩ := hlim; ⟨mc, dic h1, h2⟩⟩
    have e0 : Env0 P w K mg (hidT s1.heap H) callerA [] s1 H := ⟨rfl, M, fun b o e => of_hidT e, Nat.le_of_eq (hidT_size _ _), trivial, (fun b z => by cases z), hok, .of_eq hg⟩
    refine codeAny_mono (F _ inK (dic hns) s1 H [.ref a] [.ref a] _ e0 (hbind s1 (.ref a)) (.cons rfl .nil) (hsp H hS)) fun r s' h => ?_
    match r, h with
    | .error e, h => exact h.elim
    | .ok (.ret u), ⟨v, H', os, bare, un, hok', r', q⟩ =>
      have q' : v = .bl true := q
      subst q'
      obtain rfl : u = Value.bool true := r'
      refine ⟨rfl, OldK.of_keep fun b o e => ?_, os, bare⟩
      rcases hH b with z | ⟨rfl, _, z⟩
      · exact un.keep b o e z (fun z => by cases z) (by simp)
      · obtain ⟨e2, _⟩ := hok' b _ (un.frzs b _ _ z)
        rw [ha] at e
        cases e
        exact e2
  cases hk : K.lookup a with
  | some o =>
    have e := KX a o hk
    rw [ha] at e
    cases e
    exact go (fun _ => none) (fun _ => .inl rfl) (.inr ⟨_, vs.toArray, _, hk, rfl, rfl, rfl, by rw [List.size_toArray, hi.length]; exact hl, by simpa using rv⟩)
  | none =>
    refine go (fun b => if b = a then some (.frz { cls := .type "list", data := .seq vs.toArray } (.lst (ns.map V.int))) else none) (fun b => ?_) (.inl (.inr ⟨{ cls := .type "list", data := .seq vs.toArray }, if_pos rfl⟩))
    by_cases q : b = a
    · exact .inr ⟨q, hk, if_pos q⟩
    · exact .inl (if_neg q)
theorem asked_walk {l : PySem.W.OpenLaw} {n : Nat} {q : Program} {loose : List Str} {XP : (Str → Option Value) → Heap → Prop} {YP : World → Heap → Prop} {d : DefRec} {x : Str}
    (hn : l.most = some n) (hn2 : n ≤ sizeLine) (hdf : d.params.defaults = [])
    (F : ∀ (w : World) (mg : Str → Option Value) (fa : Addr) (h : Heap), YP w h → h.Ns mainGlobals mg → mg d.name = some (.ref fa) →
      ∃ (K : PySem.W.Frag) (fd : FuncData) (sp : Sp), K.In h ∧ (∀ (s : Shared) (u : Value), BindsTo s fd ⟨[u], []⟩ [(x, u)]) ∧
        (∀ (H : Hp) (a : Addr) (ns : List Int), ns.length ≤ n → SqL K H a (ns.map V.int) → sp [.ref a] H (fun v _ => v = .bl true) E0) ∧
        ∀ base : Heap, K.In base → base.Ns mainGlobals mg → Asked l.prog w K mg base fa fd [x] sp) :
    PySem.W.WalkO q loose XP YP l.row.toRowW d [] (fun f vs => PySem.call f vs) := by
  refine Att.attach_call hn hdf fun w s0 s1 mg mb fa o pm cd doc a vs ns G Y ho hd hcd hmg hobj hints hlen hg => ?_
  obtain ⟨K, fd, sp, KX, hb, hsp, hF⟩ := F w mg fa _ Y G.T.g hmg
  exact asked_call KX G.T.g G.T.b G.T.builtins G.T.nolimit hg hobj hints (Nat.le_trans hlen hn2) hF hb (fun H hS => hsp H a ns hlen hS)
end Own

namespace Own
open PySem PySem.Spec PyProof.Rows L2
/-- all but these stays -/
def Buts (bs : List Addr) (H H' : Hp) : Prop := ∀ a o, a ∉ bs → H a = some o → H' a = some o
theorem Buts.of_same {bs : List Addr} {H H' : Hp} (s : Same H H') : Buts bs H H' := fun a o _ h => s a o h
theorem Buts.of_but {bs : List Addr} {b : Addr} {H H' : Hp} (s : But b H H') (hb : b ∈ bs) : Buts bs H H' := fun a o n h => s a o (fun e => n (e ▸ hb)) h
theorem Buts.put {bs : List Addr} {l : Addr} {H : Hp} {o : HO} (hl : l ∈ bs) : Buts bs H (upd H l o) := fun a u n h => by
  rw [upd_ne (fun e : a = l => n (by rw [e]; exact hl))]
  exact h
mutual
/-- v stands for the data, on objects that are none of bs -/
def Dq (H : Hp) (bs : List Addr) : PyData → V → Prop
  | .none, v => v = .non
  | .bool x, v => v = .bl x
  | .int i, v => v = .int i
  | .str z, v => v = .str z ∧ z.length ≤ 100
  | .list ds, v => ∃ a xs, v = .ref a ∧ a ∉ bs ∧ H a = some (.lst xs) ∧ DqA H bs ds xs
  | .tuple ds, v => ∃ a xs, v = .ref a ∧ a ∉ bs ∧ H a = some (.tup xs) ∧ DqA H bs ds xs
  | .dict _, _ => False
def DqA (H : Hp) (bs : List Addr) : List PyData → List V → Prop
  | [], xs => xs = []
  | d :: ds, xs => ∃ y ys, xs = y :: ys ∧ Dq H bs d y ∧ DqA H bs ds ys
end
mutual
theorem Dq.dp {K : PySem.W.Frag} {H : Hp} {bs : List Addr} : ∀ (d : PyData) (v : V), Dq H bs d v → Dp K H v d
  | .none, v, h => by
    obtain rfl : v = .non := by simpa only [Dq] using h
    exact .non
  | .bool x, v, h => by
    obtain rfl : v = .bl x := by simpa only [Dq] using h
    exact .bl x
  | .int i, v, h => by
    obtain rfl : v = .int i := by simpa only [Dq] using h
    exact .int i
  | .str z, v, h => by
    obtain ⟨rfl, _⟩ : v = .str z ∧ z.length ≤ 100 := by simpa only [Dq] using h
    exact .str z
  | .list ds, v, h => by
    obtain ⟨a, xs, rfl, _, ha, hx⟩ : ∃ a xs, v = .ref a ∧ a ∉ bs ∧ H a = some (.lst xs) ∧ DqA H bs ds xs := by simpa only [Dq] using h
    exact .lst (SqL.of ha) (DqA.dp ds xs hx)
  | .tuple ds, v, h => by
    obtain ⟨a, xs, rfl, _, ha, hx⟩ : ∃ a xs, v = .ref a ∧ a ∉ bs ∧ H a = some (.tup xs) ∧ DqA H bs ds xs := by simpa only [Dq] using h
    exact .tup (SqT.of ha) (DqA.dp ds xs hx)
  | .dict _, v, h => by
    have h : False := by simpa only [Dq] using h
    exact h.elim
theorem DqA.dp {K : PySem.W.Frag} {H : Hp} {bs : List Addr} : ∀ (ds : List PyData) (xs : List V), DqA H bs ds xs → DpAll K H xs ds
  | [], xs, h => by
    obtain rfl : xs = [] := by simpa only [DqA] using h
    exact .nil
  | d :: ds, xs, h => by
    obtain ⟨y, ys, rfl, h1, h2⟩ : ∃ y ys, xs = y :: ys ∧ Dq H bs d y ∧ DqA H bs ds ys := by simpa only [DqA] using h
    exact .cons (Dq.dp d y h1) (DqA.dp ds ys h2)
end
mutual
theorem Dq.buts {H H' : Hp} {bs : List Addr} (B : Buts bs H H') : ∀ (d : PyData) (v : V), Dq H bs d v → Dq H' bs d v
  | .none, v, h => by simpa only [Dq] using h
  | .bool x, v, h => by simpa only [Dq] using h
  | .int i, v, h => by simpa only [Dq] using h
  | .str z, v, h => by simpa only [Dq] using h
  | .list ds, v, h => by
    obtain ⟨a, xs, rfl, n, ha, hx⟩ : ∃ a xs, v = .ref a ∧ a ∉ bs ∧ H a = some (.lst xs) ∧ DqA H bs ds xs := by simpa only [Dq] using h
    simp only [Dq]
    exact ⟨a, xs, rfl, n, B _ _ n ha, DqA.buts B ds xs hx⟩
  | .tuple ds, v, h => by
    obtain ⟨a, xs, rfl, n, ha, hx⟩ : ∃ a xs, v = .ref a ∧ a ∉ bs ∧ H a = some (.tup xs) ∧ DqA H bs ds xs := by simpa only [Dq] using h
    simp only [Dq]
    exact ⟨a, xs, rfl, n, B _ _ n ha, DqA.buts B ds xs hx⟩
  | .dict _, v, h => by
    have h : False := by simpa only [Dq] using h
    exact h.elim
theorem DqA.buts {H H' : Hp} {bs : List Addr} (B : Buts bs H H') : ∀ (ds : List PyData) (xs : List V), DqA H bs ds xs → DqA H' bs ds xs
  | [], xs, h => by simpa only [DqA] using h
  | d :: ds, xs, h => by
    obtain ⟨y, ys, rfl, h1, h2⟩ : ∃ y ys, xs = y :: ys ∧ Dq H bs d y ∧ DqA H bs ds ys := by simpa only [DqA] using h
    simp only [DqA]
    exact ⟨y, ys, rfl, Dq.buts B d y h1, DqA.buts B ds ys h2⟩
end
theorem Dq.ent {H : Hp} {bs : List Addr} : ∀ {d : PyData} {v : V}, Dq H bs d v → Ent H v
  | .none, v, h => by
    obtain rfl : v = .non := by simpa only [Dq] using h
    exact ⟨_, rfl, nofun⟩
  | .bool x, v, h => by
    obtain rfl : v = .bl x := by simpa only [Dq] using h
    exact ⟨_, rfl, nofun⟩
  | .int i, v, h => by
    obtain rfl : v = .int i := by simpa only [Dq] using h
    exact ⟨_, rfl, nofun⟩
  | .str z, v, h => by
    obtain ⟨rfl, q⟩ : v = .str z ∧ z.length ≤ 100 := by simpa only [Dq] using h
    exact ⟨_, rfl, fun y e => by cases e; omega⟩
  | .list ds, v, h => by
    obtain ⟨a, xs, rfl, n, ha, hx⟩ : ∃ a xs, v = .ref a ∧ a ∉ bs ∧ H a = some (.lst xs) ∧ DqA H bs ds xs := by simpa only [Dq] using h
    exact ⟨_, kd_lst ha, nofun⟩
  | .tuple ds, v, h => by
    obtain ⟨a, xs, rfl, n, ha, hx⟩ : ∃ a xs, v = .ref a ∧ a ∉ bs ∧ H a = some (.tup xs) ∧ DqA H bs ds xs := by simpa only [Dq] using h
    exact ⟨_, kd_tup ha, nofun⟩
  | .dict _, v, h => by
    have h : False := by simpa only [Dq] using h
    exact h.elim
/-! ### small data -/
structure Nice (d : PyData) : Prop where
  lay : d.canLay0 = true
  dep : d.depth ≤ 3
  sh : d.showable = true
  nd : d.hasDict = false
  sz : d.shown.length ≤ 200
theorem nice_word {z : Str} (h : wordB z = true) : Nice (.str z) := by
  obtain ⟨h1, h2, h3⟩ := low_of h
  refine ⟨strOk_low h3, by simp only [PyData.depth]; omega, by simp only [PyData.showable], by simp only [PyData.hasDict], ?_⟩
  have q := StrLaws.reprText_len z fun c hc => by
    have q := h3 c hc
    unfold lowB at q
    simp only [Bool.and_eq_true, decide_eq_true_eq] at q
    omega
  simp only [PyData.shown]
  omega
theorem nice_all : ∀ {ds : List PyData}, (∀ d ∈ ds, Nice d) → PyData.canLayAll0 ds = true ∧ PyData.depthAll ds ≤ 3 ∧ PyData.showableAll ds = true ∧ PyData.hasDictAll ds = false ∧ ((PyData.shownAll ds).map (·.length)).sum ≤ 200 * ds.length ∧ (PyData.shownAll ds).length = ds.length
  | [], _ => ⟨by simp only [PyData.canLayAll0], by simp only [PyData.depthAll]; omega, by simp only [PyData.showableAll], by simp only [PyData.hasDictAll], by simp [PyData.shownAll], by simp [PyData.shownAll]⟩
  | d :: r, h => by
    obtain ⟨h1, h2, h3, h4, h5⟩ := h d (List.mem_cons_self ..)
    obtain ⟨g1, g2, g3, g4, g5, g6⟩ := nice_all (ds := r) fun x hx => h x (List.mem_cons_of_mem _ hx)
    refine ⟨by simp only [PyData.canLayAll0, h1, g1, Bool.and_self], ?_, by simp only [PyData.showableAll, h3, g3, Bool.and_self], by simp only [PyData.hasDictAll, h4, g4, Bool.or_self], ?_, ?_⟩
    · simp only [PyData.depthAll]
      omega
    · simp only [PyData.shownAll, List.map_cons, List.sum_cons, List.length_cons]
      omega
    · simp only [PyData.shownAll, List.length_cons, g6]
theorem nice_list {ds : List PyData} (h : ∀ d ∈ ds, Nice d) (hl : ds.length ≤ 100) : SeqAt.shaped (.list ds) = true ∧ (PyData.list ds).showable = true ∧ (PyData.list ds).hasDict = false ∧ (PyData.list ds).depth ≤ 60 ∧ (PyData.list ds).shown.length ≤ sizeLine := by
  obtain ⟨g1, g2, g3, g4, g5, g6⟩ := nice_all h
  refine ⟨?_, by simp only [PyData.showable, g3], by simp only [PyData.hasDict, g4], by simp only [PyData.depth]; omega, ?_⟩
  · unfold SeqAt.shaped
    simp only [PyData.canLay0, PyData.depth, g1, Bool.true_and]
    exact decide_eq_true (by omega)
  · simp only [PyData.shown]
    have q := listText_len_le (PyData.shownAll ds)
    refine Nat.le_trans q ?_
    rw [sizeLine_eq, g6]
    omega
theorem dqA_len : ∀ {H : Hp} {bs : List Addr} {ds : List PyData} {xs : List V}, DqA H bs ds xs → ds.length = xs.length
  | H, bs, [], xs, h => by
    obtain rfl : xs = [] := by simpa only [DqA] using h
    rfl
  | H, bs, d :: ds, xs, h => by
    obtain ⟨y, ys, rfl, _, h2⟩ : ∃ y ys, xs = y :: ys ∧ Dq H bs d y ∧ DqA H bs ds ys := by simpa only [DqA] using h
    rw [List.length_cons, List.length_cons, dqA_len h2]
end Own
namespace Own
open PySem PySem.Spec PyProof.Rows L2
def fdV : V → PyData
  | .bl b => .bool b
  | .int i => .int i
  | .str z => .str z
  | _ => .none
def niceB (d : PyData) : Bool := d.canLay0 && decide (d.depth ≤ 3) && d.showable && !d.hasDict && decide (d.shown.length ≤ 200)
theorem niceB_ok {d : PyData} (h : niceB d = true) : Nice d := by
  unfold niceB at h
  simp only [Bool.and_eq_true, decide_eq_true_eq, Bool.not_eq_true'] at h
  obtain ⟨⟨⟨⟨h1, h2⟩, h3⟩, h4⟩, h5⟩ := h
  exact ⟨h1, h2, h3, h4, h5⟩
def okV (v : V) : Bool := flatV v && (match v with
  | .str z => decide (z.length ≤ 100)
  | _ => true) && niceB (fdV v)
theorem okV_nice {v : V} (h : okV v = true) : Nice (fdV v) := niceB_ok (Bool.and_eq_true_iff.mp h).2
theorem okV_dq {v : V} {H : Hp} {bs : List Addr} (h : okV v = true) : Dq H bs (fdV v) v := by
  obtain ⟨h1, _⟩ := Bool.and_eq_true_iff.mp h
  obtain ⟨h1, h2⟩ := Bool.and_eq_true_iff.mp h1
  cases v with
  | non => simp only [fdV, Dq]
  | bl b => simp only [fdV, Dq]
  | int b => simp only [fdV, Dq]
  | str z =>
    simp only [fdV, Dq]
    exact ⟨trivial, of_decide_eq_true h2⟩
  | _ => cases h1
example : okV (.int (10 ^ 30)) = true := by decide +kernel
example : okV (.str "a\n") = true := by decide +kernel
example : niceB (.tuple [.tuple [.str "a"], .int 1]) = true := by decide +kernel
end Own

namespace Own
/-! ### integers beside a row, among numbers: the plain mathematics -/
/-- the integers between lo and hi -/
def between (lo hi : Int) : List Int := (List.range (hi - lo - 1).toNat).map fun i : Nat => lo + 1 + (i : Int)
theorem mem_between {lo hi x : Int} : x ∈ between lo hi ↔ lo < x ∧ x < hi := by
  unfold between
  rw [List.mem_map]
  constructor
  · rintro ⟨i, hi', rfl⟩
    have := List.mem_range.mp hi'
    omega
  · rintro ⟨h1, h2⟩
    exact ⟨(x - lo - 1).toNat, List.mem_range.mpr (by omega), by omega⟩
theorem between_nodup (lo hi : Int) : (between lo hi).Nodup := by
  unfold between
  refine List.pairwise_map.mpr (List.Pairwise.imp ?_ List.nodup_range)
  intro a b h e
  exact h (by omega)
/-- the first integer between lo and hi that is not in the row -/
def freeIn (lo hi : Int) (r : List Int) : Option Int := (between lo hi).find? fun x => !(decide (x ∈ r))
theorem freeIn_some {lo hi x : Int} {r : List Int} (h : freeIn lo hi r = some x) : lo < x ∧ x < hi ∧ x ∉ r := by
  unfold freeIn at h
  have h1 := List.find?_some h
  have h2 := List.mem_of_find?_eq_some h
  simp only [Bool.not_eq_true', decide_eq_false_iff_not] at h1
  obtain ⟨h3, h4⟩ := mem_between.mp h2
  exact ⟨h3, h4, h1⟩
theorem freeIn_ex {lo hi v : Int} {r : List Int} (h1 : lo < v) (h2 : v < hi) (h3 : v ∉ r) : ∃ x, freeIn lo hi r = some x := by
  cases e : freeIn lo hi r with
  | some x => exact ⟨x, rfl⟩
  | none =>
    unfold freeIn at e
    have q := List.find?_eq_none.mp e v (mem_between.mpr ⟨h1, h2⟩)
    simp only [Bool.not_eq_true', decide_eq_false_iff_not, Decidable.not_not] at q
    exact absurd q h3
/-- the ends of the stretches: pairs of neighbours -/
def pairsOf : List Int → List (Int × Int)
  | a :: b :: r => (a, b) :: pairsOf (b :: r)
  | _ => []
def stretchL (ns : List Int) (room : Int) : List (Int × Int) := match ns with
  | [] => [(0, room + 1)]
  | n :: r => pairsOf ((n - room - 1) :: (n :: r) ++ [(n :: r).getLast (List.cons_ne_nil _ _) + room + 1])
/-- strictly ascending -/
def Asc (l : List Int) : Prop := l.Pairwise (· < ·)
theorem pairs_asc : ∀ {l : List Int} {a b : Int}, Asc l → (a, b) ∈ pairsOf l → a < b ∧ a ∈ l ∧ b ∈ l ∧ ∀ x ∈ l, x ≤ a ∨ b ≤ x
  | [], a, b, _, h => by simp [pairsOf] at h
  | [_], a, b, _, h => by simp [pairsOf] at h
  | c :: d :: r, a, b, hs, h => by
    unfold pairsOf at h
    have hs' := List.pairwise_cons.mp hs
    rcases List.mem_cons.mp h with e | h
    · cases e
      have hcd := hs'.1 d (List.mem_cons_self ..)
      refine ⟨hcd, List.mem_cons_self .., List.mem_cons_of_mem _ (List.mem_cons_self ..), fun x hx => ?_⟩
      rcases List.mem_cons.mp hx with rfl | hx
      · exact .inl (Int.le_refl _)
      · rcases List.mem_cons.mp hx with rfl | hx
        · exact .inr (Int.le_refl _)
        · exact .inr (Int.le_of_lt ((List.pairwise_cons.mp hs'.2).1 x hx))
    · obtain ⟨h1, h2, h3, h4⟩ := pairs_asc hs'.2 h
      refine ⟨h1, List.mem_cons_of_mem _ h2, List.mem_cons_of_mem _ h3, fun x hx => ?_⟩
      rcases List.mem_cons.mp hx with rfl | hx
      · exact .inl (Int.le_of_lt (hs'.1 a h2))
      · exact h4 x hx
/-- an integer between the first and the last of them, none of them, is in a stretch -/
theorem pairs_find : ∀ {l : List Int} {v f : Int}, Asc (f :: l) → f < v → (∃ x ∈ l, v < x) → v ∉ l → ∃ a b, (a, b) ∈ pairsOf (f :: l) ∧ a < v ∧ v < b
  | [], v, f, _, _, ⟨x, hx, _⟩, _ => by cases hx
  | d :: r, v, f, hs, h1, ⟨x, hx, h2⟩, hn => by
    have hs' := List.pairwise_cons.mp hs
    have hvd : v ≠ d := fun e => hn (by rw [e]; exact List.mem_cons_self ..)
    by_cases q : v < d
    · exact ⟨f, d, by unfold pairsOf; exact List.mem_cons_self .., h1, q⟩
    · have hx' : x ∈ r := by
        rcases List.mem_cons.mp hx with rfl | hx
        · exact absurd h2 q
        · exact hx
      obtain ⟨a, b, h3, h4, h5⟩ := pairs_find (l := r) (v := v) (f := d) hs'.2 (by omega) ⟨x, hx', h2⟩ (fun hm => hn (List.mem_cons_of_mem _ hm))
      exact ⟨a, b, by unfold pairsOf; exact List.mem_cons_of_mem _ h3, h4, h5⟩
theorem pairs_app : ∀ {l m : List Int} {p : Int × Int}, p ∈ pairsOf l → p ∈ pairsOf (l ++ m)
  | [], m, p, h => by simp [pairsOf] at h
  | [_], m, p, h => by simp [pairsOf] at h
  | c :: d :: r, m, p, h => by
    unfold pairsOf at h
    show p ∈ pairsOf (c :: d :: (r ++ m))
    unfold pairsOf
    rcases List.mem_cons.mp h with e | h
    · exact List.mem_cons.mpr (.inl e)
    · exact List.mem_cons_of_mem _ (pairs_app (l := d :: r) h)
theorem pairs_cons {c d : Int} {r : List Int} {p : Int × Int} (h : p ∈ pairsOf (d :: r)) : p ∈ pairsOf (c :: d :: r) := by
  unfold pairsOf
  exact List.mem_cons_of_mem _ h
theorem pairs_last : ∀ (n : Int) (l : List Int) (d : Int), ((n :: l).getLast (List.cons_ne_nil _ _), d) ∈ pairsOf ((n :: l) ++ [d])
  | n, [], d => by
    show (n, d) ∈ pairsOf [n, d]
    unfold pairsOf
    exact List.mem_cons_self ..
  | n, m :: l, d => by
    have ih := pairs_last m l d
    rw [List.getLast_cons (List.cons_ne_nil _ _)]
    exact pairs_cons ih
/-! ### alike -/
def Alike (ns r : List Int) (x y : Int) : Prop := (∀ n ∈ ns, (x < n ↔ y < n) ∧ (x = n ↔ y = n)) ∧ ∀ p ∈ r, (x = p ↔ y = p)
theorem Alike.refl {ns r : List Int} {x : Int} : Alike ns r x x := ⟨fun _ _ => ⟨Iff.rfl, Iff.rfl⟩, fun _ _ => Iff.rfl⟩
/-- what stands beside a row -/
def Spot (ns r : List Int) (x : Int) : Prop := x ∈ ns ∨ x ∈ r ∨ ∃ a b, (a, b) ∈ stretchL ns ((r.length : Int) + 1) ∧ freeIn a b r = some x
theorem asc_ends {n : Int} {l : List Int} {k : Int} (h : Asc (n :: l)) (hk : 0 < k) : Asc ((n - k) :: (n :: l) ++ [(n :: l).getLast (List.cons_ne_nil _ _) + k]) := by
  have hle : ∀ x ∈ n :: l, x ≤ (n :: l).getLast (List.cons_ne_nil _ _) := fun x hx => by
    have e := List.dropLast_concat_getLast (List.cons_ne_nil n l)
    have h2 : Asc ((n :: l).dropLast ++ [(n :: l).getLast (List.cons_ne_nil _ _)]) := by rw [e]; exact h
    rw [← e] at hx
    rcases List.mem_append.mp hx with hx | hx
    · exact Int.le_of_lt ((List.pairwise_append.mp h2).2.2 x hx _ (List.mem_singleton.mpr rfl))
    · rw [List.mem_singleton.mp hx]
      exact Int.le_refl _
  have hge : ∀ x ∈ n :: l, n ≤ x := fun x hx => by
    rcases List.mem_cons.mp hx with rfl | hx
    · exact Int.le_refl _
    · exact Int.le_of_lt ((List.pairwise_cons.mp h).1 x hx)
  refine List.pairwise_append.mpr ⟨List.pairwise_cons.mpr ⟨fun x hx => ?_, h⟩, List.pairwise_singleton _ _, fun x hx y hy => ?_⟩
  · have := hge x hx
    omega
  · rw [List.mem_singleton.mp hy]
    rcases List.mem_cons.mp hx with rfl | hx
    · have := hle n (List.mem_cons_self ..)
      omega
    · have := hle x hx
      omega
/-- every integer that is no number lies beyond the numbers or in a stretch: a stretch whose integers are alike to it -/
theorem stretch_of {ns : List Int} {room v : Int} (h : Asc ns) (hr : 0 < room) (hv : v ∉ ns) :
    ∃ a b, (a, b) ∈ stretchL ns room ∧ (∀ x, a < x → x < b → ∀ n ∈ ns, (v < n ↔ x < n) ∧ x ≠ n) ∧ ((a < v ∧ v < b ∧ a ∈ ns ∧ b ∈ ns) ∨ room ≤ b - a - 1) := by
  cases ns with
  | nil => exact ⟨0, room + 1, by unfold stretchL; exact List.mem_singleton.mpr rfl, fun _ _ _ n hn => (by cases hn), .inr (by omega)⟩
  | cons n l =>
    have ha := asc_ends h (k := room + 1) (by omega)
    have e1 : n - room - 1 = n - (room + 1) := by omega
    have e2 : (n :: l).getLast (List.cons_ne_nil _ _) + room + 1 = (n :: l).getLast (List.cons_ne_nil _ _) + (room + 1) := by omega
    have pick : ∀ {a b : Int}, (a, b) ∈ stretchL (n :: l) room → a < b ∧ ∀ x ∈ n :: l, x ≤ a ∨ b ≤ x := fun {a b} hm => by
      unfold stretchL at hm
      dsimp only at hm
      rw [e1, e2] at hm
      obtain ⟨h1, _, _, h4⟩ := pairs_asc ha hm
      exact ⟨h1, fun x hx => h4 x (List.mem_append_left _ (List.mem_cons_of_mem _ hx))⟩
    generalize hL : (n :: l).getLast (List.cons_ne_nil _ _) = L at *
    by_cases q1 : v < n
    · refine ⟨n - room - 1, n, by unfold stretchL; exact List.mem_cons_self .., fun x h1 h2 m hm => ?_, .inr (by omega)⟩
      have : n ≤ m := by
        rcases List.mem_cons.mp hm with rfl | hm
        · exact Int.le_refl _
        · exact Int.le_of_lt ((List.pairwise_cons.mp h).1 m hm)
      exact ⟨⟨fun _ => by omega, fun _ => by omega⟩, by omega⟩
    · by_cases q2 : ∃ x ∈ l, v < x
      · have hnv : n ≠ v := fun e => hv (by rw [← e]; exact List.mem_cons_self ..)
        obtain ⟨a, b, h1, h2, h3⟩ := pairs_find h (by omega) q2 (fun hm => hv (List.mem_cons_of_mem _ hm))
        obtain ⟨p1, p2, p3, p4⟩ := pairs_asc h h1
        refine ⟨a, b, ?_, fun x hx1 hx2 m hm => ?_, .inl ⟨h2, h3, p2, p3⟩⟩
        · unfold stretchL
          exact pairs_app (l := (n - room - 1) :: n :: l) (pairs_cons h1)
        · rcases p4 m hm with q | q
          · exact ⟨⟨fun _ => by omega, fun _ => by omega⟩, by omega⟩
          · exact ⟨⟨fun _ => by omega, fun _ => by omega⟩, by omega⟩
      · have hall : ∀ m ∈ n :: l, m < v := fun m hm => by
          have hne : m ≠ v := fun e => hv (by rw [← e]; exact hm)
          rcases List.mem_cons.mp hm with rfl | hm
          · omega
          · have : ¬ v < m := fun z => q2 ⟨m, hm, z⟩
            omega
        have hmax : ∀ m ∈ n :: l, m ≤ L := fun m hm => by
          have e := List.dropLast_concat_getLast (List.cons_ne_nil n l)
          have h2 : Asc ((n :: l).dropLast ++ [(n :: l).getLast (List.cons_ne_nil _ _)]) := by rw [e]; exact h
          rw [← e] at hm
          rcases List.mem_append.mp hm with hm | hm
          · rw [← hL]
            exact Int.le_of_lt ((List.pairwise_append.mp h2).2.2 m hm _ (List.mem_singleton.mpr rfl))
          · rw [List.mem_singleton.mp hm, hL]
            exact Int.le_refl _
        refine ⟨L, L + room + 1, ?_, fun x h1 h2 m hm => ?_, .inr (by omega)⟩
        · unfold stretchL
          dsimp only
          have q := pairs_cons (c := n - room - 1) (pairs_last n l ((n :: l).getLast (List.cons_ne_nil _ _) + room + 1))
          rw [hL] at q ⊢
          exact q
        · have g1 := hall m hm
          have g2 := hmax m hm
          exact ⟨⟨fun _ => by omega, fun _ => by omega⟩, by omega⟩
theorem pairs_tri {l : List Int} {a b c d : Int} (h : Asc l) (h1 : (a, b) ∈ pairsOf l) (h2 : (c, d) ∈ pairsOf l) : (a = c ∧ b = d) ∨ b ≤ c ∨ d ≤ a := by
  obtain ⟨p1, p2, p3, p4⟩ := pairs_asc h h1
  obtain ⟨q1, q2, q3, q4⟩ := pairs_asc h h2
  have g1 := p4 c q2
  have g2 := q4 a p2
  have g3 := p4 d q3
  have g4 := q4 b p3
  omega
/-- two stretches are the same, or a number parts them -/
theorem stretch_two {ns : List Int} {room a b c d : Int} (h : Asc ns) (hr : 0 < room) (h1 : (a, b) ∈ stretchL ns room) (h2 : (c, d) ∈ stretchL ns room) :
    (a = c ∧ b = d) ∨ (b ∈ ns ∧ b ≤ c) ∨ (d ∈ ns ∧ d ≤ a) := by
  cases ns with
  | nil =>
    unfold stretchL at h1 h2
    have e1 := List.mem_singleton.mp h1
    have e2 := List.mem_singleton.mp h2
    cases e1
    cases e2
    exact .inl ⟨rfl, rfl⟩
  | cons n l =>
    have ha := asc_ends h (k := room + 1) (by omega)
    unfold stretchL at h1 h2
    dsimp only at h1 h2
    have e1 : n - room - 1 = n - (room + 1) := by omega
    have e2 : (n :: l).getLast (List.cons_ne_nil _ _) + room + 1 = (n :: l).getLast (List.cons_ne_nil _ _) + (room + 1) := by omega
    rw [e1, e2] at h1 h2
    have key : ∀ {a b c d : Int}, (a, b) ∈ pairsOf ((n - (room + 1)) :: (n :: l) ++ [(n :: l).getLast (List.cons_ne_nil _ _) + (room + 1)]) → (c, d) ∈ pairsOf ((n - (room + 1)) :: (n :: l) ++ [(n :: l).getLast (List.cons_ne_nil _ _) + (room + 1)]) → b ≤ c → b ∈ n :: l := fun {a b c d} h1 h2 hbc => by
      obtain ⟨p1, p2, p3, p4⟩ := pairs_asc ha h1
      obtain ⟨q1, q2, q3, q4⟩ := pairs_asc ha h2
      generalize (n :: l).getLast (List.cons_ne_nil _ _) + (room + 1) = g at *
      have hlast : ∀ x ∈ (n - (room + 1)) :: (n :: l) ++ [g], x ≤ g := fun x hx => by
        rcases List.mem_append.mp hx with hx | hx
        · exact Int.le_of_lt ((List.pairwise_append.mp ha).2.2 x hx g (List.mem_singleton.mpr rfl))
        · rw [List.mem_singleton.mp hx]
          exact Int.le_refl _
      have hfirst : ∀ x ∈ (n - (room + 1)) :: (n :: l) ++ [g], n - (room + 1) ≤ x := fun x hx => by
        rcases List.mem_cons.mp hx with rfl | hx
        · exact Int.le_refl _
        · exact Int.le_of_lt ((List.pairwise_cons.mp ha).1 x hx)
      have g1 := hlast d q3
      have g2 := hfirst a p2
      rcases List.mem_append.mp p3 with hb | hb
      · rcases List.mem_cons.mp hb with hb | hb
        · omega
        · exact hb
      · have := List.mem_singleton.mp hb
        omega
    rcases pairs_tri ha h1 h2 with q | q | q
    · exact .inl q
    · exact .inr (.inl ⟨key h1 h2 q, q⟩)
    · exact .inr (.inr ⟨key h2 h1 q, q⟩)
theorem nodup_le : ∀ (l m : List Int), l.Nodup → (∀ x ∈ l, x ∈ m) → l.length ≤ m.length
  | [], _, _, _ => Nat.zero_le _
  | x :: l, m, hn, h => by
    obtain ⟨n1, n2⟩ := List.nodup_cons.mp hn
    have hx := h x (List.mem_cons_self ..)
    have ih := nodup_le l (m.erase x) n2 fun y hy => (List.mem_erase_of_ne (fun e : y = x => n1 (by rw [← e]; exact hy))).mpr (h y (List.mem_cons_of_mem _ hy))
    rw [List.length_erase_of_mem hx] at ih
    have := List.length_pos_of_mem hx
    rw [List.length_cons]
    omega
theorem between_length (lo hi : Int) : (between lo hi).length = (hi - lo - 1).toNat := by
  unfold between
  rw [List.length_map, List.length_range]
/-- where there is room for more than the row, an integer is free -/
theorem free_room {a b : Int} {r : List Int} (h : (r.length : Int) < b - a - 1) : ∃ x, freeIn a b r = some x := by
  by_cases q : ∃ x, a < x ∧ x < b ∧ x ∉ r
  · obtain ⟨x, h1, h2, h3⟩ := q
    exact freeIn_ex h1 h2 h3
  · have := nodup_le (between a b) r (between_nodup a b) fun x hx => by
      obtain ⟨h1, h2⟩ := mem_between.mp hx
      exact Classical.byContradiction fun n => q ⟨x, h1, h2, n⟩
    rw [between_length] at this
    omega
/-- beside a row each integer is alike to exactly one spot -/
theorem spot_one {ns r : List Int} (h : Asc ns) (v : Int) : ∃ s, Spot ns r s ∧ Alike ns r v s ∧ ∀ s', Spot ns r s' → Alike ns r v s' → s' = s := by
  by_cases h1 : v ∈ ns
  · exact ⟨v, .inl h1, Alike.refl, fun s' _ q => ((q.1 v h1).2.mp rfl)⟩
  by_cases h2 : v ∈ r
  · exact ⟨v, .inr (.inl h2), Alike.refl, fun s' _ q => ((q.2 v h2).mp rfl)⟩
  have hr : (0 : Int) < (r.length : Int) + 1 := by omega
  obtain ⟨a, b, hab, hal, hor⟩ := stretch_of h hr h1
  obtain ⟨s, hs⟩ : ∃ s, freeIn a b r = some s := by
    rcases hor with ⟨g1, g2, _, _⟩ | g
    · exact freeIn_ex g1 g2 h2
    · exact free_room (by omega)
  obtain ⟨s1, s2, s3⟩ := freeIn_some hs
  have as : Alike ns r v s := ⟨fun n hn => ⟨(hal s s1 s2 n hn).1, fun e => absurd (by rw [e]; exact hn) h1, fun e => absurd e (hal s s1 s2 n hn).2⟩, fun p hp => ⟨fun e => absurd (by rw [e]; exact hp) h2, fun e => absurd (by rw [e]; exact hp) s3⟩⟩
  refine ⟨s, .inr (.inr ⟨a, b, hab, hs⟩), as, fun s' hs' q => ?_⟩
  rcases hs' with hm | hm | ⟨c, d, hcd, hs'⟩
  · exact absurd (by rw [(q.1 s' hm).2.mpr rfl]; exact hm) h1
  · exact absurd (by rw [(q.2 s' hm).mpr rfl]; exact hm) h2
  · obtain ⟨t1, t2, t3⟩ := freeIn_some hs'
    rcases stretch_two h hr hab hcd with ⟨rfl, rfl⟩ | ⟨m1, m2⟩ | ⟨m1, m2⟩
    · rw [hs] at hs'
      exact (Option.some.inj hs').symm
    · have g1 := (as.1 b m1).1.mpr s2
      have g2 := (q.1 b m1).1.mp g1
      omega
    · have g1 := (q.1 d m1).1.mpr t2
      have g2 := (as.1 d m1).1.mp g1
      omega
/-! ### rows -/
/-- two integers lie alike among the numbers -/
def Side (ns : List Int) (x y : Int) : Prop := ∀ n ∈ ns, (x < n ↔ y < n) ∧ (x = n ↔ y = n)
/-- two rows of one kind -/
structure SameKind (ns r t : List Int) : Prop where
  len : r.length = t.length
  side : ∀ p ∈ r.zip t, Side ns p.1 p.2
  eqs : ∀ p ∈ r.zip t, ∀ q ∈ r.zip t, (p.1 = q.1 ↔ p.2 = q.2)
theorem zip_left {r t : List Int} (h : r.length = t.length) {x : Int} (hx : x ∈ r) : ∃ y, (x, y) ∈ r.zip t := by
  obtain ⟨i, hi, e⟩ := List.mem_iff_getElem.mp hx
  have hi2 : i < t.length := by omega
  refine ⟨t[i], ?_⟩
  have hz : i < (r.zip t).length := by rw [List.length_zip]; omega
  have q : (r.zip t)[i] = (r[i], t[i]) := List.getElem_zip
  rw [e] at q
  rw [← q]
  exact List.getElem_mem hz
theorem zip_right {r t : List Int} (h : r.length = t.length) {y : Int} (hy : y ∈ t) : ∃ x, (x, y) ∈ r.zip t := by
  obtain ⟨i, hi, e⟩ := List.mem_iff_getElem.mp hy
  have hi2 : i < r.length := by omega
  refine ⟨r[i], ?_⟩
  have hz : i < (r.zip t).length := by rw [List.length_zip]; omega
  have q : (r.zip t)[i] = (r[i], t[i]) := List.getElem_zip
  rw [e] at q
  rw [← q]
  exact List.getElem_mem hz
theorem zip_mem {r t : List Int} {p : Int × Int} (h : p ∈ r.zip t) : p.1 ∈ r ∧ p.2 ∈ t := by
  obtain ⟨a, b⟩ := p
  exact ⟨(List.of_mem_zip h).1, (List.of_mem_zip h).2⟩
theorem SameKind.nil {ns : List Int} : SameKind ns [] [] := ⟨rfl, fun p h => by simp at h, fun p h => by simp at h⟩
theorem SameKind.snoc {ns r t : List Int} {x y : Int} (h : SameKind ns r t) (s : Side ns x y) (e : ∀ p ∈ r.zip t, (x = p.1 ↔ y = p.2)) : SameKind ns (r ++ [x]) (t ++ [y]) := by
  have z : (r ++ [x]).zip (t ++ [y]) = r.zip t ++ [(x, y)] := by
    rw [List.zip_append h.len]
    rfl
  refine ⟨by rw [List.length_append, List.length_append, h.len]; rfl, fun p hp => ?_, fun p hp q hq => ?_⟩
  · rw [z] at hp
    rcases List.mem_append.mp hp with hp | hp
    · exact h.side p hp
    · rw [List.mem_singleton.mp hp]
      exact s
  · rw [z] at hp hq
    rcases List.mem_append.mp hp with hp | hp
    · rcases List.mem_append.mp hq with hq | hq
      · exact h.eqs p hp q hq
      · rw [List.mem_singleton.mp hq]
        have := e p hp
        exact ⟨fun z => (this.mp z.symm).symm, fun z => (this.mpr z.symm).symm⟩
    · rw [List.mem_singleton.mp hp]
      rcases List.mem_append.mp hq with hq | hq
      · exact e q hq
      · rw [List.mem_singleton.mp hq]
        exact ⟨fun _ => rfl, fun _ => rfl⟩
theorem SameKind.unsnoc {ns r t : List Int} {x y : Int} (h : SameKind ns (r ++ [x]) (t ++ [y])) : SameKind ns r t ∧ Side ns x y ∧ ∀ p ∈ r.zip t, (x = p.1 ↔ y = p.2) := by
  have hl : r.length = t.length := by
    have := h.len
    rw [List.length_append, List.length_append] at this
    simpa using this
  have z : (r ++ [x]).zip (t ++ [y]) = r.zip t ++ [(x, y)] := by
    rw [List.zip_append hl]
    rfl
  have hm : (x, y) ∈ (r ++ [x]).zip (t ++ [y]) := by rw [z]; exact List.mem_append_right _ (List.mem_singleton.mpr rfl)
  have hin : ∀ {p}, p ∈ r.zip t → p ∈ (r ++ [x]).zip (t ++ [y]) := fun hp => by rw [z]; exact List.mem_append_left _ hp
  exact ⟨⟨hl, fun p hp => h.side p (hin hp), fun p hp q hq => h.eqs p (hin hp) q (hin hq)⟩, h.side _ hm, fun p hp => h.eqs _ hm p (hin hp)⟩
theorem back_list {ns r t : List Int} (k : SameKind ns r t) : ∀ (l : List Int), l.Nodup → (∀ x ∈ l, x ∈ t) → ∃ l' : List Int, l'.length = l.length ∧ l'.Nodup ∧ ∀ y ∈ l', ∃ x ∈ l, (y, x) ∈ r.zip t
  | [], _, _ => ⟨[], rfl, List.nodup_nil, fun _ h => by cases h⟩
  | x :: l, hn, h => by
    obtain ⟨n1, n2⟩ := List.nodup_cons.mp hn
    obtain ⟨l', h1, h2, h3⟩ := back_list k l n2 fun y hy => h y (List.mem_cons_of_mem _ hy)
    obtain ⟨y, hy⟩ := zip_right k.len (h x (List.mem_cons_self ..))
    refine ⟨y :: l', by rw [List.length_cons, List.length_cons, h1], List.nodup_cons.mpr ⟨fun hm => ?_, h2⟩, fun z hz => ?_⟩
    · obtain ⟨x', hx', hz⟩ := h3 y hm
      have e : x = x' := (k.eqs _ hy _ hz).mp rfl
      exact n1 (by rw [e]; exact hx')
    · rcases List.mem_cons.mp hz with rfl | hz
      · exact ⟨x, List.mem_cons_self .., hy⟩
      · obtain ⟨x', hx', q⟩ := h3 z hz
        exact ⟨x', List.mem_cons_of_mem _ hx', q⟩
/-- beside a row's like each integer has its one spot -/
theorem spot_like {ns r t : List Int} (h : Asc ns) (k : SameKind ns r t) (v : Int) :
    ∃ s, Spot ns t s ∧ (Side ns v s ∧ ∀ p ∈ r.zip t, (v = p.1 ↔ s = p.2)) ∧ ∀ s', Spot ns t s' → Side ns v s' → (∀ p ∈ r.zip t, (v = p.1 ↔ s' = p.2)) → s' = s := by
  by_cases h1 : v ∈ ns
  · refine ⟨v, .inl h1, ⟨fun _ _ => ⟨Iff.rfl, Iff.rfl⟩, fun p hp => ?_⟩, fun s' _ q _ => (q v h1).2.mp rfl⟩
    have := (k.side p hp v h1).2
    exact ⟨fun e => (this.mp e.symm).symm, fun e => (this.mpr e.symm).symm⟩
  by_cases h2 : v ∈ r
  · obtain ⟨y, hy⟩ := zip_left k.len h2
    refine ⟨y, .inr (.inl (zip_mem hy).2), ⟨k.side _ hy, fun p hp => k.eqs _ hy p hp⟩, fun s' _ _ q => (q _ hy).mp rfl⟩
  have hr : (0 : Int) < (t.length : Int) + 1 := by omega
  obtain ⟨a, b, hab, hal, hor⟩ := stretch_of h hr h1
  by_cases hfree : ∃ s, freeIn a b t = some s
  · obtain ⟨s, hs⟩ := hfree
    obtain ⟨s1, s2, s3⟩ := freeIn_some hs
    have as : Side ns v s := fun n hn => ⟨(hal s s1 s2 n hn).1, fun e => absurd (by rw [e]; exact hn) h1, fun e => absurd e (hal s s1 s2 n hn).2⟩
    refine ⟨s, .inr (.inr ⟨a, b, hab, hs⟩), ⟨as, fun p hp => ⟨fun e => absurd (by rw [e]; exact (zip_mem hp).1) h2, fun e => absurd (by rw [e]; exact (zip_mem hp).2) s3⟩⟩, fun s' hs' q qz => ?_⟩
    rcases hs' with hm | hm | ⟨c, d, hcd, hs'⟩
    · exact absurd (by rw [(q s' hm).2.mpr rfl]; exact hm) h1
    · obtain ⟨x, hx⟩ := zip_right k.len hm
      exact absurd (by rw [(qz _ hx).mpr rfl]; exact (zip_mem hx).1) h2
    · obtain ⟨t1, t2, t3⟩ := freeIn_some hs'
      rcases stretch_two h hr hab hcd with ⟨rfl, rfl⟩ | ⟨m1, m2⟩ | ⟨m1, m2⟩
      · rw [hs] at hs'
        exact (Option.some.inj hs').symm
      · have g1 := (as b m1).1.mpr s2
        have g2 := (q b m1).1.mp g1
        omega
      · have g1 := (q d m1).1.mpr t2
        have g2 := (as d m1).1.mp g1
        omega
  · have hall : ∀ x ∈ between a b, x ∈ t := fun x hx => by
      obtain ⟨g1, g2⟩ := mem_between.mp hx
      exact Classical.byContradiction fun n => hfree (freeIn_ex g1 g2 n)
    rcases hor with ⟨g1, g2, ga, gb⟩ | g
    · obtain ⟨l', q1, q2, q3⟩ := back_list k (between a b) (between_nodup a b) hall
      have := nodup_le (v :: l') (between a b) (List.nodup_cons.mpr ⟨fun hm => by
          obtain ⟨x, _, hx⟩ := q3 v hm
          exact h2 (zip_mem hx).1, q2⟩) fun y hy => by
        rcases List.mem_cons.mp hy with rfl | hy
        · exact mem_between.mpr ⟨g1, g2⟩
        · obtain ⟨x, hx, hz⟩ := q3 y hy
          obtain ⟨e1, e2⟩ := mem_between.mp hx
          have sa := k.side _ hz a ga
          have sb := k.side _ hz b gb
          refine mem_between.mpr ⟨?_, sb.1.mpr e2⟩
          have n1 : ¬ y < a := fun z => by have := sa.1.mp z; omega
          have n2 : y ≠ a := fun z => by have := sa.2.mp z; omega
          omega
      rw [List.length_cons, q1] at this
      omega
    · have := free_room (r := t) (a := a) (b := b) (by omega)
      exact absurd this hfree
/-! ### all kinds -/
/-- the rows of k columns that stand for their kinds; sp says the spots beside a row, in some order -/
def rowsOf (sp : List Int → List Int) : Nat → List (List Int)
  | 0 => [[]]
  | k + 1 => (rowsOf sp k).flatMap fun r => (sp r).map fun s => r ++ [s]
theorem rows_len {sp : List Int → List Int} : ∀ {k : Nat} {r : List Int}, r ∈ rowsOf sp k → r.length = k
  | 0, r, h => by
    unfold rowsOf at h
    rw [List.mem_singleton.mp h]
    rfl
  | k + 1, r, h => by
    unfold rowsOf at h
    obtain ⟨t, ht, h⟩ := List.mem_flatMap.mp h
    obtain ⟨s, hs, rfl⟩ := List.mem_map.mp h
    rw [List.length_append, rows_len ht]
    rfl
/-- each row is of one kind with exactly one of them -/
theorem kind_one {ns : List Int} {sp : List Int → List Int} (h : Asc ns) (hsp : ∀ r s, s ∈ sp r ↔ Spot ns r s) : ∀ (k : Nat) (v : List Int), v.length = k → ∃ t ∈ rowsOf sp k, SameKind ns v t ∧ ∀ t' ∈ rowsOf sp k, SameKind ns v t' → t' = t
  | 0, v, hv => by
    obtain rfl : v = [] := List.length_eq_zero_iff.mp hv
    refine ⟨[], by unfold rowsOf; exact List.mem_singleton.mpr rfl, SameKind.nil, fun t' ht' _ => ?_⟩
    unfold rowsOf at ht'
    exact List.mem_singleton.mp ht'
  | k + 1, v, hv => by
    obtain ⟨w, x, rfl⟩ : ∃ w x, v = w ++ [x] := ⟨v.dropLast, v.getLast (fun e => by rw [e] at hv; cases hv), (List.dropLast_concat_getLast _).symm⟩
    have hw : w.length = k := by
      rw [List.length_append] at hv
      simpa using hv
    obtain ⟨t, ht, kt, ut⟩ := kind_one h hsp k w hw
    obtain ⟨s, hs, ⟨s1, s2⟩, us⟩ := spot_like h kt x
    refine ⟨t ++ [s], ?_, kt.snoc s1 s2, fun t' ht' kt' => ?_⟩
    · unfold rowsOf
      exact List.mem_flatMap.mpr ⟨t, ht, List.mem_map.mpr ⟨s, (hsp t s).mpr hs, rfl⟩⟩
    · unfold rowsOf at ht'
      obtain ⟨u, hu, ht'⟩ := List.mem_flatMap.mp ht'
      obtain ⟨z, hz, rfl⟩ := List.mem_map.mp ht'
      obtain ⟨ku, sz, ez⟩ := kt'.unsnoc
      obtain rfl := ut u hu ku
      rw [us z ((hsp u z).mp hz) sz ez]
/-- and they are all different -/
theorem rows_nodup {sp : List Int → List Int} (hn : ∀ r, (sp r).Nodup) : ∀ k, (rowsOf sp k).Nodup
  | 0 => by unfold rowsOf; exact List.nodup_cons.mpr ⟨by simp, List.nodup_nil⟩
  | k + 1 => by
    unfold rowsOf
    have ih := rows_nodup hn k
    have gen : ∀ l : List (List Int), l.Nodup → (l.flatMap fun r => (sp r).map fun s => r ++ [s]).Nodup := by
      intro l
      induction l with
      | nil => intro _; exact List.nodup_nil
      | cons r l ih =>
        intro hl
        obtain ⟨n1, n2⟩ := List.nodup_cons.mp hl
        rw [List.flatMap_cons]
        have m1 : ((sp r).map fun s => r ++ [s]).Nodup := by
          refine List.pairwise_map.mpr (List.Pairwise.imp ?_ (hn r))
          intro a b hab e
          have e2 : [a] = [b] := List.append_cancel_left e
          cases e2
          exact hab rfl
        refine List.nodup_append.mpr ⟨m1, ih n2, ?_⟩
        intro x hx y hy e
        obtain ⟨s, hs, e1⟩ := List.mem_map.mp hx
        obtain ⟨t, ht, hy⟩ := List.mem_flatMap.mp hy
        obtain ⟨z, hz, e2⟩ := List.mem_map.mp hy
        have q : r = t := by
          have := congrArg List.dropLast (e1.trans (e.trans e2.symm))
          rwa [List.dropLast_concat, List.dropLast_concat] at this
        exact n1 (by rw [q]; exact ht)
    exact gen _ ih
theorem between_split {lo x hi : Int} (h1 : lo < x) (h2 : x < hi) : between lo hi = between lo x ++ x :: between x hi := by
  obtain ⟨a, ha⟩ : ∃ a : Nat, (x - lo - 1) = a := ⟨(x - lo - 1).toNat, by omega⟩
  obtain ⟨b, hb⟩ : ∃ b : Nat, (hi - x - 1) = b := ⟨(hi - x - 1).toNat, by omega⟩
  have e : (hi - lo - 1).toNat = a + (b + 1) := by omega
  unfold between
  rw [e, show (x - lo - 1).toNat = a by omega, show (hi - x - 1).toNat = b by omega, List.range_add, List.map_append]
  congr 1
  rw [List.map_map, List.range_succ_eq_map, List.map_cons, List.map_map]
  congr 1
  · show lo + 1 + ((a + 0 : Nat) : Int) = x
    omega
  · refine List.map_congr_left fun i _ => ?_
    show lo + 1 + ((a + (i + 1) : Nat) : Int) = x + 1 + (i : Int)
    omega
theorem freeIn_first {lo hi x : Int} {r : List Int} (h1 : lo < x) (h2 : x < hi) (h3 : x ∉ r) (h4 : ∀ y, lo < y → y < x → y ∈ r) : freeIn lo hi r = some x := by
  unfold freeIn
  rw [between_split h1 h2, List.find?_append]
  have e1 : (between lo x).find? (fun x => !(decide (x ∈ r))) = none := List.find?_eq_none.mpr fun y hy => by
    obtain ⟨g1, g2⟩ := mem_between.mp hy
    rw [decide_eq_true (h4 y g1 g2)]
    decide
  rw [e1, List.find?_cons, decide_eq_false h3]
  rfl
theorem freeIn_none {lo hi : Int} {r : List Int} (h : ∀ y, lo < y → y < hi → y ∈ r) : freeIn lo hi r = none := by
  unfold freeIn
  refine List.find?_eq_none.mpr fun y hy => ?_
  obtain ⟨g1, g2⟩ := mem_between.mp hy
  rw [decide_eq_true (h y g1 g2)]
  decide
def freeL (ns r : List Int) : List Int := (stretchL ns ((r.length : Int) + 1)).filterMap fun p => freeIn p.1 p.2 r
end Own

namespace Own
open PySem PySem.Spec PyProof.Rows L2
theorem nice_low {z : Str} (h : lowS z) : Nice (.str z) := by
  obtain ⟨h1, h2, h3⟩ := h
  refine ⟨strOk_low h3, by simp only [PyData.depth]; omega, by simp only [PyData.showable], by simp only [PyData.hasDict], ?_⟩
  have q := StrLaws.reprText_len z fun c hc => by
    have q := h3 c hc
    unfold lowB at q
    simp only [Bool.and_eq_true, decide_eq_true_eq] at q
    omega
  simp only [PyData.shown]
  omega
theorem dqA_low {H : Hp} {bs : List Addr} : ∀ {ws : List Str}, (∀ z ∈ ws, lowS z) → DqA H bs (ws.map PyData.str) (ws.map V.str)
  | [], _ => by simp only [List.map_nil, DqA]
  | z :: r, h => by
    have ih := dqA_low (H := H) (bs := bs) (ws := r) fun y hy => h y (List.mem_cons_of_mem _ hy)
    have hz := (h z (List.mem_cons_self ..)).2.1
    rw [List.map_cons, List.map_cons]
    unfold DqA
    refine ⟨_, _, rfl, ?_, ih⟩
    unfold Dq
    exact ⟨rfl, by omega⟩
theorem dqA_mem {H : Hp} {bs : List Addr} {v : V} : ∀ {ds : List PyData} {xs : List V}, DqA H bs ds xs → v ∈ xs → ∃ d ∈ ds, Dq H bs d v
  | [], xs, h, hm => by
    obtain rfl : xs = [] := by simpa only [DqA] using h
    cases hm
  | d :: ds, xs, h, hm => by
    obtain ⟨y, ys, rfl, h1, h2⟩ : ∃ y ys, xs = y :: ys ∧ Dq H bs d y ∧ DqA H bs ds ys := by simpa only [DqA] using h
    rcases List.mem_cons.mp hm with rfl | hm
    · exact ⟨d, List.mem_cons_self .., h1⟩
    · obtain ⟨e, he, q⟩ := dqA_mem h2 hm
      exact ⟨e, List.mem_cons_of_mem _ he, q⟩
theorem dqA_set {H : Hp} {bs : List Addr} {v : V} {d : PyData} (hv : Dq H bs d v) : ∀ {ds : List PyData} {xs : List V} (j : Nat), DqA H bs ds xs → DqA H bs (ds.set j d) (xs.set j v)
  | [], xs, j, h => by
    obtain rfl : xs = [] := by simpa only [DqA] using h
    simp only [List.set_nil, DqA]
  | e :: ds, xs, 0, h => by
    obtain ⟨y, ys, rfl, h1, h2⟩ : ∃ y ys, xs = y :: ys ∧ Dq H bs e y ∧ DqA H bs ds ys := by simpa only [DqA] using h
    simp only [List.set_cons_zero, DqA]
    exact ⟨_, _, rfl, hv, h2⟩
  | e :: ds, xs, j + 1, h => by
    obtain ⟨y, ys, rfl, h1, h2⟩ : ∃ y ys, xs = y :: ys ∧ Dq H bs e y ∧ DqA H bs ds ys := by simpa only [DqA] using h
    have ih := dqA_set hv j h2
    simp only [List.set_cons_succ, DqA]
    exact ⟨_, _, rfl, h1, ih⟩
theorem dqA_ent {H : Hp} {bs : List Addr} {ds : List PyData} {xs : List V} (h : DqA H bs ds xs) : ∀ x ∈ xs, Ent H x := fun x hx => let ⟨_, _, q⟩ := dqA_mem h hx; Dq.ent q
theorem pickIH {P : Int → Hp → Prop} (R : Int → Hp → Prop) {G : Prop} (main : (∀ o H, R o H → P o H) → G) (rest : ∀ o H, R o H → P o H) : G := main rest
theorem pickVH {P : V → Hp → Prop} (R : V → Hp → Prop) {G : Prop} (main : (∀ o H, R o H → P o H) → G) (rest : ∀ o H, R o H → P o H) : G := main rest
def spEntries : Sp := fun vs H Q _ => ∃ b, vs = [.ref b] ∧ Bag H b ∧ ∀ (l : Addr) (xs : List V) (ds : List PyData) (H' : Hp), H l = none → l ≠ b → H' l = some (.lst xs) → DqA H' [b, l] ds xs → (∀ d ∈ ds, Nice d) → xs.length ≤ 6 → But b H H' → Bag H' b → Q (.ref l) H'
end Own
namespace Own
open PySem PySem.Spec PyProof.Rows L2
def placeD (x n : Int) : PyData := .tuple [.bool (decide (x < n)), .bool (decide (x = n))]
def spPlace (K : PySem.W.Frag) : Sp := fun vs H Q _ => ∃ (a : Addr) (ns : List Int) (x : Int), vs = [.ref a, .int x] ∧ SqT K H a (ns.map V.int) ∧ ns.length ≤ 100 ∧
  ∀ (l : Addr) (acc : List V) (H' : Hp), Same H H' → H l = none → H' l = some (.lst acc) → DqA H' [l] (ns.map (placeD x)) acc → Q (.ref l) H'
def spEquals (K : PySem.W.Frag) : Sp := fun vs H Q _ => ∃ (a : Addr) (ns : List Int) (x : Int), vs = [.ref a, .int x] ∧ SqT K H a (ns.map V.int) ∧ ns.length ≤ 100 ∧
  ∀ (l : Addr) (H' : Hp), Same H H' → H l = none → H' l = some (.lst (ns.map fun n => V.bl (decide (x = n)))) → Q (.ref l) H'
theorem dqA_snoc {H : Hp} {bs : List Addr} {v : V} {d : PyData} (hv : Dq H bs d v) : ∀ {ds : List PyData} {xs : List V}, DqA H bs ds xs → DqA H bs (ds ++ [d]) (xs ++ [v])
  | [], xs, h => by
    obtain rfl : xs = [] := by simpa only [DqA] using h
    simp only [List.nil_append, DqA]
    exact ⟨_, _, rfl, hv, rfl⟩
  | e :: ds, xs, h => by
    obtain ⟨y, ys, rfl, h1, h2⟩ : ∃ y ys, xs = y :: ys ∧ Dq H bs e y ∧ DqA H bs ds ys := by simpa only [DqA] using h
    have ih := dqA_snoc hv h2
    simp only [List.cons_append, DqA]
    exact ⟨_, _, rfl, h1, ih⟩
end Own
namespace Own
open PySem PySem.Spec PyProof.Rows L2
def pairDt (p : Int × Int) : PyData := .tuple [.int p.1, .int p.2]
end Own
namespace Own
open PySem PySem.Spec PyProof.Rows L2
def spStretches (K : PySem.W.Frag) : Sp := fun vs H Q _ => ∃ (a : Addr) (ns : List Int) (room : Int), vs = [.ref a, .int room] ∧ SqT K H a (ns.map V.int) ∧ ns.length ≤ 100 ∧
  ∀ (l : Addr) (acc : List V) (H' : Hp), Same H H' → H l = none → H' l = some (.lst acc) → DqA H' [l] ((stretchL ns room).map pairDt) acc → Q (.ref l) H'
theorem pairsOf_len : ∀ (l : List Int), (pairsOf l).length = l.length - 1
  | [] => rfl
  | [_] => rfl
  | a :: b :: r => by
    unfold pairsOf
    rw [List.length_cons, pairsOf_len (b :: r)]
    rfl
theorem pairsOf_get : ∀ {l : List Int} {i : Nat} {a b : Int}, l[i]? = some a → l[i + 1]? = some b → (pairsOf l)[i]? = some (a, b)
  | [], i, a, b, h, _ => by cases h
  | [x], i, a, b, _, h => by
    rw [List.getElem?_cons_succ] at h
    cases h
  | x :: y :: r, 0, a, b, h1, h2 => by
    rw [List.getElem?_cons_zero] at h1
    rw [List.getElem?_cons_succ, List.getElem?_cons_zero] at h2
    cases h1
    cases h2
    unfold pairsOf
    rfl
  | x :: y :: r, i + 1, a, b, h1, h2 => by
    rw [List.getElem?_cons_succ] at h1
    rw [List.getElem?_cons_succ] at h2
    unfold pairsOf
    rw [List.getElem?_cons_succ]
    exact pairsOf_get h1 h2
def spFree (K : PySem.W.Frag) : Sp := fun vs H Q _ => ∃ (a b : Addr) (ns r : List Int), vs = [.ref a, .ref b] ∧ SqT K H a (ns.map V.int) ∧ ns.length ≤ 100 ∧ SqT K H b (r.map V.int) ∧ r.length ≤ 100 ∧
  ∀ (l : Addr) (H' : Hp), Same H H' → H' l = some (.lst ((freeL ns r).map V.int)) → Q (.ref l) H'
theorem inV_int (z : Int) : ∀ (l : List Int), inV (.int z) (l.map V.int) = decide (z ∈ l)
  | [] => by rfl
  | y :: l => by
    have ih := inV_int z l
    unfold inV at ih ⊢
    rw [List.map_cons, List.any_cons, ih]
    show ((y == z) || decide (z ∈ l)) = decide (z ∈ y :: l)
    rw [Bool.eq_iff_iff]
    simp only [Bool.or_eq_true, beq_iff_eq, decide_eq_true_eq, List.mem_cons]
    exact ⟨fun h => h.imp Eq.symm id, fun h => h.imp Eq.symm id⟩
theorem flat_ints (l : List Int) : (l.map V.int).all flatV = true := by
  rw [List.all_map]
  exact List.all_eq_true.mpr fun _ _ => rfl
theorem upd_id {H : Hp} {a : Addr} {o : HO} (h : H a = some o) : upd H a o = H := by
  funext b
  by_cases e : b = a
  · rw [e, upd_same, h]
  · rw [upd_ne e]
theorem dqA_get {H : Hp} {bs : List Addr} {v : V} : ∀ {ds : List PyData} {xs : List V} {i : Nat}, DqA H bs ds xs → xs[i]? = some v → ∃ d, ds[i]? = some d ∧ Dq H bs d v
  | [], xs, i, h, hm => by
    obtain rfl : xs = [] := by simpa only [DqA] using h
    cases hm
  | d :: ds, xs, i, h, hm => by
    obtain ⟨y, ys, rfl, h1, h2⟩ : ∃ y ys, xs = y :: ys ∧ Dq H bs d y ∧ DqA H bs ds ys := by simpa only [DqA] using h
    cases i with
    | zero =>
      rw [List.getElem?_cons_zero] at hm
      cases hm
      exact ⟨d, rfl, h1⟩
    | succ i =>
      rw [List.getElem?_cons_succ] at hm
      obtain ⟨e, he, q⟩ := dqA_get h2 hm
      exact ⟨e, by rw [List.getElem?_cons_succ]; exact he, q⟩
theorem pairDt_at {H : Hp} {bs : List Addr} {p : Int × Int} {v : V} (h : Dq H bs (pairDt p) v) : ∃ t, v = .ref t ∧ t ∉ bs ∧ H t = some (.tup [.int p.1, .int p.2]) := by
  unfold pairDt Dq at h
  obtain ⟨t, xs, rfl, n, ht, hx⟩ := h
  simp only [DqA, Dq] at hx
  obtain ⟨y, ys, rfl, rfl, z, zs, rfl, rfl, rfl⟩ := hx
  exact ⟨t, rfl, n, ht⟩
end Own

namespace Own
open PySem PySem.Spec PyProof.Rows L2
/-! ### range(a, b), integers of any size -/
theorem turn_long {P : Program} {w : World} {K : PySem.W.Frag} {tg : Expr} (it : Addr) (lo : Int) (n : Nat) : Turn P w K tg (Itr lo n) [it] it (fun i h => IsLongIter h it (lo + (i : Nat) * 1) ((n : Int) - (i : Nat)) 1) where
  mem := List.mem_singleton.mpr rfl
  obj := fun i h st b hb => by
    have e : b = it := List.mem_singleton.mp hb
    subst e
    refine ⟨_, st, fun v z => ?_⟩
    have z' : Data.fields _ = Data.cell v := z
    cases z'
  keep := fun i h h' st k => k it (List.mem_singleton.mpr rfl) _ st
  item := by
    intro X hP hw hK hc i pins s σ H E I hf st hg
    subst hP hw hK
    obtain ⟨f0, f1, f2, f3, f4, f5⟩ := hf it (List.mem_singleton.mpr rfl)
    refine (Walks.longrange (prog := X.prog) (w := X.w) (I.ok.hd hc) it lo 1 n).item i s _ _ hg st fun v h' tk hv st' kk => ?_
    obtain ⟨t, rfl⟩ := hv
    have I1 : Inv X pins σ H { s with heap := h', toks := tk } := I.turned (fun b o hb e => kk b o (fun q => hb (List.mem_singleton.mp q)) e) f0 f1 f3 f4 f5
    refine ⟨_, rfl, go_of (s := { s with heap := h', toks := tk }) (n := "longrange_iterator") st' rfl rfl (by decide) ⟨.int (lo + i), H, I1, ⟨t, ?_⟩, ⟨rfl, rfl⟩, st', fun b hb => (hf b hb).1⟩⟩
    rw [Int.mul_one]
  done := by
    intro X hP hw hK hc i pins s σ H E I hf st hg
    subst hP hw hK
    obtain ⟨f0, f1, f2, f3, f4, f5⟩ := hf it (List.mem_singleton.mpr rfl)
    exact wpAny_pyNext_long_end (I.ok.hd hc) st (by have : n ≤ i := hg; omega) fun h' eb => ⟨rfl, I.turned (t' := s.toks) (fun b o hb e => eb b o hb e) f0 f1 f3 f4 f5⟩
  self := fun _ _ _ _ _ st h => wpAny_pyIter_longiter st h
section
variable {X : Cx} {tg : Expr}
theorem range_itA {pins : List (Addr × Obj)} {σ : L2.St} {H : Hp} {s : Shared} {R : It → Hp → Prop} {E : Value → Shared → Prop} {lo hi : Int} {t u v : Tok} {tk : Nat} (I : Inv X pins σ H s)
    (q : R (Itr lo (hi - lo).toNat) H) : wpAny (model X.prog X.w) X.A (pyIter (.ref s.heap.objs.size)) (PIE X pins σ tg R) E { s with heap := s.heap.push { cls := .type "range", data := .fields #[.int lo t, .int hi u, .int 1 v] }, toks := tk } := by
  have I1 : Inv X pins σ H { s with heap := s.heap.push { cls := .type "range", data := .fields #[.int lo t, .int hi u, .int 1 v] }, toks := tk } := I.kept fun b o e => Heap.get?_push_of_some _ e
  have e1 : lo + ((0 : Nat) : Int) * 1 = lo := by simp
  have e2 : (((hi - lo).toNat : Nat) : Int) - ((0 : Nat) : Int) = Builtin.Range.rangeSize lo hi 1 := by rw [rangeSize_one]; split <;> omega
  have fp : ∀ b ∈ [(s.heap.push { cls := .type "range", data := .fields #[.int lo t, .int hi u, .int 1 v] }).objs.size], FpOk X pins H b := fun b hb => by
    rw [List.mem_singleton.mp hb]
    exact I1.fpOk (Nat.le_refl _) (I1.hok.fresh (Nat.le_refl _))
  cases hs : Builtin.Range.small lo hi 1 with
  | true =>
    refine wpAny_pyIter_range (IsRange.new ..) hs ?_
    refine ⟨(s.heap.push { cls := .type "range", data := .fields #[.int lo t, .int hi u, .int 1 v] }).objs.size, [(s.heap.push { cls := .type "range", data := .fields #[.int lo t, .int hi u, .int 1 v] }).objs.size], _, _, H, rfl, I1.kept (t' := tk) fun b o e => Heap.get?_push_of_some _ e, turn_range _ lo (hi - lo).toNat, ?_, fp, q⟩
    show IsRangeIter _ _ (lo + ((0 : Nat) : Int) * 1) ((((hi - lo).toNat : Nat) : Int) - ((0 : Nat) : Int)) 1
    rw [e1, e2]
    exact Heap.get?_push_size _ rfl
  | false =>
    refine wpAny_pyIter_longrange (IsRange.new ..) hs ?_
    refine ⟨(s.heap.push { cls := .type "range", data := .fields #[.int lo t, .int hi u, .int 1 v] }).objs.size, [(s.heap.push { cls := .type "range", data := .fields #[.int lo t, .int hi u, .int 1 v] }).objs.size], _, _, H, rfl, I1.kept (t' := tk) fun b o e => Heap.get?_push_of_some _ e, turn_long _ lo (hi - lo).toNat, ?_, fp, q⟩
    show IsLongIter _ _ (lo + ((0 : Nat) : Int) * 1) ((((hi - lo).toNat : Nat) : Int) - ((0 : Nat) : Int)) 1
    rw [e1, e2]
    exact Heap.get?_push_size _ rfl
def iRngA (ta : TA) : TI := fun σ H R => ta σ H fun vs H1 => ∃ i j : Int, vs = [.int i, .int j] ∧ R (Itr i (j - i).toNat) H1
theorem pi_rangeA {a b : Expr} {ta : TA} {p pos : Pos} (hg : Gl X "range") (hm : X.mg "range" = none) (ha : PA X [a, b] ta) (hs : starEach [a, b] X.env = [(false, eval a X.env), (false, eval b X.env)] := by rfl) (hs2 : starEach [b] X.env = [(false, eval b X.env)] := by rfl) :
    PI X tg (.Call (.Name "range" p) [a, b] [] pos) (iRngA ta) := by
  refine ⟨fun pins s σ H R I h => ?_⟩
  refine Call_ (ld_blt I hg hm boot_range (PyProof.Rows.callWith_type1 (thn (ha.run pos pins s σ H _ I h) fun us s1 ⟨vs, H1, I1, r1, i, j, e, q⟩ => ?_) (by rw [hs, hs2]) (by rw [hs2]; rfl)))
  subst e
  obtain ⟨u1, u2, rfl, ⟨t1, rfl⟩, ⟨t2, rfl⟩⟩ := vals2 r1
  exact call_range_2 (range_itA I1 q)
end
end Own

namespace Own
open PySem PySem.Spec PyProof.Rows L2
/-! ### set(l), l a list of ints: the ledger that sorted(set) asks for -/
/-- the object of a set without members -/
abbrev bare0 (w : World) : Obj := { cls := .type "set", dict := none, data := .set #[] 0 (.fresh 0 0 (!w.params.followText "set-order")) }
/-- what set(ns) leaves: a ledger of the members, the rest as it was -/
def Filled (w : World) (s : Shared) (ns : List Int) (s2 : Shared) : Prop :=
  ∃ (h2 : Heap) (tk c : Nat), s2 = { s with heap := h2, toks := tk } ∧ SetR w h2 s.heap.objs.size (fun j => decide (j ∈ ns)) c ∧ c ≤ ns.length ∧ ∀ b o, s.heap.get? b = some o → h2.get? b = some o
section
variable {P : Program} {w : World} {A : Around} {E : Value → Shared → Prop} {s : Shared} {l : Addr} {items : Array Value} {ns : List Int}
/-- the part of set.__init__ that fills -/
theorem fill_list (hh : A.handled = none) (hl : s.heap.IsList l items) (hi : IntsAre items.toList ns) (hb : ns.length + 1 < scanBound) (R : Result → Shared → Prop) (hq : ∀ s2, Filled w s ns s2 → R (.ok (.ret .none)) s2) :
    codeAny (model P w) A (.builtin "set.update.loop" ⟨[.ref s.heap.objs.size, .ref (s.heap.push (bare0 w)).objs.size], []⟩) R
      { s with heap := (s.heap.push (bare0 w)).push { cls := .type "list_iterator", data := .fields #[.ref l, .int 0 0] } } := by
  rw [show (s.heap.push (bare0 w)).objs.size = s.heap.objs.size + 1 from Heap.size_push ..]
  have n1 : items.size = ns.length := (Array.length_toList ..).symm.trans (IntsAre.length hi)
  have lt : l < s.heap.objs.size := let ⟨_, e, _⟩ := hl; Heap.lt_size e
  have sz : (s.heap.push (bare0 w)).objs.size = s.heap.objs.size + 1 := Heap.size_push ..
  have dif : l ≠ s.heap.objs.size + 1 := Nat.ne_of_lt (Nat.lt_succ_of_lt lt)
  have vals : ∀ (i : Nat) (v : Value), items[i]? = some v → ∃ k t, ns[i]? = some k ∧ v = .int k t := fun i v hv => by
    obtain ⟨t, e⟩ := PyProof.Rows.IntsAre.int_at hi i v (by rw [Array.getElem?_toList]; exact hv)
    have q : i < ns.length := n1 ▸ (Array.getElem?_eq_some_iff.mp hv).1
    exact ⟨ns[i], t, List.getElem?_eq_getElem q, by rw [e, List.getD_eq_getElem?_getD, List.getElem?_eq_getElem q] <;> rfl⟩
  have it : ((s.heap.push (bare0 w)).push { cls := .type "list_iterator", data := .fields #[.ref l, .int 0 0] }).get? (s.heap.objs.size + 1) = some { cls := .type "list_iterator", data := .fields #[.ref l, .int 0 0] } := by
    rw [← sz]
    exact Heap.get?_push_size _ rfl
  have st : ((s.heap.push (bare0 w)).push { cls := .type "list_iterator", data := .fields #[.ref l, .int 0 0] }).get? s.heap.objs.size = some (bare0 w) := Heap.get?_push_of_some _ (Heap.get?_push_size _ rfl)
  refine set_update_ints ((Walks.list (A := A.in1) (by simpa using hh) (s.heap.objs.size + 1) l dif items).toS) s.heap.objs.size (fun q => (List.mem_cons.mp q).elim (fun e => Nat.ne_of_lt (Nat.lt_succ_self _) e) fun q => Nat.ne_of_gt lt (List.mem_singleton.mp q)) ns n1 hb vals items.size 0 _ (by omega) (Nat.zero_le _)
    ⟨⟨_, it, rfl, rfl⟩, (hl.push _).push _⟩ ⟨0, Nat.le_refl 0, setR_new_at st⟩ fun s2 c mv hc hS => ?_
  obtain ⟨h2, g2, d2, t2, o2⟩ := s2
  obtain rfl : g2 = s.gens := mv.gens
  obtain rfl : d2 = s.drawn := mv.drawn
  obtain rfl : o2 = s.os := mv.os
  refine hq _ ⟨h2, t2, c, rfl, hS, n1 ▸ hc, fun b o e => ?_⟩
  have b1 : b < s.heap.objs.size := Heap.lt_size e
  exact mv.heap b o (fun q => (List.mem_cons.mp q).elim (fun e => Nat.ne_of_lt b1 e) fun q => Nat.ne_of_lt (Nat.lt_succ_of_lt b1) (List.mem_singleton.mp q)) (Heap.get?_push_of_some _ (Heap.get?_push_of_some _ e))
/-- set(l) -/
theorem set_of_list {Q : Value → Shared → Prop} (hh : A.handled = none) (hl : s.heap.IsList l items) (hi : IntsAre items.toList ns) (hb : ns.length + 1 < scanBound) (hq : ∀ s2, Filled w s ns s2 → Q (.ref s.heap.objs.size) s2) :
    wpAny (model P w) A (call (.type "set") [.ref l]) Q E s := by
  obtain ⟨hd, rest, mro⟩ := F.called_set.mro
  have made := F.called_set.made
  have sub := F.called_set.sub
  have nt := F.called_set.notType
  have cc := F.called_set.canCreate
  have ar := F.typeCall_set_1 (.ref l)
  refine wpAny_call (codeAny_of_tree ?tree)
  case tree =>
    show wpAny _ _ (callAny (.type "set") _) _ _ _
    refine wpAny_pure ⟨Code.quiet_builtin _ (by decide +kernel), codeAny_builtin F.entry_type_call ?run⟩
    case run =>
      rw [Around.under_plain (weight_type_call_type "set" [.ref l] []) rfl]
      repeat (any_goals (first | assumption | wp_step))
      refine codeAny_mono (code_set_led1 (.ref l) (E := E) (Q₁ := fun z s1 => z = .ref s.heap.objs.size ∧ s1 = { s with heap := s.heap.push (bare0 w) }) ⟨rfl, rfl⟩) fun r s1 hr => ?new
      case new =>
        match r, hr with
        | .error e, hr => exact hr
        | .ok (.ret z), hr =>
          obtain ⟨rfl, rfl⟩ := hr
          have at0 : (s.heap.push (bare0 w)).get? s.heap.objs.size = some (bare0 w) := Heap.get?_push_size _ rfl
          have ty0 : Shared.TypeIs { s with heap := s.heap.push (bare0 w) } (.ref s.heap.objs.size) "set" := ⟨_, at0, rfl⟩
          have look := F.called_set.init.lookup
          have bnd := F.called_set.init.bind (.ref s.heap.objs.size)
          repeat (any_goals (first | assumption | wp_step))
          refine codeAny_mono (codeAny_call_builtin (R := wants (fun z s2 => z = .none ∧ Filled w s ns s2) E) F.called_set.init.plain F.entry_set_init (check_set_init_1 ty0 ?ini)) fun r2 s2 hr2 => ?done
          case ini =>
            obtain ⟨⟨oc, od, odt, osl⟩, ho, hc, n, hdt⟩ := id hl
            simp only at hc hdt
            subst hc
            subst hdt
            have ho' := Heap.get?_push_of_some (bare0 w) ho
            have hl1 : (s.heap.push (bare0 w)).IsList l items := ⟨_, ho', rfl, n, rfl⟩
            have f1 := F.sub_list_set
            have f2 := F.sub_list_frozenset
            have f3 : (Value.type "list" == Value.type "dict") = false := by decide
            unfold Builtin.«set.__init__» noKeywords Builtin.Frozenset.updateFrom
            generalize hp : pyIter = PI
            wp_walk
            subst hp
            refine wpAny_pyIter_list hl1 ?_
            refine wpAny_bind (wpAny_runValue ?_)
            refine fill_list (A := A.in1.in1) (by simpa using hh) hl hi hb _ (fun s3 hf => ?_)
            exact wpAny_pure (wpAny_pure ⟨rfl, hf⟩)
          case done =>
            match r2, hr2 with
            | .error e, hr2 => exact hr2
            | .ok (.ret z), hr2 =>
              obtain ⟨rfl, hf⟩ := hr2
              repeat (any_goals (first | assumption | wp_step))
              exact hq _ hf
end
end Own

namespace Own
open PySem PySem.Spec PyProof.Rows L2
/-- set(l), l a list of ints or a tuple of ints -/
def rSetI (K : PySem.W.Frag) (w : World) : List V → Hp → VK → Prop := fun xs H Q => ∃ (l : Addr) (ns : List Int), xs = [.ref l] ∧ (SqL K H l (ns.map V.int) ∨ SqT K H l (ns.map V.int)) ∧ ns.length ≤ 60 ∧
  ∀ (a : Addr) (c : Nat), H a = none → c ≤ ns.length → Q (.ref a) (upd H a (SetO w a (fun j => decide (j ∈ ns)) c))
theorem call_setI {X : Cx} (hc : X.calm = true) : CallR X (.type "set") (rSetI X.K X.w) := by
  intro pins s σ H xs us Q I r h
  obtain ⟨l, ns, rfl, hs, hn, q⟩ := h
  obtain ⟨u, rfl, ru⟩ := vals1 r
  cases ru
  have hb : ns.length + 1 < scanBound := by unfold scanBound; omega
  have hf : H s.heap.objs.size = none := I.hok.fresh (Nat.le_refl _)
  have hd := I.ok.hd hc
  rcases hs with hs | hs
  · obtain ⟨its, rv, pl, hz⟩ := I.list hs
    refine set_of_list (ns := ns) (items := its.toArray) hd pl.isList (ints_of_vals rv) hb fun s2 hF => ?_
    obtain ⟨h2, tk, c, rfl, hS, hcn, hk⟩ := hF
    exact ⟨.ref _, _, I.laid hk (Nat.le_refl _) (setO_new hS), rfl, q _ c hf hcn⟩
  · obtain ⟨its, rv, pt, hz⟩ := I.tuple hs
    refine call_set_tupI ns hd (show s.heap.IsTuple l its.toArray from pt) (ints_of_vals rv) hb fun h2 tk c hS hcn hk => ?_
    exact ⟨.ref _, _, I.laid hk (Nat.le_refl _) (setO_new hS), rfl, q _ c hf hcn⟩
/-! ### ascending, each once -/
theorem asc_nodup {l : List Int} (h : Asc l) : l.Nodup := h.imp fun h => Int.ne_of_lt h
theorem asc_same : ∀ {l m : List Int}, Asc l → Asc m → (∀ x, x ∈ l ↔ x ∈ m) → l = m
  | [], [], _, _, _ => rfl
  | [], y :: m, _, _, h => by
    have := (h y).mpr List.mem_cons_self
    cases this
  | x :: l, [], _, _, h => by
    have := (h x).mp List.mem_cons_self
    cases this
  | x :: l, y :: m, hl, hm, h => by
    obtain ⟨h1, h2⟩ := List.pairwise_cons.mp hl
    obtain ⟨h3, h4⟩ := List.pairwise_cons.mp hm
    have e : x = y := by
      rcases List.mem_cons.mp ((h x).mp List.mem_cons_self) with e | e
      · exact e
      · rcases List.mem_cons.mp ((h y).mpr List.mem_cons_self) with e2 | e2
        · exact e2.symm
        · have := h1 y e2
          have := h3 x e
          omega
    subst e
    rw [asc_same h2 h4 fun z => ?_]
    constructor
    · intro hz
      rcases List.mem_cons.mp ((h z).mp (List.mem_cons_of_mem _ hz)) with e | e
      · have := h1 z hz
        omega
      · exact e
    · intro hz
      rcases List.mem_cons.mp ((h z).mpr (List.mem_cons_of_mem _ hz)) with e | e
      · have := h3 z hz
        omega
      · exact e
end Own

namespace Own
open PySem PySem.Spec PyProof.Rows L2
/-! ### what is no list stays -/
def Lsts (H H' : Hp) : Prop := ∀ a o, H a = some o → (∀ xs, o ≠ .lst xs) → H' a = some o
theorem Lsts.refl {H : Hp} : Lsts H H := fun _ _ h _ => h
theorem Lsts.trans {H H1 H2 : Hp} (x : Lsts H H1) (y : Lsts H1 H2) : Lsts H H2 := fun a o h n => y a o (x a o h n) n
theorem Lsts.same {H H' : Hp} (x : Same H H') : Lsts H H' := fun a o h _ => x a o h
theorem Lsts.but {b : Addr} {H H' : Hp} (hb : Bag H b) (x : But b H H') : Lsts H H' := fun a o h n => x a o (fun e => by
  obtain ⟨u, v, hb, _⟩ := hb
  rw [e, hb] at h
  cases h
  exact n _ rfl) h
theorem Lsts.put {l : Addr} {H : Hp} {xs : List V} {o : HO} (hl : H l = some (.lst xs)) : Lsts H (upd H l o) := fun a u h n => by
  rw [upd_ne (fun e => by
    rw [e, hl] at h
    cases h
    exact n _ rfl)]
  exact h
theorem TabAt.lsts {H H' : Hp} {C p : Addr} {xs : List V} (h : TabAt H C p xs) (e : Lsts H H') : TabAt H' C p xs := by
  obtain ⟨dx, t, hp, ht⟩ := h
  exact ⟨dx, t, e _ _ hp nofun, e _ _ ht nofun⟩
/-! ### rows of integers -/
def rowDt (r : List Int) : PyData := .tuple (r.map PyData.int)
def IntT (H : Hp) (v : V) (r : List Int) : Prop := ∃ t, v = .ref t ∧ H t = some (.tup (r.map V.int))
theorem IntT.lsts {H H' : Hp} {v : V} {r : List Int} (h : IntT H v r) (e : Lsts H H') : IntT H' v r := by
  obtain ⟨t, hv, ht⟩ := h
  exact ⟨t, hv, e _ _ ht nofun⟩
def Rws (H : Hp) : List (List Int) → List V → Prop
  | [], xs => xs = []
  | r :: rs, xs => ∃ y ys, xs = y :: ys ∧ IntT H y r ∧ Rws H rs ys
theorem Rws.lsts {H H' : Hp} (e : Lsts H H') : ∀ {rs : List (List Int)} {xs : List V}, Rws H rs xs → Rws H' rs xs
  | [], _, h => h
  | _ :: _, _, ⟨y, ys, h, h1, h2⟩ => ⟨y, ys, h, h1.lsts e, Rws.lsts e h2⟩
theorem Rws.len {H : Hp} : ∀ {rs : List (List Int)} {xs : List V}, Rws H rs xs → rs.length = xs.length
  | [], _, h => by rw [show _ = [] from h]; rfl
  | _ :: _, _, ⟨y, ys, h, h1, h2⟩ => by rw [h, List.length_cons, List.length_cons, Rws.len h2]
theorem Rws.snoc {H : Hp} {v : V} {r : List Int} (hv : IntT H v r) : ∀ {rs : List (List Int)} {xs : List V}, Rws H rs xs → Rws H (rs ++ [r]) (xs ++ [v])
  | [], _, h => by
    rw [show _ = [] from h]
    exact ⟨v, [], rfl, hv, rfl⟩
  | _ :: _, _, ⟨y, ys, h, h1, h2⟩ => by
    rw [h]
    exact ⟨y, _, rfl, h1, Rws.snoc hv h2⟩
theorem Rws.get {H : Hp} {v : V} : ∀ {rs : List (List Int)} {xs : List V} {i : Nat}, Rws H rs xs → xs[i]? = some v → ∃ r, rs[i]? = some r ∧ IntT H v r
  | [], _, _, h, e => by
    rw [show _ = [] from h] at e
    cases e
  | r :: _, _, 0, ⟨y, ys, h, h1, h2⟩, e => by
    rw [h] at e
    cases e
    exact ⟨r, rfl, h1⟩
  | _ :: _, _, i + 1, ⟨y, ys, h, h1, h2⟩, e => by
    rw [h, List.getElem?_cons_succ] at e
    rw [List.getElem?_cons_succ]
    exact Rws.get h2 e
theorem Rws.mem {H : Hp} {v : V} {rs : List (List Int)} {xs : List V} (h : Rws H rs xs) (hv : v ∈ xs) : ∃ r ∈ rs, IntT H v r := by
  obtain ⟨i, e⟩ := List.getElem?_of_mem hv
  obtain ⟨r, h1, h2⟩ := h.get e
  exact ⟨r, List.mem_of_getElem? h1, h2⟩
theorem Rws.app {H : Hp} {ss : List (List Int)} {ys : List V} (h2 : Rws H ss ys) : ∀ {rs : List (List Int)} {xs : List V}, Rws H rs xs → Rws H (rs ++ ss) (xs ++ ys)
  | [], _, h => by
    rw [show _ = [] from h]
    exact h2
  | _ :: _, _, ⟨y, ys, h, h1, h3⟩ => by
    rw [h]
    exact ⟨y, _, rfl, h1, Rws.app h2 h3⟩
theorem Rws.rev {H : Hp} : ∀ {rs : List (List Int)} {xs : List V}, Rws H rs xs → Rws H rs.reverse xs.reverse
  | [], _, h => by
    rw [show _ = [] from h]
    rfl
  | _ :: _, _, ⟨y, ys, h, h1, h3⟩ => by
    rw [h, List.reverse_cons, List.reverse_cons]
    exact Rws.snoc h1 (Rws.rev h3)
theorem Rws.take {H : Hp} (n : Nat) : ∀ {rs : List (List Int)} {xs : List V}, Rws H rs xs → Rws H (rs.take n) (xs.take n) := by
  induction n with
  | zero => intro rs xs _; exact rfl
  | succ n ih =>
    intro rs xs h
    cases rs with
    | nil =>
      rw [show xs = [] from h]
      rfl
    | cons r rs =>
      obtain ⟨y, ys, e, h1, h2⟩ := h
      rw [e, List.take_succ_cons, List.take_succ_cons]
      exact ⟨y, _, rfl, h1, ih h2⟩
theorem Rws.dp {K : PySem.W.Frag} {H : Hp} : ∀ {rs : List (List Int)} {xs : List V}, Rws H rs xs → DpAll K H xs (rs.map rowDt)
  | [], _, h => by
    rw [show _ = [] from h]
    exact .nil
  | _ :: _, _, ⟨y, ys, h, ⟨t, hy, ht⟩, h2⟩ => by
    rw [h, hy]
    exact .cons (.tup (SqT.of ht) (dp_ints _)) (Rws.dp h2)
theorem rowDt_lay (r : List Int) : (rowDt r).canLay0 = true ∧ (rowDt r).depth = 1 := by
  obtain ⟨h1, h2⟩ := canAll_of (ds := r.map PyData.int) fun d hd => by
    obtain ⟨n, _, rfl⟩ := List.mem_map.mp hd
    exact int_flatD n
  unfold rowDt
  simp only [PyData.canLay0, PyData.depth, h1, h2]
  exact ⟨trivial, trivial⟩
theorem rows_lay : ∀ rs : List (List Int), PyData.canLayAll0 (rs.map rowDt) = true ∧ PyData.depthAll (rs.map rowDt) ≤ 1
  | [] => by simp [PyData.canLayAll0, PyData.depthAll]
  | r :: rs => by
    obtain ⟨h1, h2⟩ := rows_lay rs
    obtain ⟨h3, h4⟩ := rowDt_lay r
    simp only [List.map_cons, PyData.canLayAll0, PyData.depthAll, h1, h3, h4]
    exact ⟨rfl, by omega⟩
theorem rowDt_shaped (r : List Int) : SeqAt.shaped (rowDt r) = true := by
  obtain ⟨h1, h2⟩ := rowDt_lay r
  unfold SeqAt.shaped
  rw [h1, h2]
  rfl
theorem rows_shaped (rs : List (List Int)) : SeqAt.shaped (.list (rs.map rowDt)) = true := by
  obtain ⟨h1, h2⟩ := rows_lay rs
  unfold SeqAt.shaped
  rw [show PyData.canLay0 _ = true by simp only [PyData.canLay0]; exact h1, Bool.true_and, decide_eq_true_eq]
  simp only [PyData.depth]
  omega
theorem rows_shapedT (rs : List (List Int)) : SeqAt.shaped (.tuple (rs.map rowDt)) = true := by
  obtain ⟨h1, h2⟩ := rows_lay rs
  unfold SeqAt.shaped
  rw [show PyData.canLay0 _ = true by simp only [PyData.canLay0]; exact h1, Bool.true_and, decide_eq_true_eq]
  simp only [PyData.depth]
  omega
theorem eqvAll_ints : ∀ (ys zs : List Int), PyData.eqvAll (ys.map PyData.int) (zs.map PyData.int) = decide (ys = zs)
  | [], [] => by simp [PyData.eqvAll]
  | [], _ :: _ => by simp [PyData.eqvAll]
  | _ :: _, [] => by simp [PyData.eqvAll]
  | y :: ys, z :: zs => by
    have ih := eqvAll_ints ys zs
    simp only [List.map_cons, PyData.eqvAll, PyData.eqv, ih]
    rw [Bool.eq_iff_iff]
    simp
theorem eqv_row (r s : List Int) : PyData.eqv (rowDt r) (rowDt s) = decide (r = s) := by
  rw [← eqvAll_ints]
  simp only [rowDt, PyData.eqv]
theorem eqvAll_rows : ∀ (ys zs : List (List Int)), PyData.eqvAll (ys.map rowDt) (zs.map rowDt) = decide (ys = zs)
  | [], [] => by simp [PyData.eqvAll]
  | [], _ :: _ => by simp [PyData.eqvAll]
  | _ :: _, [] => by simp [PyData.eqvAll]
  | y :: ys, z :: zs => by
    have ih := eqvAll_rows ys zs
    simp only [List.map_cons, PyData.eqvAll, eqv_row, ih]
    rw [Bool.eq_iff_iff]
    simp
theorem eqv_rows (ys zs : List (List Int)) : PyData.eqv (.list (ys.map rowDt)) (.list (zs.map rowDt)) = decide (ys = zs) := by
  rw [← eqvAll_rows]
  simp only [PyData.eqv]
theorem any_rows (rs : List (List Int)) (r : List Int) : ((rs.map rowDt).any fun z => PyData.eqv z (rowDt r)) = decide (r ∈ rs) := by
  rw [Bool.eq_iff_iff, List.any_map, List.any_eq_true, decide_eq_true_eq]
  constructor
  · rintro ⟨s, hs, e⟩
    have e2 : PyData.eqv (rowDt s) (rowDt r) = true := e
    rw [eqv_row, decide_eq_true_eq] at e2
    exact e2 ▸ hs
  · intro h
    exact ⟨r, h, by show PyData.eqv (rowDt r) (rowDt r) = true; rw [eqv_row, decide_eq_true_eq]⟩
/-- x in t, t a tuple of data -/
def rInDT (K : PySem.W.Frag) : R2 := fun x y H Q => ∃ d ds, Dp K H x d ∧ Dp K H y (.tuple ds) ∧ SeqAt.shaped d = true ∧ SeqAt.shaped (.tuple ds) = true ∧ Q (.bl (ds.any fun z => PyData.eqv z d)) H
theorem op_inDT {X : Cx} (hu : X.A.units + 65 < cLine) : OpR X (compareOp .In) (rInDT X.K) := by
  intro pins s σ H x y v u Q I rx ry h
  obtain ⟨d, ds, hd, he, sd, se, q⟩ := h
  obtain ⟨as, r1⟩ := Dp.reads I d x v hd rx
  obtain ⟨bs, r2⟩ := Dp.reads I (.tuple ds) y u he ry
  have se2 : PyData.canLayAll0 ds = true := by
    unfold SeqAt.shaped at se
    simp only [PyData.canLay0] at se
    exact (Bool.and_eq_true_iff.mp se).1
  exact SeqAt.in_tuple_reads r2 r1 se2 (SeqAt.canLay_of_shaped sd) (room_in_shaped sd hu) ⟨.bl _, H, I, rfl, q⟩
/-! ### data that is, or is not, a row -/
def isIntD : PyData → Bool
  | .int _ => true
  | _ => false
def isRowD (m : Nat) : PyData → Bool
  | .tuple ds => decide (ds.length = m) && ds.all isIntD
  | _ => false
def wid : PyData → Nat
  | .tuple ds => ds.length
  | _ => 0
theorem dq_int {H : Hp} {bs : List Addr} : ∀ {d : PyData} {v : V}, Dq H bs d v → isIntV v = isIntD d
  | .none, v, h => by rw [show v = .non by simpa only [Dq] using h]; rfl
  | .bool x, v, h => by rw [show v = .bl x by simpa only [Dq] using h]; rfl
  | .int i, v, h => by rw [show v = .int i by simpa only [Dq] using h]; rfl
  | .str z, v, h => by
    obtain ⟨rfl, _⟩ : v = .str z ∧ z.length ≤ 100 := by simpa only [Dq] using h
    rfl
  | .list ds, v, h => by
    obtain ⟨a, xs, rfl, n, ha, hx⟩ : ∃ a xs, v = .ref a ∧ a ∉ bs ∧ H a = some (.lst xs) ∧ DqA H bs ds xs := by simpa only [Dq] using h
    rfl
  | .tuple ds, v, h => by
    obtain ⟨a, xs, rfl, n, ha, hx⟩ : ∃ a xs, v = .ref a ∧ a ∉ bs ∧ H a = some (.tup xs) ∧ DqA H bs ds xs := by simpa only [Dq] using h
    rfl
  | .dict _, v, h => by
    have h : False := by simpa only [Dq] using h
    exact h.elim
theorem dqA_allInt {H : Hp} {bs : List Addr} : ∀ {ds : List PyData} {xs : List V}, DqA H bs ds xs → xs.all isIntV = ds.all isIntD
  | [], xs, h => by rw [show xs = [] by simpa only [DqA] using h]; rfl
  | d :: ds, xs, h => by
    obtain ⟨y, ys, rfl, h1, h2⟩ : ∃ y ys, xs = y :: ys ∧ Dq H bs d y ∧ DqA H bs ds ys := by simpa only [DqA] using h
    rw [List.all_cons, List.all_cons, dq_int h1, dqA_allInt h2]
theorem dq_kinds {H : Hp} {bs : List Addr} {d : PyData} {v : V} (h : Dq H bs d v) : (∃ ds a xs, d = .tuple ds ∧ v = .ref a ∧ a ∉ bs ∧ H a = some (.tup xs) ∧ DqA H bs ds xs) ∨ (∃ t, kd H v = some t ∧ t ≠ .tup ∧ ∀ m, isRowD m d = false) := by
  cases d with
  | none => exact .inr ⟨.non, by rw [show v = .non by simpa only [Dq] using h]; rfl, nofun, fun _ => rfl⟩
  | bool x => exact .inr ⟨.bl, by rw [show v = .bl x by simpa only [Dq] using h]; rfl, nofun, fun _ => rfl⟩
  | int i => exact .inr ⟨.int, by rw [show v = .int i by simpa only [Dq] using h]; rfl, nofun, fun _ => rfl⟩
  | str z =>
    obtain ⟨rfl, _⟩ : v = .str z ∧ z.length ≤ 100 := by simpa only [Dq] using h
    exact .inr ⟨_, rfl, nofun, fun _ => rfl⟩
  | list ds =>
    obtain ⟨a, xs, rfl, n, ha, hx⟩ : ∃ a xs, v = .ref a ∧ a ∉ bs ∧ H a = some (.lst xs) ∧ DqA H bs ds xs := by simpa only [Dq] using h
    exact .inr ⟨_, kd_lst ha, nofun, fun _ => rfl⟩
  | tuple ds =>
    obtain ⟨a, xs, rfl, n, ha, hx⟩ : ∃ a xs, v = .ref a ∧ a ∉ bs ∧ H a = some (.tup xs) ∧ DqA H bs ds xs := by simpa only [Dq] using h
    exact .inl ⟨ds, a, xs, rfl, rfl, n, ha, hx⟩
  | dict kvs =>
    have h : False := by simpa only [Dq] using h
    exact h.elim
theorem dq_known {H : Hp} {bs : List Addr} {d : PyData} {v : V} (h : Dq H bs d v) (hw : wid d ≤ 1000) : Known H v := by
  rcases dq_kinds h with ⟨ds, a, xs, rfl, rfl, n, ha, hx⟩ | ⟨t, ht, nt, _⟩
  · exact known_tup ha (by rw [← dqA_len hx]; exact hw) fun x hx2 => let ⟨t, q, _⟩ := dqA_ent hx x hx2; ⟨t, q⟩
  · refine ⟨⟨t, ht⟩, fun a xs e ha => ?_⟩
    subst e
    rw [kd_tup ha] at ht
    cases ht
    exact absurd rfl nt
theorem dq_row {H : Hp} {bs : List Addr} {d : PyData} {v : V} (h : Dq H bs d v) (m : Nat) : rowB H v (m : Nat) = isRowD m d := by
  rcases dq_kinds h with ⟨ds, a, xs, rfl, rfl, n, ha, hx⟩ | ⟨t, ht, nt, hd⟩
  · rw [rowB_tup ha, dqA_allInt hx, ← dqA_len hx]
    show _ = (decide (ds.length = m) && ds.all isIntD)
    congr 1
    rw [Bool.eq_iff_iff, decide_eq_true_eq, decide_eq_true_eq]
    omega
  · rw [hd m, rowB_not ht nt]
theorem intT_known {H : Hp} {v : V} {r : List Int} (h : IntT H v r) (hr : r.length ≤ 1000) : Known H v := by
  obtain ⟨t, rfl, ht⟩ := h
  refine known_tup ht (by rw [len_ints]; exact hr) fun x hx => ?_
  obtain ⟨u, rfl⟩ := int_of_mem hx
  exact ⟨_, rfl⟩
theorem ints_all (r : List Int) : (r.map V.int).all isIntV = true := List.all_eq_true.mpr fun x hx => by
  obtain ⟨u, rfl⟩ := int_of_mem hx
  rfl
theorem intT_row {H : Hp} {v : V} {r : List Int} (h : IntT H v r) (m : Nat) : rowB H v (m : Nat) = decide (r.length = m) := by
  obtain ⟨t, rfl, ht⟩ := h
  rw [rowB_tup ht, ints_all, Bool.and_true, len_ints, Bool.eq_iff_iff, decide_eq_true_eq, decide_eq_true_eq]
  omega
theorem intT_dq {H : Hp} {bs : List Addr} {v : V} {r : List Int} (h : IntT H v r) (hb : ∀ t, v = .ref t → t ∉ bs) : Dq H bs (rowDt r) v := by
  obtain ⟨t, rfl, ht⟩ := h
  simp only [Dq, rowDt]
  refine ⟨t, _, rfl, hb t rfl, ht, ?_⟩
  clear ht
  induction r with
  | nil => simp [DqA]
  | cons x r ih =>
    simp only [List.map_cons, DqA]
    exact ⟨_, _, rfl, by simp only [Dq], ih⟩
theorem isRow_rowDt (m : Nat) (r : List Int) : isRowD m (rowDt r) = decide (r.length = m) := by
  show (decide ((r.map PyData.int).length = m) && (r.map PyData.int).all isIntD) = _
  rw [List.length_map, List.all_map, show (r.all (isIntD ∘ PyData.int)) = true from List.all_eq_true.mpr fun x _ => rfl, Bool.and_true]
/-- what is new is none of an old datum's objects -/
theorem dq_fresh {H : Hp} {bs : List Addr} {p : Addr} (n : H p = none) : (∀ (d : PyData) (v : V), Dq H bs d v → Dq H (p :: bs) d v) ∧ ∀ (ds : List PyData) (xs : List V), DqA H bs ds xs → DqA H (p :: bs) ds xs := by
  have ne : ∀ {a o}, a ∉ bs → H a = some o → a ∉ p :: bs := fun h e q => by
    rcases List.mem_cons.mp q with rfl | q
    · rw [n] at e
      cases e
    · exact h q
  constructor
  · exact fun d => PyData.rec (motive_1 := fun d => ∀ v, Dq H bs d v → Dq H (p :: bs) d v) (motive_2 := fun ds => ∀ xs, DqA H bs ds xs → DqA H (p :: bs) ds xs) (motive_3 := fun _ => True) (motive_4 := fun _ => True)
      (fun v h => by simpa only [Dq] using h) (fun x v h => by simpa only [Dq] using h) (fun x v h => by simpa only [Dq] using h) (fun x v h => by simpa only [Dq] using h)
      (fun ds ih v h => by
        simp only [Dq] at h ⊢
        obtain ⟨a, xs, e, h1, h2, h3⟩ := h
        exact ⟨a, xs, e, ne h1 h2, h2, ih _ h3⟩)
      (fun ds ih v h => by
        simp only [Dq] at h ⊢
        obtain ⟨a, xs, e, h1, h2, h3⟩ := h
        exact ⟨a, xs, e, ne h1 h2, h2, ih _ h3⟩)
      (fun kvs _ v h => by simpa only [Dq] using h)
      (fun xs h => by simpa only [DqA] using h)
      (fun d ds ih1 ih2 xs h => by
        simp only [DqA] at h ⊢
        obtain ⟨y, ys, e, h1, h2⟩ := h
        exact ⟨y, ys, e, ih1 _ h1, ih2 _ h2⟩)
      trivial (fun _ _ _ _ => trivial) (fun _ _ _ _ => trivial) d
  · exact fun ds => PyData.rec_1 (motive_1 := fun d => ∀ v, Dq H bs d v → Dq H (p :: bs) d v) (motive_2 := fun ds => ∀ xs, DqA H bs ds xs → DqA H (p :: bs) ds xs) (motive_3 := fun _ => True) (motive_4 := fun _ => True)
      (fun v h => by simpa only [Dq] using h) (fun x v h => by simpa only [Dq] using h) (fun x v h => by simpa only [Dq] using h) (fun x v h => by simpa only [Dq] using h)
      (fun ds ih v h => by
        simp only [Dq] at h ⊢
        obtain ⟨a, xs, e, h1, h2, h3⟩ := h
        exact ⟨a, xs, e, ne h1 h2, h2, ih _ h3⟩)
      (fun ds ih v h => by
        simp only [Dq] at h ⊢
        obtain ⟨a, xs, e, h1, h2, h3⟩ := h
        exact ⟨a, xs, e, ne h1 h2, h2, ih _ h3⟩)
      (fun kvs _ v h => by simpa only [Dq] using h)
      (fun xs h => by simpa only [DqA] using h)
      (fun d ds ih1 ih2 xs h => by
        simp only [DqA] at h ⊢
        obtain ⟨y, ys, e, h1, h2⟩ := h
        exact ⟨y, ys, e, ih1 _ h1, ih2 _ h2⟩)
      trivial (fun _ _ _ _ => trivial) (fun _ _ _ _ => trivial) ds
theorem hu65 {k : Nat} {A : Around} (hr : Room k A) : A.units + 65 < cLine := by have := hr.un; omega
/-- a method without arguments, by name -/
theorem pe_calM0 {X : Cx} {k : Nat} {C f : Addr} {m : Str} {fd : FuncData} {ps : List Str} {sp : Sp} {o : Expr} {ta : TE} {apos pos : Pos} {pl : Sem Bool} (he : PE X o ta) (cl : Cls X.K C) (c : CalM X.prog X.w X.K X.mg X.base CX0 k C m f fd ps sp) (hr : Room k X.A)
    (ht : eval (.Call (.Attribute o m apos) [] [] pos) X.env = (do
      let ov ← eval o X.env
      standAt apos.atName
      let (f, first) ← holding [ov] (getMethod ov m pl)
      callWith pos f first (backTo pos (starEach [] X.env)) (backToKw pos (keywordEach [] X.env))) := by rfl) :
    PE X (.Call (.Attribute o m apos) [] [] pos) (tMeth C m sp [] E0 ta tNil) := pe_meth0 (pl := pl) he cl c.mt c.ok hr c.b .nil pass0 ht
/-! ### flat values as data -/
def flatS : V → Bool
  | .int _ => true
  | .bl _ => true
  | .non => true
  | .str z => decide (z.length ≤ 100)
  | _ => false
theorem flatS_dq {H : Hp} {bs : List Addr} {v : V} (h : flatS v = true) : Dq H bs (fdV v) v := by
  cases v with
  | int i => simp only [fdV, Dq]
  | bl b => simp only [fdV, Dq]
  | non => simp only [fdV, Dq]
  | str z => simp only [fdV, Dq]; exact ⟨trivial, of_decide_eq_true h⟩
  | _ => cases h
theorem flatS_all {H : Hp} {bs : List Addr} : ∀ {xs : List V}, (∀ x ∈ xs, flatS x = true) → DqA H bs (xs.map fdV) xs
  | [], _ => by simp only [List.map_nil, DqA]
  | x :: xs, h => by
    simp only [List.map_cons, DqA]
    exact ⟨x, xs, rfl, flatS_dq (h x List.mem_cons_self), flatS_all fun y hy => h y (List.mem_cons_of_mem _ hy)⟩
theorem flatS_int {v : V} (h : flatS v = true) : isIntD (fdV v) = isIntV v := by
  cases v with
  | int i => rfl
  | bl b => rfl
  | non => rfl
  | str z => rfl
  | _ => cases h
theorem flatS_row {xs : List V} (h : ∀ x ∈ xs, flatS x = true) (m : Nat) : isRowD m (.tuple (xs.map fdV)) = (decide (xs.length = m) && xs.all isIntV) := by
  show (decide ((xs.map fdV).length = m) && (xs.map fdV).all isIntD) = _
  rw [List.length_map]
  congr 1
  rw [List.all_map, Bool.eq_iff_iff, List.all_eq_true, List.all_eq_true]
  exact ⟨fun q x hx => by rw [← flatS_int (h x hx)]; exact q x hx, fun q x hx => by show isIntD (fdV x) = true; rw [flatS_int (h x hx)]; exact q x hx⟩
theorem flatS_ints (r : List Int) : ∀ x ∈ r.map V.int, flatS x = true := fun x hx => by
  obtain ⟨u, rfl⟩ := int_of_mem hx
  rfl
/-- a bag's own list is a list -/
theorem Bag.lst {H : Hp} {b : Addr} (h : Bag H b) : ∃ ys, H b = some (.lst ys) := let ⟨_, _, e, _⟩ := h; ⟨_, e⟩
def AllLst (H : Hp) (bs : List Addr) : Prop := ∀ x ∈ bs, ∃ ys, H x = some (.lst ys)
theorem AllLst.same {H H' : Hp} {bs : List Addr} (h : AllLst H bs) (s : Same H H') : AllLst H' bs := fun x hx => let ⟨ys, e⟩ := h x hx; ⟨ys, s _ _ e⟩
theorem AllLst.tup {H : Hp} {bs : List Addr} {t : Addr} {xs : List V} (h : AllLst H bs) (e : H t = some (.tup xs)) : t ∉ bs := fun q => by
  obtain ⟨ys, e2⟩ := h t q
  rw [e] at e2
  cases e2
theorem AllLst.new {H : Hp} {bs : List Addr} {t : Addr} (h : AllLst H bs) (e : H t = none) : t ∉ bs := fun q => by
  obtain ⟨ys, e2⟩ := h t q
  rw [e] at e2
  cases e2
/-! ### what the defs promise -/
def spRow : Sp := fun vs H Q _ => ∃ (b : Addr) (m : Int), vs = [.ref b, .int m] ∧ Bag H b ∧ 0 ≤ m ∧ m ≤ 3 ∧ ∀ (r : List Int) (t : Addr) (H' : Hp), (r.length : Int) = m → H t = none → H' t = some (.tup (r.map V.int)) → But b H H' → Bag H' b → Q (.ref t) H'
def spSpoilt : Sp := fun vs H Q _ => ∃ (b t : Addr) (r : List Int) (bs : List Addr), vs = [.ref b, .ref t] ∧ Bag H b ∧ b ∈ bs ∧ AllLst H bs ∧ H t = some (.tup (r.map V.int)) ∧ 1 ≤ r.length ∧ r.length ≤ 3 ∧
  ∀ (d : PyData) (v : V) (H' : Hp), Dq H' bs d v → isRowD r.length d = false → wid d ≤ 1000 → But b H H' → Bag H' b → Q v H'
def spErrRow (C : Addr) : Sp := fun vs H Q _ => ∃ (a : Addr) (i : Int), vs = [.ref a, .int i] ∧ H a = some (exo a C none) ∧ 0 ≤ i ∧ i ≤ 63 ∧ ∀ d, H d = none → d ≠ a → Q .non (upd (upd H d (exd d [("at", .int i)])) a (exo a C (some d)))
/-- what told says of the entries -/
def Told (m : Nat) (ds : List PyData) (good : Prop) (bad : Nat → Prop) : Prop :=
  ((∀ d ∈ ds, isRowD m d = true) → good) ∧ ∀ (i : Nat) (d : PyData), ds[i]? = some d → isRowD m d = false → (∀ (j : Nat) (e : PyData), j < i → ds[j]? = some e → isRowD m e = true) → bad i
def spStoreX (CT CS CR : Addr) : Sp := fun vs H Q E => ∃ (q p g dx : Addr) (cs : List V) (m : Nat) (xs : List V) (ds : List PyData) (bs : List Addr), vs = [.ref q, .ref p, .ref g] ∧ H q = some (.ins CS dx []) ∧ TabAt H CT p cs ∧ cs.length = m ∧ m ≤ 3 ∧
  (H g = some (.lst xs) ∨ H g = some (.tup xs)) ∧ DqA H bs ds xs ∧ (∀ d ∈ ds, wid d ≤ 1000) ∧ xs.length ≤ 60 ∧
  Told m ds (∀ (t : Addr) (H' : Hp), But q H H' → H' q = some (.ins CS dx [("table", .ref p), ("_rows", .ref t)]) → H' t = some (.tup xs) → Q .non H')
    (fun i => ∀ d H', Same H H' → H' d = some (.xd [("at", .int i)]) → E (.ref CR) (some d) H')
def StAt (H : Hp) (CS q p t : Addr) (xs : List V) : Prop := ∃ dx, H q = some (.ins CS dx [("table", .ref p), ("_rows", .ref t)]) ∧ H t = some (.tup xs)
theorem StAt.lsts {H H' : Hp} {CS q p t : Addr} {xs : List V} (h : StAt H CS q p t xs) (e : Lsts H H') : StAt H' CS q p t xs := by
  obtain ⟨dx, hp, ht⟩ := h
  exact ⟨dx, e _ _ hp nofun, e _ _ ht nofun⟩
def spInS (CT CS : Addr) : Sp := fun vs H Q _ => ∃ (q p t : Addr) (v : V) (cs xs : List V) (m : Nat) (rs : List (List Int)), vs = [.ref q, v] ∧ StAt H CS q p t xs ∧ TabAt H CT p cs ∧ cs.length = m ∧ m ≤ 3 ∧ Rws H rs xs ∧ Known H v ∧
  (rowB H v (m : Nat) = false → ∀ H', Same H H' → Q (.bl false) H') ∧ ∀ r, IntT H v r → r.length = m → ∀ H', Same H H' → Q (.bl (decide (r ∈ rs))) H'
theorem row_intT {H : Hp} {v : V} {m : Int} (h : rowB H v m = true) : ∃ r, IntT H v r ∧ (r.length : Int) = m := by
  cases v with
  | ref a =>
    cases e : H a with
    | none => exact absurd h (by show ¬ rowO (H a) m = true; rw [e]; exact nofun)
    | some o =>
      cases o with
      | tup xs =>
        rw [rowB_tup e, Bool.and_eq_true, decide_eq_true_eq] at h
        obtain ⟨h1, h2⟩ := h
        have : ∀ (xs : List V), xs.all isIntV = true → ∃ r : List Int, xs = r.map V.int := by
          intro xs
          induction xs with
          | nil => exact fun _ => ⟨[], rfl⟩
          | cons x xs ih =>
            intro hx
            rw [List.all_cons, Bool.and_eq_true] at hx
            obtain ⟨r, rfl⟩ := ih hx.2
            cases x with
            | int i => exact ⟨i :: r, rfl⟩
            | _ => exact absurd hx.1 nofun
        obtain ⟨r, rfl⟩ := this xs h2
        exact ⟨r, ⟨a, rfl, e⟩, by rw [len_ints] at h1; exact h1⟩
      | _ => exact absurd h (by show ¬ rowO (H a) m = true; rw [e]; exact nofun)
  | _ => exact absurd h nofun
/-- a def that may raise, at a wish that nothing is raised -/
theorem fn0 {P : Program} {w : World} {K : PySem.W.Frag} {mg : Str → Option Value} {base : Heap} {k : Nat} {f : Addr} {fd : FuncData} {ps : List Str} {sp : Sp} (F : FnOk P w K mg base (L2.CX P w) k f fd ps sp) : FnOk P w K mg base CX0 k f fd ps (fun vs H Q _ => sp vs H Q E0) :=
  ⟨fun vs H Q E h => F.len vs H Q E0 h, fun A outer s H args us vs Q E hr e0 hb r h => codeAny_mono (F.run A outer s H args us vs Q E0 hr e0 hb r h) fun z s' hz => by
    match z, hz with
    | .ok (.ret u), hz => exact hz
    | .error e, ⟨_, _, _, _, _, _, _, _, _, _, _, _, q⟩ => exact q.elim⟩
end Own

namespace Own
open PySem PySem.Spec PyProof.Rows L2
/-! ### ascending lists of what stands in a list -/
def insA (x : Int) : List Int → List Int
  | [] => [x]
  | y :: l => if x < y then x :: y :: l else if x = y then y :: l else y :: insA x l
def ascL (l : List Int) : List Int := l.foldr insA []
theorem mem_insA {x z : Int} : ∀ {l : List Int}, z ∈ insA x l ↔ z = x ∨ z ∈ l
  | [] => by simp [insA]
  | y :: l => by
    unfold insA
    split
    · simp only [List.mem_cons]
    · split
      · rename_i e
        subst e
        simp only [List.mem_cons]
        exact ⟨.inr, fun h => h.elim .inl id⟩
      · simp only [List.mem_cons, mem_insA (l := l)]
        exact ⟨fun h => h.elim (fun h => .inr (.inl h)) fun h => h.imp id .inr, fun h => h.elim (fun h => .inr (.inl h)) fun h => h.imp id .inr⟩
theorem insA_asc {x : Int} : ∀ {l : List Int}, Asc l → Asc (insA x l)
  | [], _ => List.pairwise_singleton ..
  | y :: l, h => by
    obtain ⟨h1, h2⟩ := List.pairwise_cons.mp h
    unfold insA
    split
    · rename_i hlt
      exact List.pairwise_cons.mpr ⟨fun z hz => by
        rcases List.mem_cons.mp hz with e | e
        · rw [e]; exact hlt
        · exact Int.lt_trans hlt (h1 z e), h⟩
    · split
      · exact h
      · rename_i n1 n2
        exact List.pairwise_cons.mpr ⟨fun z hz => by
          rcases mem_insA.mp hz with e | e
          · omega
          · exact h1 z e, insA_asc h2⟩
theorem ascL_asc : ∀ l : List Int, Asc (ascL l)
  | [] => List.Pairwise.nil
  | x :: l => insA_asc (ascL_asc l)
theorem mem_ascL {z : Int} : ∀ {l : List Int}, z ∈ ascL l ↔ z ∈ l
  | [] => Iff.rfl
  | x :: l => by
    show z ∈ insA x (ascL l) ↔ _
    rw [mem_insA, mem_ascL, List.mem_cons]
/-! ### the spots beside a row -/
def spotsL (ns r : List Int) : List Int := ascL (ns ++ (r ++ freeL ns r))
theorem mem_freeL {ns r : List Int} {x : Int} : x ∈ freeL ns r ↔ ∃ a b, (a, b) ∈ stretchL ns ((r.length : Int) + 1) ∧ freeIn a b r = some x := by
  unfold freeL
  rw [List.mem_filterMap]
  exact ⟨fun ⟨p, h1, h2⟩ => ⟨p.1, p.2, h1, h2⟩, fun ⟨a, b, h1, h2⟩ => ⟨(a, b), h1, h2⟩⟩
theorem mem_spotsL {ns r : List Int} {x : Int} : x ∈ spotsL ns r ↔ Spot ns r x := by
  unfold spotsL Spot
  rw [mem_ascL, List.mem_append, List.mem_append, mem_freeL]
theorem spotsL_asc (ns r : List Int) : Asc (spotsL ns r) := ascL_asc _
/-! ### the length of spots -/
theorem filterMap_len {α β : Type} (f : α → Option β) : ∀ l : List α, (l.filterMap f).length ≤ l.length
  | [] => Nat.le_refl _
  | x :: l => by
    have := filterMap_len f l
    rw [List.filterMap_cons]
    split
    · rw [List.length_cons]; omega
    · rw [List.length_cons, List.length_cons]; omega
theorem stretch_len (ns : List Int) (room : Int) : (stretchL ns room).length ≤ ns.length + 1 := by
  cases ns with
  | nil => exact Nat.le_refl _
  | cons n l =>
    show (pairsOf _).length ≤ _
    rw [pairsOf_len]
    simp only [List.length_append, List.length_cons, List.length_nil]
    omega
theorem freeL_len (ns r : List Int) : (freeL ns r).length ≤ ns.length + 1 := Nat.le_trans (filterMap_len _ _) (stretch_len _ _)
theorem spotsL_len (ns r : List Int) : (spotsL ns r).length ≤ ns.length + (r.length + (ns.length + 1)) := by
  have h := nodup_le (spotsL ns r) (ns ++ (r ++ freeL ns r)) (asc_nodup (spotsL_asc ns r)) fun x hx => mem_ascL.mp hx
  have := freeL_len ns r
  rw [List.length_append, List.length_append] at h
  omega
/-! ### a Kinds, and what its methods promise -/
/-- the numbers are there -/
def NumAt (H : Hp) (C k : Addr) (ns : List Int) : Prop := ∃ dx fs t, H k = some (.ins C dx fs) ∧ fs.lookup ("numbers" : Str) = some (.ref t) ∧ H t = some (.tup (ns.map V.int)) ∧ fs.lookup ("spots" : Str) = none
theorem NumAt.lsts {H H' : Hp} {C k : Addr} {ns : List Int} (h : NumAt H C k ns) (e : Lsts H H') : NumAt H' C k ns := by
  obtain ⟨dx, fs, t, h1, h2, h3, h4⟩ := h
  exact ⟨dx, fs, t, e _ _ h1 nofun, h2, e _ _ h3 nofun, h4⟩
structure KdAt (H : Hp) (C k : Addr) (ns : List Int) (rs : List (List Int)) (l : Addr) (xs : List V) : Prop where
  ob : ∃ dx t, H k = some (.ins C dx [("numbers", .ref t), ("_rows", .ref l)]) ∧ H t = some (.tup (ns.map V.int))
  hl : H l = some (.lst xs)
  hr : Rws H rs xs
theorem KdAt.num {H : Hp} {C k l : Addr} {ns : List Int} {rs : List (List Int)} {xs : List V} (h : KdAt H C k ns rs l xs) : NumAt H C k ns := by
  obtain ⟨dx, t, h1, h2⟩ := h.ob
  exact ⟨dx, _, t, h1, rfl, h2, rfl⟩
def spSpots (C : Addr) : Sp := fun vs H Q _ => ∃ (k : Addr) (v : V) (ns r : List Int), vs = [.ref k, v] ∧ NumAt H C k ns ∧ Asc ns ∧ ns.length ≤ 10 ∧ IntT H v r ∧ r.length ≤ 10 ∧
  ∀ (l : Addr) (H' : Hp), Same H H' → H l = none → H' l = some (.lst ((spotsL ns r).map V.int)) → Q (.ref l) H'
def spKinds (K : PySem.W.Frag) (CT C : Addr) : Sp := fun vs H Q _ => ∃ (k p a dx : Addr) (cs : List V) (ms : List Int), vs = [.ref k, .ref p, .ref a] ∧ H k = some (.ins C dx []) ∧ TabAt H CT p cs ∧ cs.length ≤ 3 ∧
  (SqL K H a (ms.map V.int) ∨ SqT K H a (ms.map V.int)) ∧ ms.length ≤ 10 ∧ ∀ (l : Addr) (xs : List V) (H' : Hp), But k H H' → H l = none → KdAt H' C k (ascL ms) (rowsOf (spotsL (ascL ms)) cs.length) l xs → Q .non H'
def spAlike (K : PySem.W.Frag) (C : Addr) : Sp := fun vs H Q _ => ∃ (k : Addr) (v : V) (ns r : List Int) (x y : Int), vs = [.ref k, v, .int x, .int y] ∧ NumAt H C k ns ∧ ns.length ≤ 10 ∧ IntT H v r ∧ r.length ≤ 10 ∧
  ∀ (H' : Hp) (b : Bool), Same H H' → (b = true ↔ Alike ns r x y) → Q (.bl b) H'
def spSame (K : PySem.W.Frag) (C : Addr) : Sp := fun vs H Q _ => ∃ (k : Addr) (v u : V) (ns r t : List Int), vs = [.ref k, v, u] ∧ NumAt H C k ns ∧ ns.length ≤ 10 ∧ IntT H v r ∧ r.length ≤ 10 ∧ IntT H u t ∧ t.length = r.length ∧
  ∀ (H' : Hp) (b : Bool), Same H H' → (b = true ↔ SameKind ns r t) → Q (.bl b) H'
/-- a method with arguments, by name -/
theorem pe_calM {X : Cx} {k : Nat} {C f : Addr} {m : Str} {fd : FuncData} {ps : List Str} {sp : Sp} {o e : Expr} {es : List Expr} {ta : TE} {t : TA} {apos pos : Pos} {pl : Sem Bool} (he : PE X o ta) (cl : Cls X.K C) (c : CalM X.prog X.w X.K X.mg X.base CX0 k C m f fd ps sp) (hr : Room k X.A) (ha : PA X (e :: es) t)
    (hst : starEach (e :: es) X.env = (false, eval e X.env) :: starEach es X.env := by rfl) (hpl : (backTo pos (starEach es X.env)).any (·.1) = false := by rfl)
    (ht : eval (.Call (.Attribute o m apos) (e :: es) [] pos) X.env = (do
      let ov ← eval o X.env
      standAt apos.atName
      let (f, first) ← holding [ov] (getMethod ov m pl)
      callWith pos f first (backTo pos (starEach (e :: es) X.env)) (backToKw pos (keywordEach [] X.env))) := by rfl) :
    PE X (.Call (.Attribute o m apos) (e :: es) [] pos) (tMeth C m sp [] E0 ta t) := pe_meth (pl := pl) he cl c.mt c.ok hr c.b .nil pass0 ha hst hpl ht
/-! ### views as data -/
def placeL (ns : List Int) (x : Int) : PyData := .list (ns.map (placeD x))
def equalsL (r : List Int) (x : Int) : PyData := .list (r.map fun n => .bool (decide (x = n)))
theorem eqvAll_iff : ∀ {ds es : List PyData}, PyData.eqvAll ds es = true ↔ ds.length = es.length ∧ ∀ p ∈ ds.zip es, PyData.eqv p.1 p.2 = true
  | [], [] => by simp [PyData.eqvAll]
  | [], _ :: _ => by simp [PyData.eqvAll]
  | _ :: _, [] => by simp [PyData.eqvAll]
  | d :: ds, e :: es => by
    simp only [PyData.eqvAll, Bool.and_eq_true, eqvAll_iff (ds := ds) (es := es), List.length_cons, List.zip_cons_cons, List.mem_cons, forall_eq_or_imp]
    constructor
    · rintro ⟨h1, h2, h3⟩
      exact ⟨by rw [h2], h1, h3⟩
    · rintro ⟨h2, h1, h3⟩
      exact ⟨h1, by omega, h3⟩
theorem zip_map2 {α β γ δ : Type} (f : α → γ) (g : β → δ) (l : List α) (m : List β) {P : γ × δ → Prop} : (∀ p ∈ (l.map f).zip (m.map g), P p) ↔ ∀ p ∈ l.zip m, P (f p.1, g p.2) := by
  rw [List.zip_map]
  constructor
  · intro h p hp
    exact h (f p.1, g p.2) (List.mem_map.mpr ⟨p, hp, rfl⟩)
  · intro h p hp
    obtain ⟨q, hq, rfl⟩ := List.mem_map.mp hp
    exact h q hq
theorem zip_self {α : Type} {l : List α} {P : α × α → Prop} : (∀ p ∈ l.zip l, P p) ↔ ∀ x ∈ l, P (x, x) := by
  induction l with
  | nil => simp
  | cons a l ih => simp only [List.zip_cons_cons, List.mem_cons, forall_eq_or_imp, ih]
theorem eqv_place (ns : List Int) (x y : Int) : PyData.eqv (placeL ns x) (placeL ns y) = true ↔ Side ns x y := by
  unfold placeL
  simp only [PyData.eqv]
  rw [eqvAll_iff, List.length_map, List.length_map, zip_map2, zip_self]
  unfold Side placeD
  simp only [PyData.eqv, PyData.eqvAll, Bool.and_true, Bool.and_eq_true, true_and, beq_iff_eq, decide_eq_decide]
theorem eqv_equals (r t : List Int) (x y : Int) : PyData.eqv (equalsL r x) (equalsL t y) = true ↔ r.length = t.length ∧ ∀ p ∈ r.zip t, (x = p.1 ↔ y = p.2) := by
  unfold equalsL
  simp only [PyData.eqv]
  rw [eqvAll_iff, List.length_map, List.length_map, zip_map2]
  simp only [PyData.eqv, beq_iff_eq, decide_eq_decide]
theorem eqv_places (ns r t : List Int) : PyData.eqv (.list (r.map (placeL ns))) (.list (t.map (placeL ns))) = true ↔ r.length = t.length ∧ ∀ p ∈ r.zip t, Side ns p.1 p.2 := by
  simp only [PyData.eqv]
  rw [eqvAll_iff, List.length_map, List.length_map, zip_map2]
  simp only [eqv_place]
theorem eqv_equalss (r t : List Int) : PyData.eqv (.list (r.map (equalsL r))) (.list (t.map (equalsL t))) = true ↔ r.length = t.length ∧ ∀ p ∈ r.zip t, ∀ q ∈ r.zip t, (p.1 = q.1 ↔ p.2 = q.2) := by
  simp only [PyData.eqv]
  rw [eqvAll_iff, List.length_map, List.length_map, zip_map2]
  simp only [eqv_equals]
  exact ⟨fun ⟨h1, h2⟩ => ⟨h1, fun p hp => (h2 p hp).2⟩, fun ⟨h1, h2⟩ => ⟨h1, fun p hp => ⟨h1, h2 p hp⟩⟩⟩
theorem same_iff {ns r t : List Int} (e : r.length = t.length) : SameKind ns r t ↔ PyData.eqv (.list (r.map (placeL ns))) (.list (t.map (placeL ns))) = true ∧ PyData.eqv (.list (r.map (equalsL r))) (.list (t.map (equalsL t))) = true := by
  rw [eqv_places, eqv_equalss]
  exact ⟨fun h => ⟨⟨e, h.side⟩, e, h.eqs⟩, fun ⟨⟨_, h1⟩, _, h2⟩ => ⟨e, h1, h2⟩⟩
theorem alike_iff {ns r : List Int} {x y : Int} : Alike ns r x y ↔ PyData.eqv (placeL ns x) (placeL ns y) = true ∧ PyData.eqv (equalsL r x) (equalsL r y) = true := by
  rw [eqv_place, eqv_equals, zip_self]
  exact ⟨fun h => ⟨h.1, rfl, h.2⟩, fun h => ⟨h.1, h.2.2⟩⟩
theorem lay_all {k : Nat} : ∀ {ds : List PyData}, (∀ d ∈ ds, d.canLay0 = true ∧ d.depth ≤ k) → PyData.canLayAll0 ds = true ∧ PyData.depthAll ds ≤ k
  | [], _ => by simp [PyData.canLayAll0, PyData.depthAll]
  | d :: ds, h => by
    obtain ⟨h1, h2⟩ := lay_all (ds := ds) fun e he => h e (List.mem_cons_of_mem _ he)
    obtain ⟨h3, h4⟩ := h d List.mem_cons_self
    simp only [PyData.canLayAll0, PyData.depthAll, h1, h3]
    exact ⟨rfl, by omega⟩
theorem lay_list {k : Nat} {ds : List PyData} (h : ∀ d ∈ ds, d.canLay0 = true ∧ d.depth ≤ k) : (PyData.list ds).canLay0 = true ∧ (PyData.list ds).depth ≤ k + 1 := by
  obtain ⟨h1, h2⟩ := lay_all h
  simp only [PyData.canLay0, PyData.depth]
  exact ⟨h1, by omega⟩
theorem lay_tup {k : Nat} {ds : List PyData} (h : ∀ d ∈ ds, d.canLay0 = true ∧ d.depth ≤ k) : (PyData.tuple ds).canLay0 = true ∧ (PyData.tuple ds).depth ≤ k + 1 := by
  obtain ⟨h1, h2⟩ := lay_all h
  simp only [PyData.canLay0, PyData.depth]
  exact ⟨h1, by omega⟩
theorem lay_shaped {k : Nat} {d : PyData} (h : d.canLay0 = true ∧ d.depth ≤ k) (hk : k ≤ 64) : SeqAt.shaped d = true := by
  unfold SeqAt.shaped
  rw [h.1, Bool.true_and, decide_eq_true_eq]
  omega
theorem lay_bool (b : Bool) : (PyData.bool b).canLay0 = true ∧ (PyData.bool b).depth ≤ 0 := by simp [PyData.canLay0, PyData.depth]
theorem lay_placeL (ns : List Int) (x : Int) : (placeL ns x).canLay0 = true ∧ (placeL ns x).depth ≤ 2 := lay_list fun d hd => by
  obtain ⟨n, _, rfl⟩ := List.mem_map.mp hd
  refine lay_tup fun e he => ?_
  simp only [List.mem_cons, List.not_mem_nil, or_false] at he
  rcases he with rfl | rfl <;> exact lay_bool _
theorem lay_equalsL (r : List Int) (x : Int) : (equalsL r x).canLay0 = true ∧ (equalsL r x).depth ≤ 1 := lay_list fun d hd => by
  obtain ⟨n, _, rfl⟩ := List.mem_map.mp hd
  exact lay_bool _
/-! ### a walk over a list that stands still, whatever a turn is -/
theorem walk_list {K : PySem.W.Frag} {a : Addr} {xs : List V} {H0 : Hp} {Qd : Hp → Prop} {Body : V → Hp → (Hp → Prop) → Prop} (Pv : Nat → Hp → Prop) (h0 : Pv 0 H0) (hl : ∀ i H, i ≤ xs.length → Pv i H → SqL K H a xs)
    (hs : ∀ i x H, xs[i]? = some x → Pv i H → Body x H (Pv (i + 1))) (hd : ∀ H, Pv xs.length H → Qd H) :
    ∃ W : Nat → Nat → Hp → Prop, (∃ m, W 0 m H0) ∧ ∀ i m H, W i m H → ((Itl K a).stop i H ∧ Qd H) ∨ ((Itl K a).go i H ∧ ∃ Nx : Hp → Prop, (∀ H', Nx H' → ∃ m', m' < m ∧ W (i + 1) m' H') ∧ ∀ x H', (Itl K a).yld i H x H' → Body x H' Nx) := by
  refine ⟨fun i m H => m = xs.length - i ∧ i ≤ xs.length ∧ Pv i H, ⟨_, rfl, Nat.zero_le _, h0⟩, ?_⟩
  rintro i m H ⟨rfl, hi, p⟩
  have st := hl i H hi p
  rcases Nat.lt_or_ge i xs.length with lt | ge
  · have at_ : xs[i]? = some xs[i] := List.getElem?_eq_getElem lt
    exact .inr ⟨⟨xs, xs[i], st, at_⟩, Pv (i + 1), fun H' p' => ⟨xs.length - (i + 1), by omega, rfl, lt, p'⟩, fun x H' ⟨e, y⟩ => by
      subst e
      exact hs i x _ (y xs st) p⟩
  · obtain rfl : i = xs.length := by omega
    exact .inl ⟨⟨xs, st, ge⟩, hd H p⟩
/-! ### how many rows there are -/
theorem rows_bound {ns : List Int} (hn : ns.length ≤ 10) : ∀ k, k ≤ 3 → (rowsOf (spotsL ns) k).length ≤ 24 ^ k
  | 0, _ => Nat.le_refl _
  | k + 1, hk => by
    have ih := rows_bound hn k (by omega)
    have one : ∀ l : List (List Int), (∀ r ∈ l, r.length ≤ 3) → (l.flatMap fun r => (spotsL ns r).map fun s => r ++ [s]).length ≤ l.length * 24 := by
      intro l
      induction l with
      | nil => intro _; exact Nat.le_refl _
      | cons r l ih =>
        intro h
        rw [List.flatMap_cons, List.length_append, List.length_map, List.length_cons]
        have h1 := ih fun x hx => h x (List.mem_cons_of_mem _ hx)
        have h2 := spotsL_len ns r
        have h3 := h r List.mem_cons_self
        omega
    show ((rowsOf (spotsL ns) k).flatMap fun r => (spotsL ns r).map fun s => r ++ [s]).length ≤ 24 ^ (k + 1)
    have h1 := one (rowsOf (spotsL ns) k) fun r hr => by
      have := rows_len hr
      omega
    rw [Nat.pow_succ]
    have h2 := Nat.mul_le_mul_right 24 ih
    omega
theorem rows_small {ns : List Int} (hn : ns.length ≤ 10) {k : Nat} (hk : k ≤ 3) : (rowsOf (spotsL ns) k).length < sizeLine := by
  have h1 := rows_bound hn k hk
  have h2 : 24 ^ k ≤ 24 ^ 3 := Nat.pow_le_pow_right (by decide) hk
  have h3 : 24 ^ 3 < sizeLine := by rw [sizeLine_eq]; decide
  omega
theorem rws_keep {H H' : Hp} (h : ∀ x xs, H x = some (.tup xs) → H' x = some (.tup xs)) : ∀ {rs : List (List Int)} {xs : List V}, Rws H rs xs → Rws H' rs xs
  | [], _, e => e
  | _ :: _, _, ⟨y, ys, e, ⟨t, h1, h2⟩, h3⟩ => ⟨y, ys, e, ⟨t, h1, h _ _ h2⟩, rws_keep h h3⟩
/-- the places of an integer stand on no list -/
theorem place_bs {H : Hp} {bs bs' : List Addr} (hA : AllLst H bs') {x : Int} : ∀ {ns : List Int} {acc : List V}, DqA H bs (ns.map (placeD x)) acc → DqA H bs' (ns.map (placeD x)) acc
  | [], acc, h => by simpa only [List.map_nil, DqA] using h
  | n :: ns, acc, h => by
    simp only [List.map_cons, DqA] at h ⊢
    obtain ⟨y, ys, rfl, h1, h2⟩ := h
    refine ⟨y, ys, rfl, ?_, place_bs hA h2⟩
    simp only [placeD, Dq, DqA] at h1 ⊢
    obtain ⟨a, xs, e1, _, e2, q⟩ := h1
    exact ⟨a, xs, e1, hA.tup e2, e2, q⟩
theorem place_dq {H : Hp} {l D : Addr} {acc : List V} {ns : List Int} {x : Int} (hl : H l = some (.lst acc)) (h : DqA H [l] (ns.map (placeD x)) acc) (n : l ≠ D) (hD : ∃ ys, H D = some (.lst ys)) : Dq H [D] (placeL ns x) (.ref l) := by
  unfold placeL
  simp only [Dq]
  exact ⟨l, acc, rfl, fun q => n (List.mem_singleton.mp q), hl, place_bs (fun y hy => by rw [List.mem_singleton.mp hy]; exact hD) h⟩
theorem bools_dq {H : Hp} {bs : List Addr} {x : Int} : ∀ {r : List Int}, DqA H bs (r.map fun n => PyData.bool (decide (x = n))) (r.map fun n => V.bl (decide (x = n)))
  | [] => by simp only [List.map_nil, DqA]
  | n :: r => by
    simp only [List.map_cons, DqA, Dq]
    exact ⟨_, _, rfl, rfl, bools_dq⟩
theorem equals_dq {H : Hp} {l D : Addr} {r : List Int} {x : Int} (hl : H l = some (.lst (r.map fun n => V.bl (decide (x = n))))) (n : l ≠ D) : Dq H [D] (equalsL r x) (.ref l) := by
  unfold equalsL
  simp only [Dq]
  exact ⟨l, _, rfl, fun q => n (List.mem_singleton.mp q), hl, bools_dq⟩
end Own

namespace Own
open PySem PySem.Spec PyProof.Rows L2
/-! ### views of rows: how each part stands to the numbers and to the parts ahead of it -/
def cmpI (x n : Int) : Int := if x < n then 0 else if x = n then 1 else 2
def eqI (x v : Int) : Int := if v = x then 3 else 4
def vw (ns : List Int) : List Int → List Int → List Int
  | _, [] => []
  | pre, x :: r => ns.map (cmpI x) ++ (pre.map (eqI x) ++ vw ns (pre ++ [x]) r)
def viewL (ns r : List Int) : List Int := vw ns [] r
theorem cmp_side (ns : List Int) (x y : Int) : ns.map (cmpI x) = ns.map (cmpI y) ↔ Side ns x y := by
  rw [List.map_inj_left]
  constructor
  · intro h n hn
    have q := h n hn
    unfold cmpI at q
    split at q <;> split at q <;> (try split at q) <;> (try split at q) <;> constructor <;> constructor <;> intro _ <;> omega
  · intro h n hn
    obtain ⟨h1, h2⟩ := h n hn
    unfold cmpI
    simp only [h1, h2]
theorem eq_zip {x y : Int} : ∀ {r t : List Int}, r.length = t.length → (r.map (eqI x) = t.map (eqI y) ↔ ∀ p ∈ r.zip t, (x = p.1 ↔ y = p.2))
  | [], [], _ => by simp
  | [], _ :: _, h => by cases h
  | _ :: _, [], h => by cases h
  | u :: r, v :: t, h => by
    have ih := eq_zip (x := x) (y := y) (r := r) (t := t) (Nat.succ.inj h)
    simp only [List.map_cons, List.cons.injEq, List.zip_cons_cons, List.mem_cons, forall_eq_or_imp, ih]
    have e : (eqI x u = eqI y v) ↔ (x = u ↔ y = v) := by
      unfold eqI
      constructor
      · intro q
        split at q <;> split at q <;> constructor <;> intro _ <;> omega
      · intro q
        split <;> split <;> omega
    rw [e]
theorem SameKind.pre {ns a a' b b' : List Int} (h : SameKind ns (a ++ b) (a' ++ b')) (e : a.length = a'.length) : SameKind ns a a' := by
  have z : (a ++ b).zip (a' ++ b') = a.zip a' ++ b.zip b' := List.zip_append e
  have s := h.side
  have q := h.eqs
  rw [z] at s q
  exact ⟨e, fun p hp => s p (List.mem_append_left _ hp), fun p hp r hr => q p (List.mem_append_left _ hp) r (List.mem_append_left _ hr)⟩
theorem vw_iff {ns : List Int} : ∀ {r t a a' : List Int}, r.length = t.length → SameKind ns a a' → (vw ns a r = vw ns a' t ↔ SameKind ns (a ++ r) (a' ++ t))
  | [], [], a, a', _, h => by
    rw [List.append_nil, List.append_nil]
    exact ⟨fun _ => h, fun _ => rfl⟩
  | [], _ :: _, _, _, e, _ => by cases e
  | _ :: _, [], _, _, e, _ => by cases e
  | x :: r, y :: t, a, a', e, h => by
    have e2 : r.length = t.length := Nat.succ.inj e
    have ea : (a ++ [x]) ++ r = a ++ x :: r := by rw [List.append_assoc]; rfl
    have eb : (a' ++ [y]) ++ t = a' ++ y :: t := by rw [List.append_assoc]; rfl
    unfold vw
    constructor
    · intro q
      obtain ⟨q1, q2⟩ := List.append_inj q (by rw [List.length_map, List.length_map])
      obtain ⟨q3, q4⟩ := List.append_inj q2 (by rw [List.length_map, List.length_map, h.len])
      have k := h.snoc ((cmp_side ns x y).mp q1) ((eq_zip h.len).mp q3)
      rw [← ea, ← eb]
      exact (vw_iff e2 k).mp q4
    · intro k
      rw [← ea, ← eb] at k
      have k1 := SameKind.pre k (by rw [List.length_append, List.length_append, h.len]; rfl)
      obtain ⟨_, k2, k3⟩ := k1.unsnoc
      rw [(cmp_side ns x y).mpr k2, (eq_zip h.len).mpr k3, (vw_iff e2 k1).mpr k]
theorem view_iff {ns r t : List Int} (e : r.length = t.length) : viewL ns r = viewL ns t ↔ SameKind ns r t := vw_iff e SameKind.nil
theorem SameKind.symm {ns r t : List Int} (h : SameKind ns r t) : SameKind ns t r := (view_iff h.len.symm).mp ((view_iff h.len).mpr h).symm
theorem SameKind.rfl' (ns r : List Int) : SameKind ns r r := (view_iff rfl).mp rfl
theorem vw_len {ns : List Int} : ∀ (r a : List Int), (vw ns a r).length ≤ r.length * (ns.length + (a.length + r.length))
  | [], _ => Nat.zero_le _
  | x :: r, a => by
    have ih := vw_len (ns := ns) r (a ++ [x])
    unfold vw
    rw [List.length_append, List.length_append, List.length_map, List.length_map]
    rw [List.length_append] at ih
    have e : [x].length = 1 := rfl
    rw [e] at ih
    rw [List.length_cons]
    have e2 : a.length + 1 + r.length = a.length + (r.length + 1) := by omega
    rw [e2] at ih
    rw [Nat.succ_mul]
    omega
/-- what stands behind the first parts -/
theorem vw_app {ns : List Int} : ∀ (r t a : List Int), vw ns a (r ++ t) = vw ns a r ++ vw ns (a ++ r) t
  | [], t, a => by rw [List.append_nil]; rfl
  | x :: r, t, a => by
    have e1 : ∀ (b : List Int) (y : Int) (l : List Int), vw ns b (y :: l) = ns.map (cmpI y) ++ (b.map (eqI y) ++ vw ns (b ++ [y]) l) := fun _ _ _ => rfl
    rw [List.cons_append, e1, e1, vw_app r t (a ++ [x]), List.append_assoc, List.append_assoc, List.append_assoc]
    rfl
theorem view_snoc (ns r : List Int) (x : Int) : viewL ns (r ++ [x]) = viewL ns r ++ (ns.map (cmpI x) ++ r.map (eqI x)) := by
  unfold viewL
  rw [vw_app, List.nil_append]
  show vw ns [] r ++ (ns.map (cmpI x) ++ (r.map (eqI x) ++ [])) = _
  rw [List.append_nil]
theorem pow10_cast : ∀ n : Nat, (10 : Int) ^ n = ((10 ^ n : Nat) : Int)
  | 0 => rfl
  | n + 1 => by
    rw [Int.pow_succ, pow10_cast n, Nat.pow_succ, Int.natCast_mul]
    rfl
theorem pow10_le {a b : Nat} (h : a ≤ b) : (10 : Int) ^ a ≤ 10 ^ b := by
  rw [pow10_cast, pow10_cast]
  exact Int.ofNat_le.mpr (Nat.pow_le_pow_right (by decide) h)
/-! ### what the laws' own defs promise -/
def spLongB : Sp := fun vs H Q _ => ∃ (b : Addr) (m : Int), vs = [.ref b, .int m] ∧ Bag H b ∧ 0 < m ∧ m ≤ 33 ∧ ∀ (n : Int) (H' : Hp), n.natAbs < 10 ^ 198 → But b H H' → Bag H' b → Q (.int n) H'
def spNums : Sp := fun vs H Q _ => ∃ b, vs = [.ref b] ∧ Bag H b ∧ ∀ (ns : List Int) (l : Addr) (H' : Hp), Asc ns → ns.length ≤ 4 → (∀ n ∈ ns, n.natAbs < 10 ^ 199) → H l = none → l ≠ b → H' l = some (.lst (ns.map V.int)) → But b H H' → Bag H' b → Q (.ref l) H'
def spRowN : Sp := fun vs H Q _ => ∃ (b l : Addr) (m : Nat) (ns : List Int), vs = [.ref b, .int m, .ref l] ∧ Bag H b ∧ 1 ≤ m ∧ m ≤ 3 ∧ H l = some (.lst (ns.map V.int)) ∧ l ≠ b ∧ ns.length ≤ 4 ∧ (∀ n ∈ ns, n.natAbs < 10 ^ 199) ∧
  ∀ (r : List Int) (t : Addr) (H' : Hp), r.length = m → (∀ n ∈ r, n.natAbs < 10 ^ 200) → H t = none → H' t = some (.tup (r.map V.int)) → But b H H' → Bag H' b → Q (.ref t) H'
def spView : Sp := fun vs H Q _ => ∃ (v : V) (l : Addr) (r ns : List Int), vs = [v, .ref l] ∧ IntT H v r ∧ H l = some (.lst (ns.map V.int)) ∧ r.length ≤ 3 ∧ ns.length ≤ 4 ∧
  ∀ (t : Addr) (H' : Hp), Same H H' → H t = none → H' t = some (.tup ((viewL ns r).map V.int)) → Q (.ref t) H'
theorem pickH {P : Hp → Prop} (R : Hp → Prop) {G : Prop} (main : (∀ H, R H → P H) → G) (rest : ∀ H, R H → P H) : G := main rest
theorem hu1 {k : Nat} {A : Around} (hr : Room k A) : A.units + 1 < cLine := by have := hr.un; omega
/-! ### rows by their views -/
def keyV (v : List Int) : List Key := v.map Sum.inl
theorem keyV_kV (v : List Int) : (keyV v).map kV = v.map V.int := by
  unfold keyV
  rw [List.map_map]
  rfl
theorem keyV_inj {u v : List Int} (h : keyV u = keyV v) : u = v := (List.map_inj_right fun _ _ h => Sum.inl.inj h).mp h
def kvsOf (ns : List Int) (rs : List (List Int)) (xs : List V) : List (List Key × V) := (rs.zip xs).map fun p => (keyV (viewL ns p.1), p.2)
theorem kvs_len {ns : List Int} {rs : List (List Int)} {xs : List V} (h : rs.length = xs.length) : (kvsOf ns rs xs).length = rs.length := by
  unfold kvsOf
  rw [List.length_map, List.length_zip]
  omega
theorem kvs_none {ns : List Int} {k : List Key} : ∀ {rs : List (List Int)} {xs : List V}, (∀ r ∈ rs, keyV (viewL ns r) ≠ k) → valV (kvsOf ns rs xs) k = none
  | [], _, _ => rfl
  | _ :: _, [], _ => rfl
  | r :: rs, x :: xs, h => by
    show valV ((keyV (viewL ns r), x) :: kvsOf ns rs xs) k = none
    rw [valV_neg (h r List.mem_cons_self)]
    exact kvs_none fun q hq => h q (List.mem_cons_of_mem _ hq)
theorem kvs_some {H : Hp} {ns : List Int} {t : List Int} : ∀ {rs : List (List Int)} {xs : List V}, Rws H rs xs → t ∈ rs → (∀ r ∈ rs, viewL ns r = viewL ns t → r = t) → ∃ v, valV (kvsOf ns rs xs) (keyV (viewL ns t)) = some v ∧ IntT H v t
  | [], _, _, h, _ => by cases h
  | r :: rs, xs, ⟨y, ys, e, h1, h2⟩, ht, hi => by
    rw [e]
    show ∃ v, valV ((keyV (viewL ns r), y) :: kvsOf ns rs ys) (keyV (viewL ns t)) = some v ∧ IntT H v t
    by_cases q : keyV (viewL ns r) = keyV (viewL ns t)
    · rw [valV_pos (p := (keyV (viewL ns r), y)) q]
      have := hi r List.mem_cons_self (keyV_inj q)
      exact ⟨y, rfl, this ▸ h1⟩
    · rw [valV_neg (p := (keyV (viewL ns r), y)) q]
      rcases List.mem_cons.mp ht with e2 | ht
      · rw [e2] at q
        exact absurd rfl q
      · exact kvs_some h2 ht fun s hs => hi s (List.mem_cons_of_mem _ hs)
theorem kvs_snoc {ns : List Int} : ∀ {rs : List (List Int)} {xs : List V} {r : List Int} {x : V}, rs.length = xs.length → kvsOf ns (rs ++ [r]) (xs ++ [x]) = kvsOf ns rs xs ++ [(keyV (viewL ns r), x)]
  | [], [], _, _, _ => rfl
  | [], _ :: _, _, _, h => by cases h
  | _ :: _, [], _, _, h => by cases h
  | r :: rs, x :: xs, s, y, h => by
    show (keyV (viewL ns r), x) :: kvsOf ns (rs ++ [s]) (xs ++ [y]) = (keyV (viewL ns r), x) :: (kvsOf ns rs xs ++ _)
    rw [kvs_snoc (Nat.succ.inj h)]
/-- the rows of all kinds have views of their own -/
theorem rows_views {ns : List Int} (h : Asc ns) {k : Nat} {r t : List Int} (hr : r ∈ rowsOf (spotsL ns) k) (ht : t ∈ rowsOf (spotsL ns) k) (e : viewL ns r = viewL ns t) : r = t := by
  have hl : r.length = t.length := by rw [rows_len hr, rows_len ht]
  obtain ⟨u, hu, hk, one⟩ := kind_one h (fun r s => mem_spotsL) k t (rows_len ht)
  have h1 := one r hr (SameKind.symm ((view_iff hl).mp e))
  have h2 := one t ht (SameKind.rfl' ns t)
  rw [h1, h2]
theorem rows_nd (ns : List Int) (k : Nat) : (rowsOf (spotsL ns) k).Nodup := rows_nodup (fun r => asc_nodup (spotsL_asc ns r)) k
/-- each row has one of its kind among them -/
theorem rows_has {ns : List Int} (h : Asc ns) {k : Nat} {v : List Int} (hv : v.length = k) : ∃ t ∈ rowsOf (spotsL ns) k, viewL ns v = viewL ns t := by
  obtain ⟨u, hu, hk, _⟩ := kind_one h (fun r s => mem_spotsL) k v hv
  exact ⟨u, hu, (view_iff hk.len).mpr hk⟩
theorem asc_self {l : List Int} (h : Asc l) : ascL l = l := asc_same (ascL_asc l) h fun _ => mem_ascL
end Own

namespace Own
open PySem PySem.Spec PyProof.Rows L2
/-! ### what says which rows are of one kind -/
mutual
theorem Dq.nil {H : Hp} {bs : List Addr} : ∀ (d : PyData) (v : V), Dq H bs d v → Dq H [] d v
  | .none, v, h => by simpa only [Dq] using h
  | .bool x, v, h => by simpa only [Dq] using h
  | .int i, v, h => by simpa only [Dq] using h
  | .str z, v, h => by simpa only [Dq] using h
  | .list ds, v, h => by
    obtain ⟨a, xs, rfl, n, ha, hx⟩ : ∃ a xs, v = .ref a ∧ a ∉ bs ∧ H a = some (.lst xs) ∧ DqA H bs ds xs := by simpa only [Dq] using h
    simp only [Dq]
    exact ⟨a, xs, rfl, (fun q => by cases q), ha, DqA.nil ds xs hx⟩
  | .tuple ds, v, h => by
    obtain ⟨a, xs, rfl, n, ha, hx⟩ : ∃ a xs, v = .ref a ∧ a ∉ bs ∧ H a = some (.tup xs) ∧ DqA H bs ds xs := by simpa only [Dq] using h
    simp only [Dq]
    exact ⟨a, xs, rfl, (fun q => by cases q), ha, DqA.nil ds xs hx⟩
  | .dict _, v, h => by
    have h : False := by simpa only [Dq] using h
    exact h.elim
theorem DqA.nil {H : Hp} {bs : List Addr} : ∀ (ds : List PyData) (xs : List V), DqA H bs ds xs → DqA H [] ds xs
  | [], xs, h => by simpa only [DqA] using h
  | d :: ds, xs, h => by
    obtain ⟨y, ys, rfl, h1, h2⟩ : ∃ y ys, xs = y :: ys ∧ Dq H bs d y ∧ DqA H bs ds ys := by simpa only [DqA] using h
    simp only [DqA]
    exact ⟨y, ys, rfl, Dq.nil d y h1, DqA.nil ds ys h2⟩
end
theorem Dq.same {H H' : Hp} {d : PyData} {v : V} (S : Same H H') (h : Dq H [] d v) : Dq H' [] d v := Dq.buts (Buts.of_same S) d v h
def placeT (ns : List Int) (x : Int) : PyData := .tuple (ns.map (placeD x))
def equalsT (r : List Int) (x : Int) : PyData := .tuple (r.map fun n => .bool (decide (x = n)))
def standD (ns r : List Int) : PyData := .tuple [.tuple (r.map (placeT ns)), .tuple (r.map (equalsT r))]
theorem eqv_placeT (ns : List Int) (x y : Int) : PyData.eqv (placeT ns x) (placeT ns y) = true ↔ Side ns x y := by
  have e : PyData.eqv (placeT ns x) (placeT ns y) = PyData.eqv (placeL ns x) (placeL ns y) := by
    unfold placeT placeL
    simp only [PyData.eqv]
  rw [e]
  exact eqv_place ns x y
theorem eqv_equalsT (r t : List Int) (x y : Int) : PyData.eqv (equalsT r x) (equalsT t y) = true ↔ r.length = t.length ∧ ∀ p ∈ r.zip t, (x = p.1 ↔ y = p.2) := by
  have e : PyData.eqv (equalsT r x) (equalsT t y) = PyData.eqv (equalsL r x) (equalsL t y) := by
    unfold equalsT equalsL
    simp only [PyData.eqv]
  rw [e]
  exact eqv_equals r t x y
theorem stand_iff {ns r t : List Int} (e : r.length = t.length) : PyData.eqv (standD ns r) (standD ns t) = true ↔ SameKind ns r t := by
  unfold standD
  simp only [PyData.eqv, PyData.eqvAll, Bool.and_true, Bool.and_eq_true]
  rw [eqvAll_iff, eqvAll_iff, List.length_map, List.length_map, List.length_map, List.length_map, zip_map2, zip_map2]
  simp only [eqv_placeT, eqv_equalsT]
  rw [same_iff e, eqv_places, eqv_equalss]
  exact ⟨fun ⟨h1, h2, h3⟩ => ⟨h1, e, fun p hp => (h3 p hp).2⟩, fun ⟨h1, h2, h3⟩ => ⟨h1, e, fun p hp => ⟨e, h3 p hp⟩⟩⟩
theorem lay_placeT (ns : List Int) (x : Int) : (placeT ns x).canLay0 = true ∧ (placeT ns x).depth ≤ 2 := lay_tup fun d hd => by
  obtain ⟨n, _, rfl⟩ := List.mem_map.mp hd
  refine lay_tup fun e he => ?_
  simp only [List.mem_cons, List.not_mem_nil, or_false] at he
  rcases he with rfl | rfl <;> exact lay_bool _
theorem lay_equalsT (r : List Int) (x : Int) : (equalsT r x).canLay0 = true ∧ (equalsT r x).depth ≤ 2 := by
  have h : (equalsT r x).canLay0 = true ∧ (equalsT r x).depth ≤ 1 := lay_tup fun d hd => by
    obtain ⟨n, _, rfl⟩ := List.mem_map.mp hd
    exact lay_bool _
  exact ⟨h.1, by omega⟩
theorem lay_stand (ns r : List Int) : (standD ns r).canLay0 = true ∧ (standD ns r).depth ≤ 4 := lay_tup fun d hd => by
  simp only [List.mem_cons, List.not_mem_nil, or_false] at hd
  rcases hd with rfl | rfl
  · refine lay_tup fun e he => ?_
    obtain ⟨n, _, rfl⟩ := List.mem_map.mp he
    exact lay_placeT ns n
  · refine lay_tup fun e he => ?_
    obtain ⟨n, _, rfl⟩ := List.mem_map.mp he
    exact lay_equalsT r n
/-- tuple(..) of what is listed, by the frame alone -/
def rTupOf (K : PySem.W.Frag) : List V → Hp → (V → Hp → Prop) → Prop := fun xs H Q => ∃ p ys, xs = [V.ref p] ∧ ((SqL K H p ys ∧ ∀ l : Addr, H l = none → Q (.ref l) (upd H l (.tup ys))) ∨ SqT K H p ys ∧ Q (.ref p) H)
def spStand (K : PySem.W.Frag) : Sp := fun vs H Q _ => ∃ (a b : Addr) (ns r : List Int), vs = [.ref a, .ref b] ∧ SqT K H a (ns.map V.int) ∧ ns.length ≤ 100 ∧ SqT K H b (r.map V.int) ∧ r.length ≤ 100 ∧
  ∀ (p : Addr) (H' : Hp), Same H H' → Dq H' [] (standD ns r) (.ref p) → Q (.ref p) H'
def spBeside (K : PySem.W.Frag) : Sp := fun vs H Q _ => ∃ (a b : Addr) (ns r : List Int), vs = [.ref a, .ref b] ∧ SqT K H a (ns.map V.int) ∧ ns.length ≤ 10 ∧ SqT K H b (r.map V.int) ∧ r.length ≤ 10 ∧
  ∀ (l : Addr) (H' : Hp), Same H H' → H l = none → H' l = some (.lst ((spotsL ns r).map V.int)) → Q (.ref l) H'
theorem placeT_dq {H : Hp} {t D : Addr} {bs : List Addr} {acc : List V} {ns : List Int} {x : Int} (ht : H t = some (.tup acc)) (h : DqA H bs (ns.map (placeD x)) acc) (hD : ∃ ys, H D = some (.lst ys)) : Dq H [D] (placeT ns x) (.ref t) := by
  have hA : AllLst H [D] := fun y hy => by rw [List.mem_singleton.mp hy]; exact hD
  unfold placeT
  simp only [Dq]
  exact ⟨t, acc, rfl, hA.tup ht, ht, place_bs hA h⟩
theorem equalsT_dq {H : Hp} {t D : Addr} {r : List Int} {x : Int} (ht : H t = some (.tup (r.map fun n => V.bl (decide (x = n))))) (hD : ∃ ys, H D = some (.lst ys)) : Dq H [D] (equalsT r x) (.ref t) := by
  have hA : AllLst H [D] := fun y hy => by rw [List.mem_singleton.mp hy]; exact hD
  unfold equalsT
  simp only [Dq]
  exact ⟨t, _, rfl, hA.tup ht, ht, bools_dq⟩
theorem stand_dq {H : Hp} {p s t : Addr} {bs cs : List Addr} {xs ys : List V} {ns r : List Int} (hp : H p = some (.tup [.ref s, .ref t])) (hs : H s = some (.tup xs)) (hx : DqA H bs (r.map (placeT ns)) xs) (ht : H t = some (.tup ys)) (hy : DqA H cs (r.map (equalsT r)) ys) : Dq H [] (standD ns r) (.ref p) := by
  unfold standD
  simp only [Dq, DqA]
  exact ⟨p, _, rfl, (fun q => by cases q), hp, _, _, rfl, ⟨s, _, rfl, (fun q => by cases q), hs, DqA.nil _ _ hx⟩, _, _, rfl, ⟨t, _, rfl, (fun q => by cases q), ht, DqA.nil _ _ hy⟩, rfl⟩
end Own

namespace Own
open PySem PySem.Spec PyProof.Rows L2
/-! ### how many spots there are beside a row -/
def othersL (ns r : List Int) : List Int := ascL (r.filter fun v => !decide (v ∈ ns))
def insideL (os : List Int) (a b : Int) : List Int := os.filter fun v => decide (a < v) && decide (v < b)
def gapsL (os : List Int) : List Int → Nat
  | a :: b :: r => (if ((insideL os a b).length : Int) < b - a - 1 then 1 else 0) + gapsL os (b :: r)
  | _ => 0
def countL (ns r : List Int) : Nat := match ns with
  | [] => (othersL [] r).length + 1
  | n :: l => (n :: l).length + (othersL (n :: l) r).length + 2 + gapsL (othersL (n :: l) r) (n :: l)
theorem mem_othersL {ns r : List Int} {x : Int} : x ∈ othersL ns r ↔ x ∈ r ∧ x ∉ ns := by
  unfold othersL
  rw [mem_ascL, List.mem_filter]
  simp
theorem pairs_pw : ∀ {l : List Int}, Asc l → (pairsOf l).Pairwise fun p q => p.2 ≤ q.1
  | [], _ => .nil
  | [_], _ => .nil
  | a :: b :: r, h => by
    obtain ⟨h1, h2⟩ := List.pairwise_cons.mp h
    have ih := pairs_pw h2
    unfold pairsOf
    refine List.pairwise_cons.mpr ⟨fun q hq => ?_, ih⟩
    obtain ⟨_, hm, _, _⟩ := pairs_asc h2 (show (q.1, q.2) ∈ pairsOf (b :: r) from hq)
    show b ≤ q.1
    rcases List.mem_cons.mp hm with e | e
    · omega
    · have := (List.pairwise_cons.mp h2).1 _ e
      omega
theorem free_pw {r : List Int} : ∀ {ps : List (Int × Int)}, ps.Pairwise (fun p q => p.2 ≤ q.1) → Asc (ps.filterMap fun p => freeIn p.1 p.2 r)
  | [], _ => .nil
  | p :: ps, h => by
    obtain ⟨h1, h2⟩ := List.pairwise_cons.mp h
    have ih := free_pw (r := r) h2
    rw [List.filterMap_cons]
    cases e : freeIn p.1 p.2 r with
    | none => exact ih
    | some x =>
      refine List.pairwise_cons.mpr ⟨fun y hy => ?_, ih⟩
      obtain ⟨q, hq, e2⟩ := List.mem_filterMap.mp hy
      obtain ⟨_, h3, _⟩ := freeIn_some e
      obtain ⟨h4, _, _⟩ := freeIn_some e2
      have := h1 q hq
      omega
theorem stretch_asc {n : Int} {l : List Int} {room : Int} (h : Asc (n :: l)) (hr : 0 < room) : Asc ((n - room - 1) :: (n :: l) ++ [(n :: l).getLast (List.cons_ne_nil _ _) + room + 1]) := by
  have q := asc_ends h (k := room + 1) (by omega)
  rw [show n - (room + 1) = n - room - 1 by omega, show (n :: l).getLast (List.cons_ne_nil _ _) + (room + 1) = (n :: l).getLast (List.cons_ne_nil _ _) + room + 1 by omega] at q
  exact q
theorem freeL_asc {ns r : List Int} (h : Asc ns) : Asc (freeL ns r) := by
  unfold freeL
  cases ns with
  | nil => exact free_pw (List.pairwise_singleton ..)
  | cons n l => exact free_pw (pairs_pw (stretch_asc h (by omega)))
theorem freeL_out {ns r : List Int} (h : Asc ns) {x : Int} (hx : x ∈ freeL ns r) : x ∉ ns ∧ x ∉ r := by
  obtain ⟨a, b, hp, hf⟩ := mem_freeL.mp hx
  obtain ⟨h1, h2, h3⟩ := freeIn_some hf
  refine ⟨?_, h3⟩
  cases ns with
  | nil => exact fun q => by cases q
  | cons n l =>
    intro q
    obtain ⟨_, _, _, k⟩ := pairs_asc (stretch_asc h (by omega)) (show (a, b) ∈ pairsOf ((n - ((r.length : Int) + 1) - 1) :: (n :: l) ++ [(n :: l).getLast (List.cons_ne_nil _ _) + ((r.length : Int) + 1) + 1]) from hp)
    have := k x (List.mem_append_left _ (List.mem_cons_of_mem _ q))
    omega
theorem spots_len {ns r : List Int} (h : Asc ns) : (spotsL ns r).length = ns.length + (othersL ns r).length + (freeL ns r).length := by
  have nd : (ns ++ (othersL ns r ++ freeL ns r)).Nodup := by
    refine List.nodup_append.mpr ⟨asc_nodup h, List.nodup_append.mpr ⟨asc_nodup (ascL_asc _), asc_nodup (freeL_asc h), ?_⟩, ?_⟩
    · intro x hx y hy e
      subst e
      exact (freeL_out h hy).2 (mem_othersL.mp hx).1
    · intro x hx y hy e
      subst e
      rcases List.mem_append.mp hy with q | q
      · exact (mem_othersL.mp q).2 hx
      · exact (freeL_out h q).1 hx
  have same : ∀ x, x ∈ spotsL ns r ↔ x ∈ ns ++ (othersL ns r ++ freeL ns r) := fun x => by
    unfold spotsL
    rw [mem_ascL]
    simp only [List.mem_append, mem_othersL]
    constructor
    · rintro (q | q | q)
      · exact .inl q
      · by_cases m : x ∈ ns
        · exact .inl m
        · exact .inr (.inl ⟨q, m⟩)
      · exact .inr (.inr q)
    · rintro (q | ⟨q, _⟩ | q)
      · exact .inl q
      · exact .inr (.inl q)
      · exact .inr (.inr q)
  have h1 := nodup_le _ _ (asc_nodup (spotsL_asc ns r)) fun x hx => (same x).mp hx
  have h2 := nodup_le _ _ nd fun x hx => (same x).mpr hx
  have e : (ns ++ (othersL ns r ++ freeL ns r)).length = ns.length + (othersL ns r).length + (freeL ns r).length := by
    rw [List.length_append, List.length_append]
    omega
  omega
theorem gap_free {ns r : List Int} {a b : Int} (hab : a < b) (hn : ∀ x ∈ ns, x ≤ a ∨ b ≤ x) : (freeIn a b r).isSome = true ↔ ((insideL (othersL ns r) a b).length : Int) < b - a - 1 := by
  have nd : (insideL (othersL ns r) a b).Nodup := (asc_nodup (ascL_asc _)).filter _
  have mem : ∀ y, y ∈ insideL (othersL ns r) a b ↔ (y ∈ r ∧ y ∉ ns) ∧ a < y ∧ y < b := fun y => by
    unfold insideL
    rw [List.mem_filter, mem_othersL]
    simp
  have bl := between_length a b
  constructor
  · intro h
    obtain ⟨x, hx⟩ := Option.isSome_iff_exists.mp h
    obtain ⟨h1, h2, h3⟩ := freeIn_some hx
    have nx : x ∉ insideL (othersL ns r) a b := fun q => h3 ((mem x).mp q).1.1
    have q := nodup_le (x :: insideL (othersL ns r) a b) (between a b) (List.nodup_cons.mpr ⟨nx, nd⟩) fun y hy => by
      rcases List.mem_cons.mp hy with e | e
      · rw [e]
        exact mem_between.mpr ⟨h1, h2⟩
      · exact mem_between.mpr ((mem y).mp e).2
    rw [List.length_cons, bl] at q
    omega
  · intro h
    rw [Option.isSome_iff_ne_none]
    intro e
    have all : ∀ y ∈ between a b, y ∈ insideL (othersL ns r) a b := fun y hy => by
      obtain ⟨h1, h2⟩ := mem_between.mp hy
      refine (mem y).mpr ⟨⟨Classical.byContradiction fun q => ?_, fun q => ?_⟩, h1, h2⟩
      · obtain ⟨x, hx⟩ := freeIn_ex h1 h2 q
        rw [e] at hx
        cases hx
      · have := hn y q
        omega
    have q := nodup_le _ _ (between_nodup a b) all
    rw [bl] at q
    omega
theorem pairs_snoc : ∀ (n : Int) (l : List Int) (y : Int), pairsOf ((n :: l) ++ [y]) = pairsOf (n :: l) ++ [((n :: l).getLast (List.cons_ne_nil _ _), y)]
  | n, [], y => rfl
  | n, m :: l, y => by
    show (n, m) :: pairsOf ((m :: l) ++ [y]) = ((n, m) :: pairsOf (m :: l)) ++ _
    rw [pairs_snoc m l y]
    rfl
theorem fm_some {r : List Int} {p : Int × Int} {z : Int} {ps : List (Int × Int)} (e : freeIn p.1 p.2 r = some z) : (p :: ps).filterMap (fun p => freeIn p.1 p.2 r) = z :: ps.filterMap fun p => freeIn p.1 p.2 r := by
  rw [List.filterMap_cons, e]
theorem fm_none {r : List Int} {p : Int × Int} {ps : List (Int × Int)} (e : freeIn p.1 p.2 r = none) : (p :: ps).filterMap (fun p => freeIn p.1 p.2 r) = ps.filterMap fun p => freeIn p.1 p.2 r := by
  rw [List.filterMap_cons, e]
theorem gaps_len {ns r : List Int} : ∀ {l : List Int}, Asc l → (∀ a b, (a, b) ∈ pairsOf l → ∀ x ∈ ns, x ≤ a ∨ b ≤ x) → ((pairsOf l).filterMap fun p => freeIn p.1 p.2 r).length = gapsL (othersL ns r) l
  | [], _, _ => rfl
  | [_], _, _ => rfl
  | a :: b :: l, h, k => by
    have ih := gaps_len (ns := ns) (r := r) (List.pairwise_cons.mp h).2 fun c d hcd => k c d (List.mem_cons_of_mem _ hcd)
    have hab : a < b := (List.pairwise_cons.mp h).1 b List.mem_cons_self
    have g := gap_free (r := r) hab (k a b List.mem_cons_self)
    show (((a, b) :: pairsOf (b :: l)).filterMap fun p => freeIn p.1 p.2 r).length = (if ((insideL (othersL ns r) a b).length : Int) < b - a - 1 then 1 else 0) + gapsL (othersL ns r) (b :: l)
    rw [← ih]
    cases e : freeIn a b r with
    | none =>
      rw [e] at g
      rw [if_neg (fun q => by have := g.mpr q; cases this), fm_none (p := (a, b)) e]
      exact (Nat.zero_add _).symm
    | some x =>
      rw [e] at g
      rw [if_pos (g.mp rfl), fm_some (p := (a, b)) e, List.length_cons]
      exact Nat.add_comm _ _
theorem free_end {a b : Int} {r : List Int} (h : (r.length : Int) < b - a - 1) : ∃ x, freeIn a b r = some x := free_room h
theorem count_eq {ns r : List Int} (h : Asc ns) : (spotsL ns r).length = countL ns r := by
  rw [spots_len h]
  cases ns with
  | nil =>
    obtain ⟨x, hx⟩ := free_end (a := 0) (b := (r.length : Int) + 1 + 1) (r := r) (by omega)
    have e : freeL [] r = [x] := by
      unfold freeL
      show ([((0 : Int), (r.length : Int) + 1 + 1)].filterMap fun p => freeIn p.1 p.2 r) = [x]
      rw [fm_some (p := (0, (r.length : Int) + 1 + 1)) hx]
      rfl
    rw [e]
    show 0 + _ + 1 = _ + 1
    omega
  | cons n l =>
    have hl : (freeL (n :: l) r).length = 2 + gapsL (othersL (n :: l) r) (n :: l) := by
      unfold freeL stretchL
      show ((pairsOf ((n - ((r.length : Int) + 1) - 1) :: ((n :: l) ++ [(n :: l).getLast (List.cons_ne_nil _ _) + ((r.length : Int) + 1) + 1]))).filterMap fun p => freeIn p.1 p.2 r).length = _
      have e1 : pairsOf ((n - ((r.length : Int) + 1) - 1) :: ((n :: l) ++ [(n :: l).getLast (List.cons_ne_nil _ _) + ((r.length : Int) + 1) + 1])) = (n - ((r.length : Int) + 1) - 1, n) :: (pairsOf (n :: l) ++ [((n :: l).getLast (List.cons_ne_nil _ _), (n :: l).getLast (List.cons_ne_nil _ _) + ((r.length : Int) + 1) + 1)]) := by
        rw [← pairs_snoc]
        rfl
      rw [e1]
      obtain ⟨x, hx⟩ := free_end (a := n - ((r.length : Int) + 1) - 1) (b := n) (r := r) (by omega)
      obtain ⟨y, hy⟩ := free_end (a := (n :: l).getLast (List.cons_ne_nil _ _)) (b := (n :: l).getLast (List.cons_ne_nil _ _) + ((r.length : Int) + 1) + 1) (r := r) (by omega)
      have g := gaps_len (ns := n :: l) (r := r) h fun a b hab x hx => (pairs_asc h hab).2.2.2 x hx
      rw [fm_some (p := (n - ((r.length : Int) + 1) - 1, n)) hx, List.filterMap_append, List.length_cons, List.length_append, g, fm_some (p := (_, _)) hy]
      show gapsL _ _ + 1 + 1 = 2 + gapsL _ _
      omega
    rw [hl]
    show _ + _ + (2 + _) = _ + _ + 2 + _
    omega
theorem gaps_snoc (os : List Int) (a b : Int) : ∀ p : List Int, gapsL os (p ++ [a, b]) = gapsL os (p ++ [a]) + (if ((insideL os a b).length : Int) < b - a - 1 then 1 else 0)
  | [] => by
    show (if ((insideL os a b).length : Int) < b - a - 1 then 1 else 0) + 0 = 0 + (if ((insideL os a b).length : Int) < b - a - 1 then 1 else 0)
    omega
  | [c] => by
    show (if ((insideL os c a).length : Int) < a - c - 1 then 1 else 0) + ((if ((insideL os a b).length : Int) < b - a - 1 then 1 else 0) + 0) = ((if ((insideL os c a).length : Int) < a - c - 1 then 1 else 0) + 0) + (if ((insideL os a b).length : Int) < b - a - 1 then 1 else 0)
    omega
  | c :: d :: p => by
    have ih := gaps_snoc os a b (d :: p)
    show (if ((insideL os c d).length : Int) < d - c - 1 then 1 else 0) + gapsL os (d :: p ++ [a, b]) = ((if ((insideL os c d).length : Int) < d - c - 1 then 1 else 0) + gapsL os (d :: p ++ [a])) + _
    rw [ih]
    omega
theorem gaps_take {os ns : List Int} {k : Nat} {a b : Int} (ha : ns[k]? = some a) (hb : ns[k + 1]? = some b) : gapsL os (ns.take (k + 2)) = gapsL os (ns.take (k + 1)) + (if ((insideL os a b).length : Int) < b - a - 1 then 1 else 0) := by
  rw [take_snoc hb, take_snoc ha, List.append_assoc]
  exact gaps_snoc os a b _
theorem gaps_one (os : List Int) (n : Int) (l : List Int) : gapsL os ((n :: l).take 1) = 0 := rfl
def spCount : Sp := fun vs H Q _ => ∃ (v : V) (l : Addr) (r ns : List Int), vs = [v, .ref l] ∧ IntT H v r ∧ H l = some (.lst (ns.map V.int)) ∧ r.length ≤ 3 ∧ ns.length ≤ 4 ∧ ∀ H', Same H H' → Q (.int (countL ns r : Nat)) H'
end Own

namespace Own
open PySem PySem.Spec PyProof.Rows L2
/-! ### data that may be shown, with long integers -/
structure Shw (d : PyData) : Prop where
  lay : d.canLay0 = true
  dep : d.depth ≤ 3
  sh : d.showable = true
  nd : d.hasDict = false
  sz : d.shown.length ≤ 700
theorem shw_int {i : Int} (h : i.natAbs < 10 ^ 202) : Shw (.int i) := by
  refine ⟨by simp only [PyData.canLay0], by simp only [PyData.depth]; omega, ?_, by simp only [PyData.hasDict], ?_⟩
  · simp only [PyData.showable, decide_eq_true_eq]
    by_cases z : i.natAbs = 0
    · rw [z]
      decide
    · have e : (10 : Nat) ^ 202 ≤ 2 ^ 1920 := by decide +kernel
      exact (Nat.log2_lt z).mpr (Nat.lt_of_lt_of_le h e)
  · have e := int_text_length_le10 (k := 202) (by decide) h
    show (Str.ofString (toString i)).length ≤ 700
    rw [PySem.ofString_length]
    omega
theorem shw_nice {d : PyData} (h : Nice d) : Shw d := ⟨h.lay, h.dep, h.sh, h.nd, Nat.le_trans h.sz (by decide)⟩
theorem shw_all : ∀ {ds : List PyData}, (∀ d ∈ ds, Shw d) → PyData.canLayAll0 ds = true ∧ PyData.depthAll ds ≤ 3 ∧ PyData.showableAll ds = true ∧ PyData.hasDictAll ds = false ∧ ((PyData.shownAll ds).map (·.length)).sum ≤ 700 * ds.length ∧ (PyData.shownAll ds).length = ds.length
  | [], _ => ⟨by simp only [PyData.canLayAll0], by simp only [PyData.depthAll]; omega, by simp only [PyData.showableAll], by simp only [PyData.hasDictAll], by simp [PyData.shownAll], by simp [PyData.shownAll]⟩
  | d :: r, h => by
    have hd := h d List.mem_cons_self
    obtain ⟨g1, g2, g3, g4, g5, g6⟩ := shw_all (ds := r) fun x hx => h x (List.mem_cons_of_mem _ hx)
    have k1 := hd.dep
    have k2 := hd.sz
    refine ⟨by simp only [PyData.canLayAll0, hd.lay, g1, Bool.and_self], by simp only [PyData.depthAll]; omega, by simp only [PyData.showableAll, hd.sh, g3, Bool.and_self], by simp only [PyData.hasDictAll, hd.nd, g4, Bool.or_self], ?_, by simp only [PyData.shownAll, List.length_cons, g6]⟩
    simp only [PyData.shownAll, List.map_cons, List.sum_cons, List.length_cons]
    omega
theorem shw_list {ds : List PyData} (h : ∀ d ∈ ds, Shw d) (hl : ds.length ≤ 100) : SeqAt.shaped (.list ds) = true ∧ (PyData.list ds).showable = true ∧ (PyData.list ds).hasDict = false ∧ (PyData.list ds).depth ≤ 60 ∧ (PyData.list ds).shown.length ≤ sizeLine := by
  obtain ⟨g1, g2, g3, g4, g5, g6⟩ := shw_all h
  refine ⟨?_, by simp only [PyData.showable, g3], by simp only [PyData.hasDict, g4], by simp only [PyData.depth]; omega, ?_⟩
  · unfold SeqAt.shaped
    simp only [PyData.canLay0, PyData.depth, g1, Bool.true_and]
    exact decide_eq_true (by omega)
  · simp only [PyData.shown]
    have q := listText_len_le (PyData.shownAll ds)
    refine Nat.le_trans q ?_
    rw [sizeLine_eq, g6]
    omega
theorem ints_show {ns : List Int} (h : ∀ n ∈ ns, n.natAbs < 10 ^ 202) (hl : ns.length ≤ 100) : SeqAt.shaped (.list (ns.map PyData.int)) = true ∧ (PyData.list (ns.map PyData.int)).showable = true ∧ (PyData.list (ns.map PyData.int)).hasDict = false ∧ (PyData.list (ns.map PyData.int)).depth ≤ 60 ∧ (PyData.list (ns.map PyData.int)).shown.length ≤ sizeLine :=
  shw_list (fun d hd => by
    obtain ⟨n, hn, rfl⟩ := List.mem_map.mp hd
    exact shw_int (h n hn)) (by rw [List.length_map]; exact hl)
/-! ### the spots stay near -/
theorem freeL_near {ns r : List Int} (h : Asc ns) (hr : r.length ≤ 10) (hn : ∀ n ∈ ns, n.natAbs < 10 ^ 201) {x : Int} (hx : x ∈ freeL ns r) : x.natAbs < 10 ^ 202 := by
  obtain ⟨a, b, hp, hf⟩ := mem_freeL.mp hx
  obtain ⟨h1, h2, _⟩ := freeIn_some hf
  have e10 : (10 : Nat) ^ 202 = 10 ^ 201 * 10 := Nat.pow_succ ..
  have e11 : (1000 : Nat) ≤ 10 ^ 201 := by decide +kernel
  generalize (10 : Nat) ^ 201 = BB at *
  rw [e10]
  cases ns with
  | nil =>
    have e : (a, b) = ((0 : Int), (r.length : Int) + 1 + 1) := List.mem_singleton.mp hp
    cases e
    omega
  | cons n l =>
    have near : ∀ y ∈ ((n - ((r.length : Int) + 1) - 1) :: (n :: l) ++ [(n :: l).getLast (List.cons_ne_nil _ _) + ((r.length : Int) + 1) + 1]), y.natAbs < BB + 20 := fun y hy => by
      rcases List.mem_append.mp hy with hy | hy
      · rcases List.mem_cons.mp hy with e | hy
        · have := hn n List.mem_cons_self
          rw [e]
          omega
        · have := hn y hy
          omega
      · rw [List.mem_singleton.mp hy]
        have := hn _ (List.getLast_mem (List.cons_ne_nil n l))
        omega
    have pm : ∀ {L : List Int} {a b : Int}, (a, b) ∈ pairsOf L → a ∈ L ∧ b ∈ L := by
      intro L
      induction L with
      | nil => intro a b h; cases h
      | cons c L ih =>
        intro a b h
        cases L with
        | nil => cases h
        | cons d L =>
          rcases List.mem_cons.mp h with e | h
          · cases e
            exact ⟨List.mem_cons_self, List.mem_cons_of_mem _ List.mem_cons_self⟩
          · obtain ⟨q1, q2⟩ := ih h
            exact ⟨List.mem_cons_of_mem _ q1, List.mem_cons_of_mem _ q2⟩
    obtain ⟨q1, q2⟩ := pm (show (a, b) ∈ pairsOf ((n - ((r.length : Int) + 1) - 1) :: (n :: l) ++ [(n :: l).getLast (List.cons_ne_nil _ _) + ((r.length : Int) + 1) + 1]) from hp)
    have k1 := near a q1
    have k2 := near b q2
    omega
theorem spots_near {ns r : List Int} (h : Asc ns) (hr : r.length ≤ 10) (hn : ∀ n ∈ ns, n.natAbs < 10 ^ 201) (hrB : ∀ n ∈ r, n.natAbs < 10 ^ 201) : ∀ x ∈ spotsL ns r, x.natAbs < 10 ^ 202 := fun x hx => by
  have e : (10 : Nat) ^ 201 ≤ 10 ^ 202 := Nat.pow_le_pow_right (by decide) (by decide)
  unfold spotsL at hx
  rw [mem_ascL, List.mem_append, List.mem_append] at hx
  rcases hx with q | q | q
  · exact Nat.lt_of_lt_of_le (hn x q) e
  · exact Nat.lt_of_lt_of_le (hrB x q) e
  · exact freeL_near h hr hn q
/-! ### the view of one integer beside a row -/
def eqJ (x v : Int) : Int := if x = v then 3 else 4
def viewI (ns r : List Int) (x : Int) : List Int := ns.map (cmpI x) ++ r.map (eqJ x)
theorem viewI_iff (ns r : List Int) (x y : Int) : viewI ns r x = viewI ns r y ↔ Alike ns r x y := by
  unfold viewI
  constructor
  · intro q
    obtain ⟨q1, q2⟩ := List.append_inj q (by rw [List.length_map, List.length_map])
    refine ⟨(cmp_side ns x y).mp q1, fun p hp => ?_⟩
    have e : eqJ x p = eqJ y p := (List.map_inj_left.mp q2) p hp
    unfold eqJ at e
    constructor
    · intro h
      rw [if_pos h] at e
      exact Classical.byContradiction fun n => by rw [if_neg n] at e; cases e
    · intro h
      rw [if_pos h] at e
      exact Classical.byContradiction fun n => by rw [if_neg n] at e; cases e
  · intro h
    rw [(cmp_side ns x y).mpr h.1]
    congr 1
    refine List.map_inj_left.mpr fun p hp => ?_
    unfold eqJ
    simp only [h.2 p hp]
def spViewI (K : PySem.W.Frag) : Sp := fun vs H Q _ => ∃ (x : Int) (v : V) (l : Addr) (r ns : List Int), vs = [.int x, v, .ref l] ∧ IntT H v r ∧ H l = some (.lst (ns.map V.int)) ∧ r.length ≤ 3 ∧ ns.length ≤ 4 ∧
  ∀ (t : Addr) (H' : Hp), Same H H' → H t = none → H' t = some (.lst ((viewI ns r x).map V.int)) → Q (.ref t) H'
theorem eqv_intL (xs ys : List Int) : PyData.eqv (.list (xs.map PyData.int)) (.list (ys.map PyData.int)) = decide (xs = ys) := by
  rw [← eqvAll_ints]
  simp only [PyData.eqv]
theorem filter_none {p : Int → Bool} : ∀ {l : List Int}, (∀ y ∈ l, p y = false) → l.filter p = []
  | [], _ => rfl
  | y :: l, h => by
    rw [List.filter_cons_of_neg (by rw [h y List.mem_cons_self]; exact nofun)]
    exact filter_none fun z hz => h z (List.mem_cons_of_mem _ hz)
theorem filter_one {p : Int → Bool} {s : Int} : ∀ {l : List Int}, l.Nodup → s ∈ l → (∀ y ∈ l, p y = true ↔ y = s) → l.filter p = [s]
  | [], _, h, _ => by cases h
  | y :: l, nd, hs, h => by
    obtain ⟨n1, n2⟩ := List.nodup_cons.mp nd
    by_cases e : y = s
    · subst e
      rw [List.filter_cons_of_pos ((h y List.mem_cons_self).mpr rfl), filter_none fun z hz => ?_]
      rw [← Bool.not_eq_true]
      intro q
      have := (h z (List.mem_cons_of_mem _ hz)).mp q
      exact n1 (this ▸ hz)
    · rw [List.filter_cons_of_neg (fun q => e ((h y List.mem_cons_self).mp q))]
      exact filter_one n2 ((List.mem_cons.mp hs).resolve_left fun q => e q.symm) fun z hz => h z (List.mem_cons_of_mem _ hz)
/-- the spot that an integer is alike to -/
theorem spots_one {ns r : List Int} (h : Asc ns) (x : Int) : ∃ s, s ∈ spotsL ns r ∧ Alike ns r x s ∧ ∀ y ∈ spotsL ns r, Alike ns r x y → y = s := by
  obtain ⟨s, h1, h2, h3⟩ := spot_one h (r := r) x
  exact ⟨s, mem_spotsL.mpr h1, h2, fun y hy => h3 y (mem_spotsL.mp hy)⟩
theorem Alike.symm {ns r : List Int} {x y : Int} (h : Alike ns r x y) : Alike ns r y x := (viewI_iff ns r y x).mp ((viewI_iff ns r x y).mpr h).symm
end Own

namespace K06
open PySem PySem.Spec PyProof.Rows L2 Own
def top (i : Nat) : Stmt := PySem.Challenge.pw_emptyfilters_k06_integers_beside_rows.main.body.getD i (.Pass ⟨0, 0, 0, 0⟩)
abbrev s_wall : Stmt := top 0
abbrev s_place : Stmt := top 2
abbrev s_equals : Stmt := top 3
abbrev s_stretches : Stmt := top 4
abbrev s_free_spots : Stmt := top 5
abbrev s_spots_beside : Stmt := top 6
abbrev s_Kindsinit : Stmt := inClass (top 7) 0
abbrev s_Kindslen : Stmt := inClass (top 7) 1
abbrev s_Kinds_each : Stmt := inClass (top 7) 2
abbrev s_Kinds_same : Stmt := inClass (top 7) 3
abbrev s_Kinds_alike : Stmt := inClass (top 7) 4
abbrev s_Kinds_spots : Stmt := inClass (top 7) 5
abbrev s_is_integer : Stmt := top 11
abbrev s_is_word : Stmt := top 12
abbrev s_copied : Stmt := top 13
abbrev s_BadTableinit : Stmt := inClass (top 16) 0
abbrev s_first_bad : Stmt := top 19
abbrev s_Tableinit : Stmt := inClass (top 20) 0
abbrev s_Tablelen : Stmt := inClass (top 20) 1
abbrev s_Tablecontains : Stmt := inClass (top 20) 2
abbrev s_Tableeq : Stmt := inClass (top 20) 3
abbrev s_Tablerepr : Stmt := inClass (top 20) 4
abbrev s_law_bag : Stmt := top 22
abbrev s_law_take : Stmt := top 23
abbrev s_law_of : Stmt := top 24
abbrev s_law_long : Stmt := top 25
abbrev s_law_numbers : Stmt := top 26
abbrev s_law_row : Stmt := top 27
abbrev s_law_view : Stmt := top 28
abbrev s_law_count : Stmt := top 29
abbrev s_law : Stmt := top 30
abbrev FnP (K : PySem.W.Frag) (x : Str) (st : Stmt) (f : Addr) (fd : FuncData) : Prop := FunD K x x (defArgs st) (defBody st) (defScope st) [] [] f fd
abbrev FnM (K : PySem.W.Frag) (x q : Str) (st : Stmt) (f : Addr) (fd : FuncData) : Prop := FunD K x q (defArgs st) (defBody st) (defScope st) [] [] f fd
structure Txt (K : PySem.W.Frag) (mg : Str → Option Value) (aK : Addr) : Prop extends Free mg where
  g_KEPT : mg "KEPT" = some (.ref aK)
  s_KEPT : ∀ H, SqT K H aK (keptL.map V.str)
  g_WORD_LETTERS : ∃ t, mg "WORD_LETTERS" = some (.int 8 t)
  g_MOST_COLUMNS : ∃ t, mg "MOST_COLUMNS" = some (.int 3 t)
structure TxK (K : PySem.W.Frag) (C : Addr) : Prop where
  cl : Cls K C
  nN : NoAttr K C "numbers"
  nR : NoAttr K C "_rows"
structure TxC (K : PySem.W.Frag) (C : Addr) : Prop where
  cl : Cls K C
  nC : NoAttr K C "columns"
section
variable {P : Program} {w : World} {K : PySem.W.Frag} {mg : Str → Option Value} {base : Heap} {f C : Addr} {fd : FuncData}
theorem sc_law_take : FnScope ["bag", "many", "digit"] ["bag", "many"] (defScope s_law_take) := ⟨rfl, rfl, rfl, by decide +kernel, rfl, by decide +kernel, by decide +kernel⟩
theorem ok_take (F : FnP K "_law_take" s_law_take f fd) (T : Free mg) : FnOk P w K mg base CX0 1 f fd ["bag", "many"] spTake := by
  refine F.ok sc_law_take (fun vs H Q E h => ?_) (fun cdv A outer s H vs Q E hr h => ⟨_, PSs.nox (pss_cons (ps_if (pt_cmpR op_gt (pe_ix ix_list (pv 0) pe_int (fun _ _ => rfl)) pe_int (nomark _))
 (pss_cons (ps_set (i := 2) sc_law_take.nd rfl (Or.inl rfl) (pe_op op_mod (pe_callTy call_int1 (by rfl) T.int boot_int (pa_cons (pe_ix ix_list (pv 0) pe_int (fun _ _ => rfl)) pa_nil)) (pv 1)))
 (pss_cons (ps_asg (pe_op op_fdiv (pe_ix ix_list (pv 0) pe_int (fun _ _ => rfl)) (pv 1)) (pg_sub (pv 0) pe_int set_list))
 (pss_one (ps_ret (pv 2)))))
 pss_nil)
 (pss_cons (ps_asg (pe_op op_mod (pe_callTy call_int1 (by rfl) T.int boot_int (pa_cons (pe_op op_add (pe_op op_mul (pe_ix ix_list (pv 0) pe_int (fun _ _ => rfl)) pe_int) pe_int) pa_nil)) pe_int) (pg_sub (pv 0) pe_int set_list))
 (pss_one (ps_ret (pe_op op_mod (pe_op op_fdiv (pe_op op_mod (pe_callTy call_int1 (by rfl) T.int boot_int (pa_cons (pe_op op_mul (pe_op op_fdiv (pe_ix ix_list (pv 0) pe_int (fun _ _ => rfl)) pe_int) pe_int) pa_nil)) pe_int) pe_int) (pv 1)))))), ?_⟩)
  · obtain ⟨b, m, rfl, _⟩ := h
    rfl
  · obtain ⟨b, m, rfl, ⟨x, y, hb, hx, hy⟩, hm, hm2, k⟩ := h
    refine ⟨_, rfl, b, _, 0, _, rfl, rfl, SqL.of hb, rfl, _, _, rfl, rfl, _, rfl, ?_⟩
    refine ite2 (fun hgt => ?_) (fun hle => ?_)
    · have hx0 : 0 < x := of_decide_eq_true hgt
      refine ⟨_, rfl, b, _, 0, _, rfl, rfl, SqL.of hb, rfl, .inl ⟨_, rfl, ?_⟩⟩
      refine ⟨_, rfl, _, _, rfl, rfl, hm, ?_⟩
      refine ⟨_, rfl, b, _, 0, _, rfl, rfl, SqL.of hb, rfl, _, rfl, _, _, rfl, rfl, ⟨hm, hm2⟩, ?_⟩
      refine ⟨_, rfl, b, _, 0, 0, rfl, rfl, hb, rfl, ?_⟩
      refine ⟨_, rfl, k _ _ (Int.emod_nonneg _ (by omega)) (Int.emod_lt_of_pos _ hm) (But.put But.refl) ⟨_, _, upd_same, Int.ediv_nonneg hx (by omega), hy⟩⟩
    · refine ⟨_, rfl, b, _, 1, _, rfl, rfl, SqL.of hb, rfl, _, _, rfl, rfl, .inr ⟨by decide, by decide⟩, _, _, rfl, rfl, .inl ⟨_, rfl, _, _, rfl, rfl, (by show (0 : Int) < _; decide), ?_⟩⟩
      refine ⟨_, rfl, b, _, 1, 1, rfl, rfl, hb, rfl, ?_⟩
      refine ⟨_, rfl, b, _, 1, _, rfl, rfl, SqL.of upd_same, rfl, _, _, rfl, rfl, ⟨by decide, by decide⟩, _, _, rfl, rfl, .inr ⟨by decide, by decide⟩, .inl ⟨_, rfl, _, _, rfl, rfl, (by show (0 : Int) < _; decide), ?_⟩⟩
      refine ⟨_, _, rfl, rfl, ⟨by decide, by decide⟩, _, rfl, _, _, rfl, rfl, hm, ?_⟩
      refine k _ _ (Int.emod_nonneg _ (by omega)) (Int.emod_lt_of_pos _ hm) (But.put But.refl) ⟨_, _, upd_same, hx, Int.emod_nonneg _ (by decide)⟩
theorem sc_law_of : FnScope ["bag", "some"] ["bag", "some"] (defScope s_law_of) := ⟨rfl, rfl, rfl, by decide +kernel, rfl, by decide +kernel, by decide +kernel⟩
theorem ok_of {ft : Addr} {fdt : FuncData} (F : FnP K "_law_of" s_law_of f fd) (T : Free mg) (c_law_take : Cal P w K mg base CX0 1 "_law_take" ft fdt ["bag", "many"] spTake) : FnOk P w K mg base CX0 2 f fd ["bag", "some"] (spOf K) := by
  refine F.ok sc_law_of (fun vs H Q E h => ?_) (fun cdv A outer s H vs Q E hr h => ⟨_, PSs.nox (pss_one (ps_ret (pe_ix ix_list (pv 1) (pe_cal c_law_take (hr.mono (by decide)) (pa_cons (pv 0) (pa_cons (pe_callB call_len_seq (by rfl) T.len boot_len (pa_cons (pv 1) pa_nil)) pa_nil))) (fun _ _ => rfl)))), ?_⟩)
  · obtain ⟨b, l, xs, rfl, _⟩ := h
    rfl
  · obtain ⟨b, l, xs, rfl, hb, hne, hl, hx, hlen, k⟩ := h
    have hpos : 0 < xs.length := List.length_pos_iff.mpr hx
    refine ⟨_, rfl, _, rfl, _, rfl, l, _, rfl, .inl hl, b, _, rfl, hb, by omega, by omega, fun d H' h0 h1 hB hb' => ?_⟩
    refine ⟨l, xs, d, xs[d.toNat]'(by omega), rfl, rfl, hB.list hne hl, ?_, ?_⟩
    · exact at_of (j := d.toNat) (by omega) (List.getElem?_eq_getElem _)
    · exact k _ _ (List.getElem_mem _) hB hb'
theorem sc_law_bag : FnScope ["script", "at", "cell", "mixed", "k", "each"] ["script", "at"] (defScope s_law_bag) := ⟨rfl, rfl, rfl, by decide +kernel, rfl, by decide +kernel, by decide +kernel⟩
theorem ok_bag (F : FnP K "_law_bag" s_law_bag f fd) (T : Free mg) : FnOk P w K mg base CX0 1 f fd ["script", "at"] (spBag K) := by
  refine F.ok sc_law_bag (fun vs H Q E h => ?_) (fun cdv A outer s H vs Q E hr h => ⟨_, PSs.nox (pss_cons (ps_set (i := 2) sc_law_bag.nd rfl (Or.inl rfl) (pe_ifExp (pt_cmpR op_lt (pv 1) (pe_callB call_len_seq (by rfl) T.len boot_len (pa_cons (pv 0) pa_nil)) (nomark _)) (pe_ix ix_list (pv 0) (pv 1) (fun _ _ => rfl)) pe_int))
 (pss_cons (ps_set (i := 3) sc_law_bag.nd rfl (Or.inl rfl) (pe_op op_add (pe_op op_mul pe_int (pv 1)) pe_int))
 (pss_cons (ps_for PassesOwn.never rfl (pi_enum (by rfl) T.enumerate (pa_cons (pe_slice sl_list (pv 0) po_none (po_some pe_int)) pa_nil)) (pg_tup rfl (pgs_cons (pg_name (i := 4) sc_law_bag.nd rfl (Or.inl rfl)) (pgs_cons (pg_name (i := 5) sc_law_bag.nd rfl (Or.inl rfl)) pgs_nil)))
 (pss_one (ps_set (i := 3) sc_law_bag.nd rfl (Or.inl rfl) (pe_op op_mod (pe_callTy call_int1 (by rfl) T.int boot_int (pa_cons (pe_op op_add (pe_op op_add (pe_op op_mul (pv 3) pe_int) (pe_op op_mod (pe_callTy call_int1 (by rfl) T.int boot_int (pa_cons (pv 5) pa_nil)) pe_int)) (pe_op op_mul pe_int (pv 4))) pa_nil)) pe_int))))
 (pss_one (ps_ret (pe_lst (pa_cons (pe_ifExp (pt_cmpR op_ge (pe_callB call_abs (by rfl) T.abs boot_abs (pa_cons (pv 2) pa_nil)) (pe_op op_pow pe_int pe_int) (nomark _)) (pe_callB call_abs (by rfl) T.abs boot_abs (pa_cons (pv 2) pa_nil)) pe_int) (pa_cons (pv 3) pa_nil)))))))), ?_⟩)
  · obtain ⟨a, ns, n, rfl, _⟩ := h
    rfl
  · obtain ⟨a, ns, n, rfl, hS, hlen, hn, k⟩ := h
    refine ⟨_, rfl, _, rfl, a, _, rfl, .inl hS, _, _, rfl, rfl, _, rfl, ?_⟩
    refine' pick (α := Int) ?main ?rest
    case main =>
      intro go
      refine ite2 (fun hlt => ?_) (fun _ => ?_)
      have hlt2 : n < ns.length := by
        have q := of_decide_eq_true hlt
        rw [len_ints] at q
        omega
      obtain ⟨u, hu⟩ : ∃ u, ns[n]? = some u := ⟨_, List.getElem?_eq_getElem hlt2⟩
      exact ⟨_, rfl, _, rfl, a, _, _, V.int u, rfl, rfl, hS, at_of rfl (by rw [List.getElem?_map, hu]; rfl), go u⟩
      exact go 0
    case rest =>
      intro c
      refine ⟨_, rfl, _, _, rfl, rfl, .inl ⟨by decide, by decide⟩, _, _, rfl, rfl, ?_⟩
      refine ⟨_, rfl, _, rfl, a, _, rfl, hS, fun p np => ⟨p, _, rfl, SqL.of upd_same, ?_⟩⟩
      refine for_it (walk_enum (xs := cutV (ns.map V.int) none (some 63))) (fun _ σ H' => ∃ (m : Int) (kv ev : Option V), σ = [some (.ref a), some (.int n), some (.int c), some (.int m), kv, ev] ∧ Same (upd H p (.lst (cutV (ns.map V.int) none (some 63)))) H' ∧ 0 ≤ m)
        ⟨_, none, none, rfl, Same.refl _, by omega⟩ (fun i σ H' _ ⟨m, kv, ev, _, R, _⟩ => SqL.of (R _ _ upd_same)) ?_ ?_
      · rintro i x σ H1 H2 hi ⟨m, kv, ev, rfl, R, hm⟩ ⟨t, k1, x1, rfl, nt, rfl, hk, hx⟩
        cases hk
        obtain ⟨u, rfl⟩ := int_of_mem (mem_cut (List.mem_of_getElem? hx))
        refine ⟨t, _, rfl, .inl (.inl upd_same), rfl, ?_⟩
        refine ⟨_, _, rfl, _, _, rfl, rfl, ?_⟩
        refine ⟨_, rfl, _, _, rfl, rfl, .inr ⟨by decide, by decide⟩, _, rfl, .inl ⟨_, rfl, _, _, rfl, rfl, (by show (0 : Int) < _; decide), _, _, rfl, rfl, _, rfl, _, _, rfl, rfl, .inl ⟨by decide, by decide⟩, _, _, rfl, rfl, .inl ⟨_, rfl, _, _, rfl, rfl, (by show (0 : Int) < _; decide), ?_⟩⟩⟩
        exact ⟨_, _, _, rfl, same_new R nt, Int.emod_nonneg _ (by decide)⟩
      · rintro σ H' ⟨m, kv, ev, rfl, R, hm⟩
        refine ⟨_, rfl, _, rfl, _, _, rfl, rfl, ⟨by decide, by decide, by decide⟩, _, _, rfl, rfl, _, rfl, ?_⟩
        refine' pickP (α := Int) (fun z => 0 ≤ z) ?main2 ?rest2
        case main2 =>
          intro go
          refine ite2 (fun _ => ?_) (fun _ => ?_)
          obtain ⟨u, hu, e⟩ : ∃ u, 0 ≤ u ∧ u = (if c < 0 then -c else c) := ⟨_, abs_nn c, rfl⟩
          refine ⟨_, rfl, _, rfl, ?_⟩
          rw [← e]
          exact go u hu
          exact go 0 (by omega)
        case rest2 =>
          intro x hx
          refine ⟨_, rfl, (by show 2 ≤ sizeLine; decide), fun b nb => ?_⟩
          exact k b _ (same_new ((same_newH np).trans R) nb) ((same_newH np).free (R.free nb)) ⟨_, _, upd_same, hx, hm⟩

theorem sc_is_word : FnScope ["thing", "letter"] ["thing"] (defScope s_is_word) := ⟨rfl, rfl, rfl, by decide +kernel, rfl, by decide +kernel, by decide +kernel⟩
theorem ok_is_word {aK : Addr} (F : FnP K "is_word" s_is_word f fd) (T : Txt K mg aK) : FnOk P w K mg base CX0 1 f fd ["thing"] spIsWord := by
  refine F.ok sc_is_word (fun vs H Q E h => ?_) (fun cdv A outer s H vs Q E hr h => ⟨_, PSs.nox (pss_cons (ps_if (PW.pt (pw_or (pt_not (pt_val (pe_callB call_isi (by rfl) T.isinstance boot_isinstance (pa_cons (pv 0) (pa_cons (pe_bltn (v := .ty "str") (by rfl) T.str boot_str rfl) pa_nil))))) (pw_or1 (pt_cmpR op_in_seq (pv 0) (pe_glob (v := .ref _) (by rfl) T.g_KEPT rfl) (by rfl)))))
 (pss_one (ps_ret pe_bl))
 pss_nil)
 (pss_one (ps_ret (pe_and (pe_chain op_le op_le pe_int (pe_callB call_len_str (by rfl) T.len boot_len (pa_cons (pv 0) pa_nil)) (pe_gint (by rfl) T.g_WORD_LETTERS)) (pe_one (pe_callB (cr_all rfl) (by rfl) T.all boot_all (pa_cons (pe_lc (own := [("letter", 1)]) rfl sc_is_word.nd (pi_str (pv 0)) (blkOk_by (N := ["thing", "letter"]) (sc := defScope s_is_word) (by decide +kernel)) (fun _ _ _ _ _ => (pg_name (i := 1) sc_is_word.nd rfl (Or.inl rfl))) (fun _ _ _ _ _ => pts_nil) (fun _ _ _ _ _ => (pe_chain op_le_str op_le_str pe_str (pv 1) pe_str))) pa_nil))))))), ?_⟩)
  · obtain ⟨v, t, rfl, _⟩ := h
    rfl
  · obtain ⟨v, t, rfl, ht, hz, k⟩ := h
    refine ⟨_, rfl, _, _, _, _, _, rfl, .ty _, kd_ok ht, kit_str t, _, rfl, ?_⟩
    by_cases e : t = .str
    · subst e
      obtain ⟨z, rfl⟩ := kd_str ht
      have hlen := hz z rfl
      refine iteNS rfl ?_
      refine ⟨_, rfl, aK, keptL.map V.str, rfl, .inr (T.s_KEPT _), rfl, Own.flat_strs _, _, rfl, ?_⟩
      refine ite2 (fun h1 => ?_) (fun h1 => ?_)
      · have h2 : inV (.str z) (keptL.map V.str) = true := h1
        have q : Q (V.bl (wordB z)) H := k H (Same.refl H)
        unfold wordB at q
        rw [h2] at q
        exact q
      · have h2 : inV (.str z) (keptL.map V.str) = false := by
          rw [← Bool.not_eq_true]
          exact h1
        have k0 : ∀ H', Same H H' → Q (V.bl (wordB z)) H' := k
        unfold wordB at k0
        rw [h2] at k0
        have k2 : ∀ H', Same H H' → Q (V.bl ((decide ((1 : Int) ≤ (z.length : Nat)) && decide (((z.length : Nat) : Int) ≤ 8)) && z.cps.toList.all lowB)) H' := k0
        refine ⟨_, rfl, z, rfl, Nat.le_of_lt (small1000 hlen), _, _, rfl, rfl, _, rfl, ?_⟩
        refine ite2 (fun h3 => ?_) (fun h3 => ?_)
        · rw [h3] at k2
          refine ⟨_, _, rfl, rfl, _, rfl, ?_⟩
          refine ite2 (fun h4 => ?_) (fun h4 => ?_)
          · rw [h4] at k2
            refine ⟨_, rfl, z, rfl, fun D nD => ?_⟩
            refine lc_it walk_str (fun i H' => H' = upd H D (.lst (((z.cps.toList.take i).map lowB).map V.bl))) rfl (fun i H' _ e => True.intro) (fun i x H' H2 hi e y => ?_) (fun H' e => ?_)
            · subst e
              obtain ⟨rfl, c, hc, rfl⟩ := y
              have hc2 : z.cps.toList[i]? = some c := by
                rw [Array.getElem?_toList]
                exact hc
              have fin : ∀ b, b = lowB c → ∃ acc, upd H D (.lst (((z.cps.toList.take i).map lowB).map V.bl)) D = some (.lst acc) ∧ acc.length < sizeLine ∧
                  upd (upd H D (.lst (((z.cps.toList.take i).map lowB).map V.bl))) D (.lst (acc ++ [V.bl b])) = upd H D (.lst (((z.cps.toList.take (i + 1)).map lowB).map V.bl)) := by
                intro b eb
                refine ⟨_, upd_same, small1000 ?_, ?_⟩
                · simp
                  have : z.cps.size = z.length := rfl
                  omega
                · rw [upd_upd, eb, map_take_snoc lowB hc2, List.map_append] <;> rfl
              refine ⟨rfl, _, rfl, _, _, rfl, rfl, _, rfl, ?_⟩
              have q1 : (!decide (([c] : List Nat) < [97])) = decide (97 ≤ c) := le_sign c 97
              have q2 : (!decide (([122] : List Nat) < [c])) = decide (c ≤ 122) := le_sign 122 c
              refine ite2 (fun h5 => ?_) (fun h5 => ?_)
              · have h6 : decide (97 ≤ c) = true := q1.symm.trans h5
                refine ⟨_, _, rfl, rfl, fin _ ?_⟩
                unfold lowB
                rw [h6]
                exact q2
              · have h6 : decide (97 ≤ c) = false := by
                  rw [← q1, ← Bool.not_eq_true]
                  exact h5
                refine fin _ ?_
                unfold lowB
                rw [h6]
                rfl
            · subst e
              refine ⟨D, z.cps.toList.map lowB, rfl, SqL.of (by rw [upd_same, List.take_of_length_le (by simp)]), ?_⟩
              rw [all_id_map]
              exact k2 _ (same_newH nD)
          · rw [Bool.not_eq_true] at h4
            rw [h4] at k2
            exact k2 _ (Same.refl H)
        · rw [Bool.not_eq_true] at h3
          rw [h3] at k2
          exact ⟨_, rfl, k2 _ (Same.refl H)⟩
    · rw [decide_eq_false e]
      refine iteT ?_
      have q := k H (Same.refl H)
      rw [wordV_not ht e] at q
      exact q

theorem sc_first_bad : FnScope ["names", "at", "name"] ["names"] (defScope s_first_bad) := ⟨rfl, rfl, rfl, by decide +kernel, rfl, by decide +kernel, by decide +kernel⟩
theorem ok_first_bad {aK fw : Addr} {fdw : FuncData} (F : FnP K "first_bad" s_first_bad f fd) (T : Txt K mg aK) (c_is_word : Cal P w K mg base CX0 1 "is_word" fw fdw ["thing"] spIsWord) : FnOk P w K mg base CX0 2 f fd ["names"] (spFirstBadA K) := by
  refine F.ok sc_first_bad (fun vs H Q E h => ?_) (fun cdv A outer s H vs Q E hr h => ⟨_, PSs.nox (pss_cons (ps_if (pt_not (pt_chain op_le op_le pe_int (pe_callB call_len_seq (by rfl) T.len boot_len (pa_cons (pv 0) pa_nil)) (pe_gint (by rfl) T.g_MOST_COLUMNS)))
 (pss_one (ps_ret (pe_un un_neg pe_int)))
 pss_nil)
 (pss_cons (ps_for PassesOwn.never rfl (pi_enumA (by rfl) T.enumerate (pa_cons (pv 0) pa_nil)) (pg_tup rfl (pgs_cons (pg_name (i := 1) sc_first_bad.nd rfl (Or.inl rfl)) (pgs_cons (pg_name (i := 2) sc_first_bad.nd rfl (Or.inl rfl)) pgs_nil)))
 (pss_one (ps_if (PW.pt (pw_or (pt_not (pt_val (pe_cal c_is_word (hr.mono (by decide)) (pa_cons (pv 2) pa_nil)))) (pw_or1 (pt_cmpR op_in_seq (pv 2) (pe_slice sl_A (pv 0) po_none (po_some (pv 1))) (by rfl)))))
 (pss_one (ps_ret (pv 1)))
 pss_nil)))
 (pss_one (ps_ret pe_non)))), ?_⟩)
  · obtain ⟨a, xs, rfl, _⟩ := h
    rfl
  · obtain ⟨a, xs, rfl, ha, hlen, hx, k⟩ := h
    have bad : (decide ((1 : Int) ≤ (xs.length : Nat)) && decide (((xs.length : Nat) : Int) ≤ 3)) = false → Q (.int (-1)) H := by
      intro e
      have q := k H (Same.refl H)
      unfold dueV at q
      rw [e] at q
      exact q
    refine ⟨_, rfl, a, xs, rfl, ha.seqA, _, _, rfl, rfl, _, rfl, ?_⟩
    refine ite2 (fun h1 => ?_) (fun h1 => ?_)
    rotate_left
    · rw [Bool.not_eq_true] at h1
      refine ⟨_, rfl, iteT ?_⟩
      exact ⟨_, rfl, bad (by rw [h1]; rfl)⟩
    refine ⟨_, _, rfl, rfl, _, rfl, ?_⟩
    refine ite2 (fun h2 => ?_) (fun h2 => ?_)
    · rw [Bool.not_eq_true'] at h2
      exact ⟨_, rfl, bad (by rw [h1, h2]; rfl)⟩
    have h2 : decide (((xs.length : Nat) : Int) ≤ 3) = true := by
      cases q : decide (((xs.length : Nat) : Int) ≤ 3) with
      | true => rfl
      | false => exact absurd (by rw [q]; rfl) h2
    have good : ∀ H', Same H H' → Q (match badFrom [] xs with
        | some i => .int (i : Nat)
        | none => .non) H' := by
      intro H' e
      have q := k H' e
      unfold dueV at q
      rw [h1, h2] at q
      exact q
    refine ⟨_, rfl, a, xs, rfl, ha.seqA, fun J G w hG => ?_⟩
    refine for_it w (fun i σ H' => ∃ (av nv : Option V), σ = [some (.ref a), av, nv] ∧ Same H H' ∧ badFrom [] xs = badFrom (xs.take i) (xs.drop i) ∧ ∀ x ∈ xs.take i, wordV x = true)
      ⟨none, none, rfl, Same.refl _, by rw [List.take_zero, List.drop_zero], by simp⟩ (fun i σ H' _ ⟨_, _, _, R, _⟩ => hG H' R) ?_ ?_
    · rintro i x σ H1 H2 hi ⟨av, nv, rfl, R, hb, hw⟩ ⟨t, k1, x1, rfl, nt, rfl, hk, hx1⟩
      cases hk
      have hx1 : xs[i]? = some x1 := hx1
      refine ⟨t, _, rfl, .inl (.inl upd_same), rfl, ?_⟩
      refine ⟨_, _, rfl, _, _, rfl, rfl, ?_⟩
      have R1 := same_new (o := .tup [V.int (i : Nat), x1]) R nt
      obtain ⟨t1, ht1, hz1⟩ := (hx x1 (List.mem_of_getElem? hx1)).same R1
      have hd : xs.drop i = x1 :: xs.drop (i + 1) := by
        obtain ⟨hlt, e⟩ := List.getElem?_eq_some_iff.mp hx1
        rw [← e]
        exact List.drop_eq_getElem_cons hlt
      have hlt : i < xs.length := (List.getElem?_eq_some_iff.mp hx1).1
      have htl : (xs.take i).length = i := by
        rw [List.length_take]
        omega
      have hit : (!(wordV x1) || inV x1 (xs.take i)) = true → badFrom [] xs = some i := by
        intro e
        rw [hb, hd]
        show (if (!(wordV x1) || inV x1 (xs.take i)) = true then some (xs.take i).length else _) = some i
        rw [if_pos e, htl]
      have mis : (!(wordV x1) || inV x1 (xs.take i)) = false → badFrom [] xs = badFrom (xs.take (i + 1)) (xs.drop (i + 1)) := by
        intro e
        rw [hb, hd]
        show (if (!(wordV x1) || inV x1 (xs.take i)) = true then some (xs.take i).length else _) = _
        rw [if_neg (by rw [e]; decide), ← take_snoc hx1]
      refine ⟨_, rfl, x1, t1, rfl, ht1, hz1, fun H3 R3 => ?_⟩
      have RH := R1.trans R3
      refine ⟨_, rfl, ite2 (fun h3 => ?_) (fun h3 => ?_)⟩
      · refine iteT ⟨_, rfl, ?_⟩
        have q := good H3 RH
        rw [hit (by rw [h3]; rfl)] at q
        exact q
      · have hw1 : wordV x1 = true := by
          cases q : wordV x1 with
          | true => rfl
          | false => exact absurd (by rw [q]; rfl) h3
        refine ⟨_, rfl, _, rfl, _, rfl, _, rfl, a, xs, rfl, ha.seqA.same RH, fun p H4 S4 hp4 => ?_⟩
        refine ⟨p, _, rfl, hp4, word_flat hw1, ?_, _, rfl, ?_⟩
        · rw [cut_take]
          exact List.all_eq_true.mpr fun y hy => word_flat (hw y hy)
        · rw [cut_take]
          refine ite2 (fun h4 => ?_) (fun h4 => ?_)
          · refine ⟨_, rfl, ?_⟩
            have q := good _ (RH.trans S4)
            rw [hit (by rw [show inV x1 (xs.take i) = true from h4, Bool.or_true])] at q
            exact q
          · have h5 : inV x1 (xs.take i) = false := by
              rw [← Bool.not_eq_true]
              exact h4
            refine ⟨_, _, rfl, RH.trans S4, mis (by rw [hw1, h5]; rfl), fun y hy => ?_⟩
            rw [take_snoc hx1] at hy
            rcases List.mem_append.mp hy with hy | hy
            · exact hw y hy
            · rw [List.mem_singleton.mp hy]
              exact hw1
    · rintro σ H' ⟨av, nv, rfl, R, hb, hw⟩
      have q := good H' R
      rw [hb, List.drop_length] at q
      exact q

theorem sc_Tableinit : FnScope ["self", "columns", "at"] ["self", "columns"] (defScope s_Tableinit) := ⟨rfl, rfl, rfl, by decide +kernel, rfl, by decide +kernel, by decide +kernel⟩
theorem ok_Tableinit {aK fb : Addr} {fdb : FuncData} (F : FnM K "__init__" "Table.__init__" s_Tableinit f fd) (T : Txt K mg aK) (TC : TxC K C) (c_first_bad : Cal P w K mg base CX0 2 "first_bad" fb fdb ["names"] (spFirstBadA K)) : FnOk P w K mg base CX0 3 f fd ["self", "columns"] (spTableA K C) := by
  refine F.ok sc_Tableinit (fun vs H Q E h => ?_) (fun cdv A outer s H vs Q E hr h => ⟨_, PSs.nox (pss_cons (ps_set (i := 2) sc_Tableinit.nd rfl (Or.inl rfl) (pe_cal c_first_bad (hr.mono (by decide)) (pa_cons (pv 1) pa_nil)))
 (pss_cons (ps_if (pt_cmpR op_notN (pv 2) pe_non (nomark _))
 (pss_one ps_never)
 pss_nil)
 (pss_one (ps_fld (pv 0) (pe_callTy call_tuple_of (by rfl) T.tuple boot_tuple (pa_cons (pv 1) pa_nil)) rfl)))), ?_⟩)
  · obtain ⟨p, a, dx, xs, rfl, _⟩ := h
    rfl
  · obtain ⟨p, a, dx, xs, rfl, hp, ha, hlen, hx, hd, k⟩ := h
    refine ⟨_, rfl, a, xs, rfl, ha, hlen, hx, fun H1 R1 => ?_⟩
    rw [hd]
    refine ⟨_, rfl, rfl, _, rfl, iteNS rfl ?_⟩
    have hp1 := R1 _ _ hp
    rcases ha with ha | ha
    · refine ⟨_, rfl, a, xs, rfl, .inl ⟨R1.seq ha, fun t nt => ?_⟩⟩
      have npt := ne_of_none hp1 nt
      refine ⟨_, rfl, p, C, dx, [], rfl, (by rw [upd_ne npt]; exact hp1), TC.cl, TC.nC, (by show 0 < 1000; decide), ?_⟩
      refine k _ (fun q o n e => ?_) ⟨dx, t, upd_same, by rw [upd_ne npt.symm, upd_same]⟩
      rw [upd_ne n, upd_ne (ne_of_none (R1 _ _ e) nt)]
      exact R1 _ _ e
    · have ha1 := R1 _ _ ha
      refine ⟨_, rfl, a, xs, rfl, .inr ⟨SqT.of ha1, ?_⟩⟩
      refine ⟨_, rfl, p, C, dx, [], rfl, hp1, TC.cl, TC.nC, (by show 0 < 1000; decide), ?_⟩
      refine k _ (fun q o n e => ?_) ⟨dx, a, upd_same, by rw [upd_ne (ne_of ha1 hp1 nofun)]; exact ha1⟩
      rw [upd_ne n]
      exact R1 _ _ e

theorem sc_place : FnScope ["numbers", "integer", "number"] ["numbers", "integer"] (defScope s_place) := ⟨rfl, rfl, rfl, by decide +kernel, rfl, by decide +kernel, by decide +kernel⟩
theorem ok_place (F : FnP K "place" s_place f fd) (T : Free mg) : FnOk P w K mg base CX0 1 f fd ["numbers", "integer"] (spPlace K) := by
  refine F.ok sc_place (fun vs H Q E h => ?_) (fun cdv A outer s H vs Q E hr h => ⟨_, PSs.nox (pss_one (ps_ret (pe_lc (own := [("number", 2)]) rfl sc_place.nd (pi_tup (pv 0)) (blkOk_by (N := ["numbers", "integer", "number"]) (sc := defScope s_place) (by decide +kernel)) (fun _ _ _ _ _ => (pg_name (i := 2) sc_place.nd rfl (Or.inl rfl))) (fun _ _ _ _ _ => pts_nil) (fun _ _ _ _ _ => (pe_tup (pa_cons (pe_cmpR op_lt (pv 1) (pv 2) (nomark _)) (pa_cons (pe_cmpR op_eq (pv 1) (pv 2) (nomark _)) pa_nil))))))), ?_⟩)
  · obtain ⟨a, ns, x, rfl, _⟩ := h
    rfl
  · obtain ⟨a, ns, x, rfl, ha, hl, k⟩ := h
    refine ⟨_, rfl, a, rfl, ⟨_, ha⟩, fun D nD => ?_⟩
    refine lc_tup (xs := ns.map V.int) (fun i H' => Same H H' ∧ ∃ acc, H' D = some (.lst acc) ∧ acc.length = i ∧ DqA H' [D] ((ns.take i).map (placeD x)) acc) ⟨same_newH nD, [], upd_same, rfl, by simp only [List.take_zero, List.map_nil, DqA]⟩ (fun i H' _ e => tup_same e.1 ha) (fun i y H' hy e => ?_) (fun H' e => ?_)
    · obtain ⟨S, acc, hD, hn, hq⟩ := e
      obtain ⟨n, rfl, hn2⟩ : ∃ n, y = .int n ∧ ns[i]? = some n := by
        rw [List.getElem?_map] at hy
        cases e : ns[i]? with
        | none => rw [e] at hy; cases hy
        | some n => rw [e] at hy; cases hy; exact ⟨n, rfl, rfl⟩
      refine ⟨rfl, ?_⟩
      have ee : decide (V.int x = V.int n) = decide (x = n) := decide_eq_decide.mpr ⟨fun z => V.int.inj z, fun z => by rw [z]⟩
      refine ⟨_, rfl, _, rfl, _, _, rfl, rfl, _, rfl, _, rfl, rfl, (by show 2 ≤ sizeLine; decide), fun u nu => ?_⟩
      rw [ee]
      have hi : i < ns.length := (List.getElem?_eq_some_iff.mp hn2).1
      have Su := same_newH (o := .tup [V.bl (decide (x < n)), V.bl (decide (x = n))]) nu
      have nuD : u ≠ D := (ne_of_none hD nu).symm
      refine ⟨acc, Su _ _ hD, small1000 (by omega), put_same (S.trans Su) nD, acc ++ [V.ref u], upd_same, by rw [List.length_append, hn]; rfl, ?_⟩
      rw [take_snoc hn2, List.map_append]
      refine dqA_snoc ?_ (DqA.buts (Buts.put (List.mem_cons_self ..)) _ _ (DqA.buts (Buts.of_same Su) _ _ hq))
      unfold placeD Dq
      refine ⟨u, _, rfl, (fun z => nuD (List.mem_singleton.mp z)), (by rw [upd_ne nuD]; exact upd_same), ?_⟩
      simp only [DqA, Dq]
      exact ⟨_, _, rfl, rfl, _, _, rfl, rfl, rfl⟩
    · obtain ⟨S, acc, hD, hn, hq⟩ := e
      rw [List.length_map, List.take_length] at hq
      exact k D acc H' S nD hD hq
theorem sc_equals : FnScope ["row", "integer", "part"] ["row", "integer"] (defScope s_equals) := ⟨rfl, rfl, rfl, by decide +kernel, rfl, by decide +kernel, by decide +kernel⟩
theorem ok_equals (F : FnP K "equals" s_equals f fd) (T : Free mg) : FnOk P w K mg base CX0 1 f fd ["row", "integer"] (spEquals K) := by
  refine F.ok sc_equals (fun vs H Q E h => ?_) (fun cdv A outer s H vs Q E hr h => ⟨_, PSs.nox (pss_one (ps_ret (pe_lc (own := [("part", 2)]) rfl sc_equals.nd (pi_tup (pv 0)) (blkOk_by (N := ["row", "integer", "part"]) (sc := defScope s_equals) (by decide +kernel)) (fun _ _ _ _ _ => (pg_name (i := 2) sc_equals.nd rfl (Or.inl rfl))) (fun _ _ _ _ _ => pts_nil) (fun _ _ _ _ _ => (pe_cmpR op_eq (pv 1) (pv 2) (nomark _)))))), ?_⟩)
  · obtain ⟨a, ns, x, rfl, _⟩ := h
    rfl
  · obtain ⟨a, ns, x, rfl, ha, hl, k⟩ := h
    refine ⟨_, rfl, a, rfl, ⟨_, ha⟩, fun D nD => ?_⟩
    refine lc_tup (xs := ns.map V.int) (fun i H' => H' = upd H D (.lst ((ns.take i).map fun n => V.bl (decide (x = n))))) rfl (fun i H' _ e => by subst e; exact tup_same (same_newH nD) ha) (fun i y H' hy e => ?_) (fun H' e => ?_)
    · subst e
      obtain ⟨n, rfl, hn2⟩ : ∃ n, y = .int n ∧ ns[i]? = some n := by
        rw [List.getElem?_map] at hy
        cases e : ns[i]? with
        | none => rw [e] at hy; cases hy
        | some n => rw [e] at hy; cases hy; exact ⟨n, rfl, rfl⟩
      have ee : decide (V.int x = V.int n) = decide (x = n) := decide_eq_decide.mpr ⟨fun z => V.int.inj z, fun z => by rw [z]⟩
      refine ⟨rfl, ?_⟩
      refine ⟨_, rfl, _, rfl, rfl, _, upd_same, small1000 (by rw [List.length_map, List.length_take]; omega), ?_⟩
      rw [upd_upd, ee, take_snoc hn2, List.map_append] <;> rfl
    · subst e
      rw [List.length_map, List.take_length]
      exact k D _ (same_newH nD) nD upd_same
theorem sc_stretches : FnScope ["numbers", "room", "ends", "at"] ["numbers", "room"] (defScope s_stretches) := ⟨rfl, rfl, rfl, by decide +kernel, rfl, by decide +kernel, by decide +kernel⟩
theorem ok_stretches (F : FnP K "stretches" s_stretches f fd) (T : Free mg) : FnOk P w K mg base CX0 1 f fd ["numbers", "room"] (spStretches K) := by
  refine F.ok sc_stretches (fun vs H Q E h => ?_) (fun cdv A outer s H vs Q E hr h => ⟨_, PSs.nox (pss_cons (ps_if (pt_not (pt_truth (pv 0) (fun _ => rfl)))
 (pss_one (ps_ret (pe_lst (pa_cons (pe_tup (pa_cons pe_int (pa_cons (pe_op op_add (pv 1) pe_int) pa_nil))) pa_nil))))
 pss_nil)
 (pss_cons (ps_set (i := 2) sc_stretches.nd rfl (Or.inr rfl) (pe_lst (pa_cons (pe_op op_sub (pe_op op_sub (pe_ix ix_tup (pv 0) pe_int (fun _ _ => rfl)) (pv 1)) pe_int) (StX.pa_star (pv 0) (pa_cons (pe_op op_add (pe_op op_add (pe_ix ix_tup (pv 0) (pe_un un_neg pe_int) (fun _ _ => rfl)) (pv 1)) pe_int) pa_nil)))))
 (pss_one (ps_ret (pe_lc (own := [("at", 3)]) rfl sc_stretches.nd (pi_range1 (by rfl) T.range (pa_cons (pe_op op_sub (pe_callB call_len_seq (by rfl) T.len boot_len (pa_cons (pv 2) pa_nil)) pe_int) pa_nil)) (blkOk_by (N := ["numbers", "room", "ends", "at"]) (sc := defScope s_stretches) (by decide +kernel)) (fun _ _ _ _ _ => (pg_name (i := 3) sc_stretches.nd rfl (Or.inl rfl))) (fun _ _ _ _ _ => pts_nil) (fun _ _ _ _ _ => (pe_tup (pa_cons (pe_ix (show IxR _ (rIxL K) from ix_list) (pv 2) (pv 3) (fun _ _ => rfl)) (pa_cons (pe_ix (show IxR _ (rIxL K) from ix_list) (pv 2) (pe_op op_add (pv 3) pe_int) (fun _ _ => rfl)) pa_nil))))))))), ?_⟩)
  · obtain ⟨a, ns, x, rfl, _⟩ := h
    rfl
  · obtain ⟨a, ns, x, rfl, ha, hl, k⟩ := h
    refine ⟨_, rfl, !(ns.map V.int).isEmpty, .inr (.inl ⟨_, ha, rfl⟩), ?_⟩
    cases ns with
    | nil =>
      refine iteT ?_
      refine ⟨_, rfl, _, _, rfl, rfl, (by show 2 ≤ sizeLine; decide), fun t nt => ⟨(by show 1 ≤ sizeLine; decide), fun l nl => ?_⟩⟩
      have S1 := same_newH (o := .tup [V.int 0, V.int (x + 1)]) nt
      refine k l [.ref t] _ (S1.trans (same_newH nl)) (S1.free nl) upd_same ?_
      have ntl := ne_of_none (upd_same (H := H) (a := t) (o := .tup [V.int 0, V.int (x + 1)])) nl
      show DqA _ [l] [pairDt (0, x + 1)] _
      unfold DqA
      refine ⟨_, _, rfl, ?_, by unfold DqA; rfl⟩
      unfold pairDt Dq
      refine ⟨t, _, rfl, (fun z => ntl (List.mem_singleton.mp z)), by rw [upd_ne ntl]; exact upd_same, ?_⟩
      simp only [DqA, Dq]
      exact ⟨_, _, rfl, rfl, _, _, rfl, rfl, rfl⟩
    | cons n r =>
      refine iteF ?_
      obtain ⟨L, hL⟩ : ∃ L, L = (n :: r).getLast (List.cons_ne_nil _ _) := ⟨_, rfl⟩
      have hat0 : atI ((n :: r).map V.int) 0 = some (V.int n) := atI_nat (j := 0) rfl
      have hatL : atI ((n :: r).map V.int) (-1) = some (V.int L) := atI_last (by
        rw [List.length_map, List.getElem?_map, hL, List.getLast_eq_getElem, List.getElem?_eq_getElem] <;> rfl)
      refine ⟨_, rfl, a, _, 0, _, rfl, rfl, ha, hat0, _, rfl, _, _, rfl, rfl, _, _, rfl, rfl, _, rfl, a, _, rfl, .inl ha, _, rfl, _, rfl, a, _, -1, _, rfl, rfl, ha, hatL, _, rfl, _, _, rfl, rfl, _, _, rfl, rfl, ?_⟩
      have eE : (V.int (n - x - 1)) :: ((n :: r).map V.int ++ [V.int (L + x + 1)]) = ((n - x - 1) :: (n :: r) ++ [L + x + 1]).map V.int := by
        rw [List.map_append] <;> rfl
      have eS : stretchL (n :: r) x = pairsOf ((n - x - 1) :: (n :: r) ++ [L + x + 1]) := by
        unfold stretchL
        rw [hL]
      have hEl : ((n - x - 1) :: (n :: r) ++ [L + x + 1]).length = r.length + 3 := by
        rw [List.length_append] <;> rfl
      rw [eS] at k
      rw [List.length_cons] at hl
      generalize (n - x - 1) :: (n :: r) ++ [L + x + 1] = Es at eE k hEl
      have hz : (V.int (n - x - 1) :: ((n :: r).map V.int ++ [V.int (L + x + 1)])).length ≤ sizeLine := Nat.le_of_lt (small1000 (by rw [eE, List.length_map]; omega))
      refine ⟨hz, fun e ne => ?_⟩
      have Se := same_newH (o := .lst (V.int (n - x - 1) :: ((n :: r).map V.int ++ [V.int (L + x + 1)]))) ne
      have he : upd H e (.lst (V.int (n - x - 1) :: ((n :: r).map V.int ++ [V.int (L + x + 1)]))) e = some (.lst (Es.map V.int)) := by rw [upd_same, eE]
      generalize upd H e (.lst (V.int (n - x - 1) :: ((n :: r).map V.int ++ [V.int (L + x + 1)]))) = H1 at Se he
      refine ⟨_, rfl, e, _, rfl, .inl (SqL.of he), _, _, rfl, rfl, _, rfl, by rw [List.length_map]; omega, by rw [List.length_map]; omega, fun D nD => ?_⟩
      have hn : ((List.map V.int Es).length - 1 : Int).toNat = r.length + 2 := by rw [List.length_map, hEl]; omega
      refine lc_range (fun i H' => Same H1 H' ∧ ∃ acc, H' D = some (.lst acc) ∧ acc.length = i ∧ DqA H' [D] (((pairsOf Es).take i).map pairDt) acc) ⟨same_newH nD, [], upd_same, rfl, by simp only [List.take_zero, List.map_nil, DqA]⟩ (fun i H' hi q => ?_) (fun H' q => ?_)
      · obtain ⟨S, acc, hD, hac, hq⟩ := q
        rw [hn] at hi
        obtain ⟨u, hu⟩ : ∃ u, Es[i]? = some u := ⟨_, List.getElem?_eq_getElem (by omega)⟩
        obtain ⟨v, hv⟩ : ∃ v, Es[i + 1]? = some v := ⟨_, List.getElem?_eq_getElem (by omega)⟩
        have hau : atI (Es.map V.int) (0 + (i : Int)) = some (V.int u) := by
          rw [Int.zero_add]
          exact atI_nat (by rw [List.getElem?_map, hu]; rfl)
        have hav : atI (Es.map V.int) (0 + (i : Int) + 1) = some (V.int v) := by
          rw [Int.zero_add]
          exact atI_nat (j := i + 1) (by rw [List.getElem?_map, hv]; rfl)
        have he' := S _ _ he
        refine ⟨rfl, ?_⟩
        refine ⟨_, rfl, _, rfl, e, _, _, _, rfl, rfl, SqL.of he', hau, _, rfl, _, rfl, _, _, rfl, rfl, e, _, _, _, rfl, rfl, SqL.of he', hav, (by show 2 ≤ sizeLine; decide), fun t nt => ?_⟩
        have St := same_newH (o := .tup [V.int u, V.int v]) nt
        have ntD : t ≠ D := (ne_of_none hD nt).symm
        refine ⟨acc, St _ _ hD, small1000 (by omega), put_same (S.trans St) nD, acc ++ [V.ref t], upd_same, by rw [List.length_append, hac]; rfl, ?_⟩
        rw [take_snoc (pairsOf_get hu hv), List.map_append]
        refine dqA_snoc ?_ (DqA.buts (Buts.put (List.mem_cons_self ..)) _ _ (DqA.buts (Buts.of_same St) _ _ hq))
        unfold pairDt Dq
        refine ⟨t, _, rfl, (fun z => ntD (List.mem_singleton.mp z)), (by rw [upd_ne ntD]; exact upd_same), ?_⟩
        simp only [DqA, Dq]
        exact ⟨_, _, rfl, rfl, _, _, rfl, rfl, rfl⟩
      · obtain ⟨S, acc, hD, hac, hq⟩ := q
        rw [hn, List.take_of_length_le (by rw [pairsOf_len]; omega)] at hq
        exact k D acc H' (Se.trans S) (Se.free nD) hD hq
theorem sc_free_spots : FnScope ["numbers", "row", "spots", "low", "high", "spot"] ["numbers", "row"] (defScope s_free_spots) := ⟨rfl, rfl, rfl, by decide +kernel, rfl, by decide +kernel, by decide +kernel⟩
theorem ok_free {fs : Addr} {fds : FuncData} (F : FnP K "free_spots" s_free_spots f fd) (T : Free mg) (c_stretches : Cal P w K mg base CX0 1 "stretches" fs fds ["numbers", "room"] (spStretches K)) : FnOk P w K mg base CX0 2 f fd ["numbers", "row"] (spFree K) := by
  refine F.ok sc_free_spots (fun vs H Q E h => ?_) (fun cdv A outer s H vs Q E hr h => ⟨_, PSs.nox (pss_cons (ps_set (i := 2) sc_free_spots.nd rfl (Or.inl rfl) (pe_lst pa_nil))
 (pss_cons (ps_for PassesOwn.never rfl (pi_list (pe_cal c_stretches (hr.mono (by decide)) (pa_cons (pv 0) (pa_cons (pe_op op_add (pe_callB call_len_seq (by rfl) T.len boot_len (pa_cons (pv 1) pa_nil)) pe_int) pa_nil)))) (pg_tup rfl (pgs_cons (pg_name (i := 3) sc_free_spots.nd rfl (Or.inl rfl)) (pgs_cons (pg_name (i := 4) sc_free_spots.nd rfl (Or.inl rfl)) pgs_nil)))
 (pss_one (ps_for PassesOwn.never rfl (pi_rangeA (by rfl) T.range (pa_cons (pe_op op_add (pv 3) pe_int) (pa_cons (pv 4) pa_nil))) (pg_name (i := 5) sc_free_spots.nd rfl (Or.inl rfl))
 (pss_one (ps_if (pt_cmpR op_notIn_seq (pv 5) (pv 1) (by rfl))
 (pss_cons (ps_expr (pe_bm PySem.F.plainAttrs_list PySem.F.slot_list_append PySem.F.type_list_append mt_append (pv 2) (pa_cons (pv 5) pa_nil)))
 (pss_one ps_break))
 pss_nil)))))
 (pss_one (ps_ret (pv 2))))), ?_⟩)
  · obtain ⟨a, b, ns, r, rfl, _⟩ := h
    rfl
  · obtain ⟨a, b, ns, r, rfl, ha, hl, hb, hlr, k⟩ := h
    refine ⟨Nat.zero_le _, fun l nl => ?_⟩
    have S0 := same_newH (o := .lst []) nl
    refine ⟨_, rfl, _, rfl, b, _, rfl, .inr (tup_same S0 hb), _, _, rfl, rfl, a, ns, _, rfl, tup_same S0 ha, hl, fun q acc H1 S1 nq hq hd => ?_⟩
    have nql : q ≠ l := (ne_of_none (upd_same (H := H) (a := l) (o := .lst [])) nq).symm
    have hl1 : H1 l = some (.lst []) := S1 _ _ upd_same
    have S01 : Same H H1 := S0.trans S1
    rw [List.length_map] at hd
    have hlen := dqA_len hd
    rw [List.length_map] at hlen
    have hbs : ∀ H', Same H H' → SqT K H' b (r.map V.int) := fun H' s => tup_same s hb
    unfold freeL at k
    have hLl : (stretchL ns ((r.length : Int) + 1)).length ≤ 101 := by
      unfold stretchL
      cases ns with
      | nil => exact (by decide : 1 ≤ 101)
      | cons n t =>
        rw [List.length_cons] at hl
        dsimp only
        rw [pairsOf_len, List.length_append, List.length_cons, List.length_cons]
        show t.length + 1 + 1 + 1 - 1 ≤ 101
        omega
    generalize stretchL ns ((r.length : Int) + 1) = L at *
    refine ⟨q, rfl, ⟨_, SqL.of hq⟩, ?_⟩
    refine for_list (K := K) (xs := acc) (fun i σ H' => ∃ t3 t4 t5, σ = [some (.ref a), some (.ref b), some (.ref l), t3, t4, t5] ∧ H' = upd H1 l (.lst (((L.take i).filterMap fun p => freeIn p.1 p.2 r).map V.int)))
      ⟨none, none, none, rfl, (upd_id hl1).symm⟩ (fun i σ H' _ e => ?_) (fun i x σ H' hx e => ?_) (fun σ H' e => ?_)
    · obtain ⟨t3, t4, t5, rfl, rfl⟩ := e
      exact SqL.of (by rw [upd_ne nql]; exact hq)
    · obtain ⟨t3, t4, t5, rfl, rfl⟩ := e
      obtain ⟨d, hdi, hdx⟩ := dqA_get hd hx
      obtain ⟨⟨lo, hi⟩, hp, rfl⟩ : ∃ p, L[i]? = some p ∧ d = pairDt p := by
        rw [List.getElem?_map] at hdi
        cases e : L[i]? with
        | none => rw [e] at hdi; cases hdi
        | some p => rw [e] at hdi; cases hdi; exact ⟨p, rfl, rfl⟩
      obtain ⟨t, rfl, _, ht⟩ := pairDt_at hdx
      have htl : t ≠ l := ne_of ht hl1 nofun
      refine ⟨t, _, rfl, SqT.of (by rw [upd_ne htl]; exact ht), rfl, ?_⟩
      refine ⟨_, _, rfl, _, _, rfl, rfl, ?_⟩
      refine ⟨_, rfl, _, _, rfl, rfl, _, rfl, _, _, rfl, ?_⟩
      rw [take_snoc hp, List.filterMap_append]
      have one : ∀ o, freeIn lo hi r = o → List.filterMap (fun p : Int × Int => freeIn p.1 p.2 r) [(lo, hi)] = o.toList := fun o e => by
        rw [List.filterMap_cons, e]
        cases o <;> rfl
      generalize hvs : List.filterMap (fun p : Int × Int => freeIn p.1 p.2 r) (L.take i) = vs
      have hvl : vs.length ≤ 200 := by
        rw [← hvs]
        have q1 := List.length_filterMap_le (fun p : Int × Int => freeIn p.1 p.2 r) (L.take i)
        have q2 : (L.take i).length ≤ L.length := by
            rw [List.length_take]
            exact Nat.min_le_right _ _
        omega
      refine for_range (fun j σ H' => ∃ t5, σ = [some (.ref a), some (.ref b), some (.ref l), some (.int lo), some (.int hi), t5] ∧ H' = upd H1 l (.lst (vs.map V.int)) ∧ ∀ y, lo < y → y < lo + 1 + (j : Int) → y ∈ r)
        ⟨t5, rfl, rfl, fun y h1 h2 => by omega⟩ ?_ ?_
      · rintro j σ H' hj ⟨t5, rfl, rfl, hall⟩
        refine ⟨_, rfl, _, rfl, b, _, rfl, .inr (hbs _ (put_same S01 nl)), rfl, flat_ints _, _, rfl, ?_⟩
        rw [inV_int]
        refine ite2 (fun h1 => ?_) (fun h1 => ?_)
        · have hnot : lo + 1 + (j : Int) ∉ r := by
            intro hm
            rw [decide_eq_true hm] at h1
            cases h1
          have hf := freeIn_first (hi := hi) (by omega) (by omega) hnot hall
          refine ⟨_, rfl, .inl ⟨rfl, _, SqL.of upd_same⟩, _, rfl, l, _, _, rfl, rfl, upd_same, small1000 (by rw [List.length_map]; omega), ?_⟩
          refine ⟨_, _, _, rfl, ?_⟩
          rw [upd_upd, one _ hf, List.map_append] <;> rfl
        · have hin : lo + 1 + (j : Int) ∈ r := Classical.byContradiction fun hm => h1 (by rw [decide_eq_false hm]; rfl)
          refine ⟨_, rfl, rfl, fun y g1 g2 => ?_⟩
          by_cases e : y = lo + 1 + (j : Int)
          · rw [e]
            exact hin
          · exact hall y g1 (by omega)
      · rintro σ H' ⟨t5, rfl, rfl, hall⟩
        refine ⟨_, _, _, rfl, ?_⟩
        rw [one none (freeIn_none fun y g1 g2 => hall y g1 (by omega))]
        show _ = upd H1 l (.lst ((vs ++ []).map V.int))
        rw [List.append_nil]
    · obtain ⟨t3, t4, t5, rfl, rfl⟩ := e
      refine ⟨_, rfl, k l _ (put_same S01 nl) ?_⟩
      rw [upd_same, ← hlen, List.take_length]

theorem sc_spots_beside : FnScope ["numbers", "row"] ["numbers", "row"] (defScope s_spots_beside) := ⟨rfl, rfl, rfl, by decide +kernel, rfl, by decide +kernel, by decide +kernel⟩
theorem ok_beside {ff : Addr} {fdf : FuncData} (F : FnP K "spots_beside" s_spots_beside f fd) (T : Free mg) (c_free_spots : Cal P w K mg base CX0 2 "free_spots" ff fdf ["numbers", "row"] (spFree K)) : FnOk P w K mg base CX0 3 f fd ["numbers", "row"] (spBeside K) := by
  refine F.ok sc_spots_beside (fun vs H Q E h => ?_) (fun cdv A outer s H vs Q E hr h => ⟨_, PSs.nox (pss_one (ps_ret (pe_callB (show CallR _ (.builtin "sorted") (rSortedSet w) from cr_sortedSet rfl) (by rfl) T.sorted boot_sorted (pa_cons (pe_callTy (show CallR _ (.type "set") (rSetI K w) from call_setI rfl) (by rfl) T.set boot_set (pa_cons (pe_lst (StX.pa_star (pv 0) (StX.pa_star (pv 1) (StX.pa_star (pe_cal c_free_spots (hr.mono (by decide)) (pa_cons (pv 0) (pa_cons (pv 1) pa_nil))) pa_nil)))) pa_nil)) pa_nil)))), ?_⟩)
  · obtain ⟨a, b, ns, r, rfl, _⟩ := h
    rfl
  · obtain ⟨t, b, ns, r, rfl, ht, hn, hb, hr10, k⟩ := h
    have hfl := freeL_len ns r
    refine ⟨_, rfl, t, _, rfl, .inl ht, _, rfl, b, _, rfl, .inl hb, ?_⟩
    refine ⟨_, rfl, _, rfl, t, b, ns, r, rfl, ht, by omega, hb, by omega, fun l H1 S1 hl => ?_⟩
    have e : ns.map V.int ++ (r.map V.int ++ ((freeL ns r).map V.int ++ [])) = (ns ++ (r ++ freeL ns r)).map V.int := by rw [List.append_nil, List.map_append, List.map_append]
    have hlen : (ns ++ (r ++ freeL ns r)).length ≤ 60 := by rw [List.length_append, List.length_append]; omega
    refine ⟨l, _, rfl, .inr (SqL.of hl), ?_⟩
    refine ⟨Nat.le_of_lt (small1000 (by rw [e, List.length_map]; omega)), fun q nq => ?_⟩
    have Sq := same_newH (o := .lst (ns.map V.int ++ (r.map V.int ++ ((freeL ns r).map V.int ++ [])))) nq
    have hq : upd H1 q (.lst (ns.map V.int ++ (r.map V.int ++ ((freeL ns r).map V.int ++ [])))) q = some (.lst ((ns ++ (r ++ freeL ns r)).map V.int)) := by rw [upd_same, e]
    refine ⟨q, _, rfl, .inl (SqL.of hq), hlen, fun a c na hc => ?_⟩
    refine ⟨a, _, c, rfl, upd_same, by omega, fun out p h1 h2 h3 np => ?_⟩
    have Sa := (same_newH na).trans (same_newH (o := .lst (out.map V.int)) np)
    have S := (S1.trans Sq).trans Sa
    have eo : out = spotsL ns r := asc_same h1 (spotsL_asc ns r) fun x => by
      rw [h2 x]
      unfold spotsL
      rw [mem_ascL]
      simp only [decide_eq_true_eq]
    rw [← eo] at k
    exact k p _ S (S1.free (Sq.free ((same_newH na).free np))) upd_same
theorem sc_Kinds_spots : FnScope ["self", "row"] ["self", "row"] (defScope s_Kinds_spots) := ⟨rfl, rfl, rfl, by decide +kernel, rfl, by decide +kernel, by decide +kernel⟩
theorem ok_Kindsspots {ff : Addr} {fdf : FuncData} (F : FnM K "spots" "Kinds.spots" s_Kinds_spots f fd) (T : Free mg) (TK : TxK K C) (c_spots_beside : Cal P w K mg base CX0 3 "spots_beside" ff fdf ["numbers", "row"] (spBeside K)) : FnOk P w K mg base CX0 4 f fd ["self", "row"] (spSpots C) := by
  refine F.ok sc_Kinds_spots (fun vs H Q E h => ?_) (fun cdv A outer s H vs Q E hr h => ⟨_, PSs.nox (pss_one (ps_ret (pe_cal c_spots_beside (hr.mono (by decide)) (pa_cons (pe_fld (pv 0) rfl) (pa_cons (pv 1) pa_nil))))), ?_⟩)
  · obtain ⟨k, v, ns, r, rfl, _⟩ := h
    rfl
  · obtain ⟨o, v, ns, r, rfl, ⟨dx, fs, t, ho, hf, ht, _⟩, hasc, hn, ⟨b, rfl, hb⟩, hr10, k⟩ := h
    exact ⟨_, rfl, o, C, dx, fs, _, rfl, ho, TK.cl, TK.nN, hf, _, rfl, t, b, ns, r, rfl, SqT.of ht, hn, SqT.of hb, hr10, k⟩
theorem sc_Kindsinit : FnScope ["self", "table", "numbers", "rows", "_", "row", "spot"] ["self", "table", "numbers"] (defScope s_Kindsinit) := ⟨rfl, rfl, rfl, by decide +kernel, rfl, by decide +kernel, by decide +kernel⟩
theorem ok_Kindsinit {CT fs : Addr} {fds : FuncData} (F : FnM K "__init__" "Kinds.__init__" s_Kindsinit f fd) (T : Free mg) (TC : TxC K CT) (TK : TxK K C) (c_Kindsspots : CalM P w K mg base CX0 4 C "spots" fs fds ["self", "row"] (spSpots C)) : FnOk P w K mg base CX0 5 f fd ["self", "table", "numbers"] (spKinds K CT C) := by
  refine F.ok sc_Kindsinit (fun vs H Q E h => ?_) (fun cdv A outer s H vs Q E hr h => ⟨_, PSs.nox (pss_cons (ps_fld (pv 0) (pe_callTy call_tuple_of (by rfl) T.tuple boot_tuple (pa_cons (pe_callB (show CallR _ (.builtin "sorted") (rSortedSet w) from cr_sortedSet rfl) (by rfl) T.sorted boot_sorted (pa_cons (pe_callTy (show CallR _ (.type "set") (rSetI K w) from call_setI rfl) (by rfl) T.set boot_set (pa_cons (pv 2) pa_nil)) pa_nil)) pa_nil)) rfl)
 (pss_cons (ps_set (i := 3) sc_Kindsinit.nd rfl (Or.inl rfl) (pe_lst (pa_cons (pe_tup pa_nil) pa_nil)))
 (pss_cons (ps_for PassesOwn.never rfl (pi_tup (pe_fld (pv 1) rfl)) (pg_name (i := 4) sc_Kindsinit.nd rfl (Or.inl rfl))
 (pss_one (ps_setLc2 (i := 3) (py := _) (own := [("row", 5), ("spot", 6)]) (vs1 := [6]) rfl sc_Kindsinit.nd rfl rfl (sw_true rfl rfl rfl (by decide +kernel)) (pi_list (pv 3)) (blkOk_by (N := ["self", "table", "numbers", "rows", "_", "row", "spot"]) (sc := defScope s_Kindsinit) (by decide +kernel)) (by decide) (fun _ _ _ _ _ => (pg_name (i := 5) sc_Kindsinit.nd rfl (Or.inl rfl))) (fun _ _ _ _ _ => pts_nil) (fun _ _ _ _ _ => (show PI _ _ _ (iList K _) from pi_list (pe_calM (pv 0) TK.cl c_Kindsspots (hr.mono (by decide)) (pa_cons (pv 5) pa_nil)))) (fun _ _ _ _ _ => (pg_name (i := 6) sc_Kindsinit.nd rfl (Or.inl rfl))) (fun _ _ _ _ _ => pts_nil) (fun _ _ _ _ _ => (pe_tup (show PA _ _ (StX.tStar K _ _) from StX.pa_star (pv 5) (pa_cons (pv 6) pa_nil)))))))
 (pss_one (ps_fld (pv 0) (pv 3) rfl))))), ?_⟩)
  · obtain ⟨k, p, a, dx, cs, ms, rfl, _⟩ := h
    rfl
  · obtain ⟨o, p, a, dx, cs, ms, rfl, ho, hT, hc3, ha, hm, k⟩ := h
    refine ⟨_, rfl, a, ms, rfl, ha, by omega, fun q c nq hc => ?_⟩
    refine ⟨q, _, c, rfl, upd_same, by omega, fun out l h1 h2 h3 nl => ?_⟩
    have eo : out = ascL ms := asc_same h1 (ascL_asc ms) fun x => by
      rw [h2 x, mem_ascL]
      simp only [decide_eq_true_eq]
    have hn10 : (ascL ms).length ≤ 10 := by rw [← eo]; omega
    subst eo
    have S1 : Same H (upd (upd H q (SetO w q (fun j => decide (j ∈ ms)) c)) l (.lst ((ascL ms).map V.int))) := (same_newH nq).trans (same_newH nl)
    refine ⟨l, _, rfl, .inl ⟨SqL.of upd_same, fun t nt => ?_⟩⟩
    have S2 := S1.trans (same_newH (o := .tup ((ascL ms).map V.int)) nt)
    have ht2 : upd (upd (upd H q (SetO w q (fun j => decide (j ∈ ms)) c)) l (.lst ((ascL ms).map V.int))) t (.tup ((ascL ms).map V.int)) t = some (.tup ((ascL ms).map V.int)) := upd_same
    generalize upd (upd (upd H q (SetO w q (fun j => decide (j ∈ ms)) c)) l (.lst ((ascL ms).map V.int))) t (.tup ((ascL ms).map V.int)) = H2 at *
    have ho2 := S2 _ _ ho
    have not : o ≠ t := ne_of ho2 ht2 nofun
    refine ⟨_, rfl, o, C, dx, [], rfl, ho2, TK.cl, TK.nN, (by show 0 < 1000; decide), ?_⟩
    -- the heap with the numbers
    have ho3 : upd H2 o (.ins C dx (putF ("numbers" : Str) (V.ref t) [])) o = some (.ins C dx [("numbers", .ref t)]) := upd_same
    have B3 : But o H (upd H2 o (.ins C dx (putF ("numbers" : Str) (V.ref t) []))) := fun x u n e => by
      rw [upd_ne n]
      exact S2 _ _ e
    have ht3 : upd H2 o (.ins C dx (putF ("numbers" : Str) (V.ref t) [])) t = some (.tup ((ascL ms).map V.int)) := by
      rw [upd_ne not.symm]
      exact ht2
    generalize upd H2 o (.ins C dx (putF ("numbers" : Str) (V.ref t) [])) = H3 at *
    refine ⟨Nat.zero_le _, fun e0 ne0 => ?_⟩
    have S34 := same_newH (o := .tup []) ne0
    have he0 : upd H3 e0 (.tup []) e0 = some (.tup []) := upd_same
    generalize upd H3 e0 (.tup []) = H4 at *
    refine ⟨(by show 1 ≤ sizeLine; decide), fun l0 nl0 => ?_⟩
    have S45 := same_newH (o := .lst [V.ref e0]) nl0
    have hl0 : upd H4 l0 (.lst [V.ref e0]) l0 = some (.lst [V.ref e0]) := upd_same
    have freeB : ∀ {H' : Hp} {x : Addr}, But o H H' → H' o ≠ none → H' x = none → H x = none := fun B h n => B.free (fun q => h (by rw [← q]; exact n)) n
    have fl0 : H l0 = none := freeB B3 (by rw [ho3]; exact nofun) (S34.free nl0)
    generalize upd H4 l0 (.lst [V.ref e0]) = H5 at *
    have S35 := S34.trans S45
    have B5 : But o H H5 := B3.trans (But.same S35)
    have ho5 := S35 _ _ ho3
    have ht5 := S35 _ _ ht3
    obtain ⟨dp, ct, hp, hct⟩ := id hT
    have noc : ct ≠ o := (ne_of ho hct nofun).symm
    have hp5 : H5 p = some (.ins CT dp [("columns", .ref ct)]) := by
      refine B5 _ _ (fun q => ?_) hp
      rw [q, ho] at hp
      cases hp
    refine ⟨_, rfl, p, CT, dp, _, _, rfl, hp5, TC.cl, TC.nC, rfl, ct, rfl, ⟨_, SqT.of (B5 _ _ noc hct)⟩, ?_⟩
    refine for_tup (xs := cs) (fun i σ H' => ∃ (l : Addr) (xs : List V) (t4 t5 t6 : Option V), σ = [some (.ref o), some (.ref p), some (.ref a), some (.ref l), t4, t5, t6] ∧ But o H H' ∧ H' o = some (.ins C dx [("numbers", .ref t)]) ∧ H' t = some (.tup ((ascL ms).map V.int)) ∧ H l = none ∧ H' l = some (.lst xs) ∧ Rws H' (rowsOf (spotsL (ascL ms)) i) xs)
      ⟨_, _, _, _, _, rfl, B5, ho5, ht5, fl0, hl0, ⟨_, _, rfl, ⟨e0, rfl, S45 _ _ he0⟩, rfl⟩⟩ (fun i σ H' _ ⟨_, _, _, _, _, _, B, _⟩ => SqT.of (B _ _ noc hct)) ?_ ?_
    · rintro i x σ H6 hi ⟨l, xs, t4, t5, t6, rfl, B6, ho6, ht6, fl, hl, hR⟩
      have hik : i < cs.length := (List.getElem?_eq_some_iff.mp hi).1
      have hxl := Rws.len hR
      refine ⟨_, rfl, l, rfl, ⟨_, SqL.of hl⟩, fun D nD => ?_⟩
      have nlD : l ≠ D := ne_of_none hl nD
      have noD : o ≠ D := ne_of_none ho6 nD
      have ntD : t ≠ D := ne_of_none ht6 nD
      have fD : H D = none := freeB B6 (by rw [ho6]; exact nofun) nD
      -- what holds while the rows are made
      let Inv := fun (done : List (List Int)) (H' : Hp) => But o H H' ∧ H' o = some (.ins C dx [("numbers", .ref t)]) ∧ H' t = some (.tup ((ascL ms).map V.int)) ∧ H' l = some (.lst xs) ∧ Rws H' (rowsOf (spotsL (ascL ms)) i) xs ∧ ∃ acc, H' D = some (.lst acc) ∧ Rws H' done acc
      have total : ∀ j, (((rowsOf (spotsL (ascL ms)) i).take j).flatMap fun r => (spotsL (ascL ms) r).map fun s => r ++ [s]).length ≤ (rowsOf (spotsL (ascL ms)) (i + 1)).length := fun j => by
        show _ ≤ ((rowsOf (spotsL (ascL ms)) i).flatMap fun r => (spotsL (ascL ms) r).map fun s => r ++ [s]).length
        conv => rhs; rw [← List.take_append_drop j (rowsOf (spotsL (ascL ms)) i), List.flatMap_append, List.length_append]
        omega
      have small := rows_small hn10 (k := i + 1) (by omega)
      refine walk_list (xs := xs) (fun j H' => Inv (((rowsOf (spotsL (ascL ms)) i).take j).flatMap fun r => (spotsL (ascL ms) r).map fun s => r ++ [s]) H') ?_ ?_ ?_ ?_
      · exact ⟨B6.new nD, by rw [upd_ne noD]; exact ho6, by rw [upd_ne ntD]; exact ht6, by rw [upd_ne nlD]; exact hl, Rws.lsts (Lsts.same (same_newH nD)) hR, [], upd_same, rfl⟩
      · exact fun j H' _ h => SqL.of h.2.2.2.1
      · rintro j y H7 hj ⟨B7, ho7, ht7, hl7, hR7, acc, hD, hA⟩
        obtain ⟨r, hr, hy⟩ := Rws.get hR7 hj
        have hrl : r.length = i := rows_len (List.mem_of_getElem? hr)
        have hsl := spotsL_len (ascL ms) r
        have snoc : (((rowsOf (spotsL (ascL ms)) i).take (j + 1)).flatMap fun r => (spotsL (ascL ms) r).map fun s => r ++ [s]) = (((rowsOf (spotsL (ascL ms)) i).take j).flatMap fun r => (spotsL (ascL ms) r).map fun s => r ++ [s]) ++ (spotsL (ascL ms) r).map fun s => r ++ [s] := by
          rw [take_snoc hr, List.flatMap_append]
          simp only [List.flatMap_cons, List.flatMap_nil, List.append_nil]
        have tot := total (j + 1)
        rw [snoc, List.length_append, List.length_map] at tot
        rw [snoc]
        generalize (((rowsOf (spotsL (ascL ms)) i).take j).flatMap fun r => (spotsL (ascL ms) r).map fun s => r ++ [s]) = done at hA tot
        refine ⟨rfl, ?_⟩
        refine ⟨_, rfl, o, dx, _, rfl, ho7, rfl, _, rfl, o, y, ascL ms, r, rfl, ⟨dx, _, t, ho7, rfl, ht7, rfl⟩, ascL_asc ms, hn10, hy, by omega, fun l2 H8 S8 fl2 hl2 => ?_⟩
        have hD8 := S8 _ _ hD
        have nl2D : l2 ≠ D := (ne_of_none hD fl2).symm
        have fD' : H D = none := fD
        refine ⟨l2, rfl, ⟨_, SqL.of hl2⟩, ?_⟩
        refine walk_list (xs := (spotsL (ascL ms) r).map V.int) (fun jj H' => Inv (done ++ ((spotsL (ascL ms) r).take jj).map fun s => r ++ [s]) H' ∧ H' l2 = some (.lst ((spotsL (ascL ms) r).map V.int)) ∧ IntT H' y r) ?_ ?_ ?_ ?_
        · refine ⟨⟨B7.trans (But.same S8), S8 _ _ ho7, S8 _ _ ht7, S8 _ _ hl7, Rws.lsts (Lsts.same S8) hR7, acc, hD8, ?_⟩, hl2, hy.lsts (Lsts.same S8)⟩
          rw [List.take_zero, List.map_nil, List.append_nil]
          exact Rws.lsts (Lsts.same S8) hA
        · exact fun jj H' _ h => SqL.of h.2.1
        · rintro jj v H9 hjj ⟨⟨B9, ho9, ht9, hl9, hR9, acc9, hD9, hA9⟩, hl29, hy9⟩
          obtain ⟨s, rfl, hs⟩ : ∃ s, v = .int s ∧ (spotsL (ascL ms) r)[jj]? = some s := by
            rw [List.getElem?_map] at hjj
            cases e : (spotsL (ascL ms) r)[jj]? with
            | none => rw [e] at hjj; cases hjj
            | some n => rw [e] at hjj; cases hjj; exact ⟨n, rfl, rfl⟩
          obtain ⟨ty, ey, hty⟩ := id hy9
          have hjl : jj < (spotsL (ascL ms) r).length := (List.getElem?_eq_some_iff.mp hs).1
          refine ⟨rfl, ?_⟩
          refine ⟨_, rfl, ty, _, ey, .inl (SqT.of hty), _, rfl, Nat.le_of_lt (small1000 (by rw [List.length_append, len_ints]; show r.length + 1 ≤ 1000; omega)), fun p np => ?_⟩
          have Sp := same_newH (o := .tup (r.map V.int ++ [V.int s])) np
          have hp9 : upd H9 p (.tup (r.map V.int ++ [V.int s])) p = some (.tup ((r ++ [s]).map V.int)) := by rw [upd_same, List.map_append]; rfl
          have pD : p ≠ D := (ne_of_none hD9 np).symm
          have hD10 := Sp _ _ hD9
          have L := (Lsts.same Sp).trans (Lsts.put (o := .lst (acc9 ++ [V.ref p])) hD10)
          have hal := Rws.len hA9
          refine ⟨acc9, hD10, ?_, ⟨?_, ?_, ?_, ?_, Rws.lsts L hR9, _, upd_same, ?_⟩, ?_, hy9.lsts L⟩
          · rw [← hal, List.length_append, List.length_map, List.length_take]
            omega
          · intro x u n e
            rw [upd_ne (ne_of_none e fD)]
            exact Sp _ _ (B9 _ _ n e)
          · exact L _ _ ho9 nofun
          · exact L _ _ ht9 nofun
          · rw [upd_ne nlD]
            exact Sp _ _ hl9
          · rw [take_snoc hs, List.map_append, ← List.append_assoc]
            exact Rws.snoc ⟨p, rfl, by rw [upd_ne pD]; exact hp9⟩ (Rws.lsts L hA9)
          · rw [upd_ne nl2D]
            exact Sp _ _ hl29
        · rintro H9 ⟨⟨B9, ho9, ht9, hl9, hR9, acc9, hD9, hA9⟩, hl29, hy9⟩
          rw [List.length_map, List.take_length] at hA9
          exact ⟨B9, ho9, ht9, hl9, hR9, acc9, hD9, hA9⟩
      · rintro H7 ⟨B7, ho7, ht7, hl7, hR7, acc, hD, hA⟩
        rw [← hxl, List.take_length] at hA
        exact ⟨D, acc, _, _, _, rfl, B7, ho7, ht7, fD, hD, hA⟩
    · rintro σ H6 ⟨l, xs, t4, t5, t6, rfl, B6, ho6, ht6, fl, hl, hR⟩
      refine ⟨_, rfl, _, rfl, o, C, dx, _, rfl, ho6, TK.cl, TK.nR, (by show 1 < 1000; decide), ?_⟩
      have nol : l ≠ o := fun q => by
        rw [q, ho6] at hl
        cases hl
      refine k l xs _ (fun x u n e => ?_) fl ⟨⟨dx, t, upd_same, ?_⟩, ?_, ?_⟩
      · rw [upd_ne n]
        exact B6 _ _ n e
      · rw [upd_ne not.symm]
        exact ht6
      · rw [upd_ne nol]
        exact hl
      · refine rws_keep (fun x xs' h => ?_) hR
        rw [upd_ne (fun q => by rw [q, ho6] at h; cases h)]
        exact h

theorem sc_Kinds_alike : FnScope ["self", "row", "one", "other"] ["self", "row", "one", "other"] (defScope s_Kinds_alike) := ⟨rfl, rfl, rfl, by decide +kernel, rfl, by decide +kernel, by decide +kernel⟩
theorem ok_Kindsalike {fp fe : Addr} {fdp fde : FuncData} (F : FnM K "alike" "Kinds.alike" s_Kinds_alike f fd) (T : Free mg) (TK : TxK K C) (c_place : Cal P w K mg base CX0 1 "place" fp fdp ["numbers", "integer"] (spPlace K)) (c_equals : Cal P w K mg base CX0 1 "equals" fe fde ["row", "integer"] (spEquals K)) : FnOk P w K mg base CX0 2 f fd ["self", "row", "one", "other"] (spAlike K C) := by
  refine F.ok sc_Kinds_alike (fun vs H Q E h => ?_) (fun cdv A outer s H vs Q E hr h => ⟨_, PSs.nox (pss_one (ps_ret (pe_and (pe_cmpR (op_eqD (hu_of' hr)) (pe_cal c_place (hr.mono (by decide)) (pa_cons (pe_fld (pv 0) rfl) (pa_cons (pv 2) pa_nil))) (pe_cal c_place (hr.mono (by decide)) (pa_cons (pe_fld (pv 0) rfl) (pa_cons (pv 3) pa_nil))) (nomark _)) (pe_one (pe_cmpR (op_eqD (hu_of' hr)) (pe_cal c_equals (hr.mono (by decide)) (pa_cons (pv 1) (pa_cons (pv 2) pa_nil))) (pe_cal c_equals (hr.mono (by decide)) (pa_cons (pv 1) (pa_cons (pv 3) pa_nil))) (nomark _)))))), ?_⟩)
  · obtain ⟨k, v, ns, r, x, y, rfl, _⟩ := h
    rfl
  · obtain ⟨o, v, ns, r, x, y, rfl, ⟨dx, fs, nt, ho, hf, hnt, _⟩, hn, ⟨tv, rfl, hv⟩, hr10, k⟩ := h
    refine ⟨_, rfl, o, C, dx, fs, _, rfl, ho, TK.cl, TK.nN, hf, _, rfl, nt, ns, x, rfl, SqT.of hnt, by omega, fun l1 a1 H1 S1 f1 h1 d1 => ?_⟩
    refine ⟨_, rfl, o, C, dx, fs, _, rfl, S1 _ _ ho, TK.cl, TK.nN, hf, _, rfl, nt, ns, y, rfl, SqT.of (S1 _ _ hnt), by omega, fun l2 a2 H2 S2 f2 h2 d2 => ?_⟩
    have p1 : Dp K H2 (.ref l1) (placeL ns x) := .lst (SqL.of (S2 _ _ h1)) (DqA.dp _ _ (DqA.buts (Buts.of_same S2) _ _ d1))
    have p2 : Dp K H2 (.ref l2) (placeL ns y) := .lst (SqL.of h2) (DqA.dp _ _ d2)
    refine ⟨_, _, p1, p2, lay_shaped (lay_placeL ns x) (by decide), lay_shaped (lay_placeL ns y) (by decide), _, rfl, ?_⟩
    have S02 := S1.trans S2
    cases e1 : PyData.eqv (placeL ns x) (placeL ns y) with
    | false =>
      refine iteF ?_
      exact k _ false S02 ⟨nofun, fun q => by rw [(alike_iff.mp q).1] at e1; cases e1⟩
    | true =>
    refine iteT ?_
    have hv2 := S02 _ _ hv
    refine ⟨_, rfl, _, rfl, tv, r, x, rfl, SqT.of hv2, by omega, fun l3 H3 S3 f3 h3 => ?_⟩
    refine ⟨_, rfl, _, rfl, tv, r, y, rfl, SqT.of (S3 _ _ hv2), by omega, fun l4 H4 S4 f4 h4 => ?_⟩
    have p3 : Dp K H4 (.ref l3) (equalsL r x) := .lst (SqL.of (S4 _ _ h3)) (DqA.dp _ _ (bools_dq (bs := [])))
    have p4 : Dp K H4 (.ref l4) (equalsL r y) := .lst (SqL.of h4) (DqA.dp _ _ (bools_dq (bs := [])))
    refine ⟨_, _, p3, p4, lay_shaped (lay_equalsL r x) (by decide), lay_shaped (lay_equalsL r y) (by decide), ?_⟩
    exact k _ _ (S02.trans (S3.trans S4)) ⟨fun q => alike_iff.mpr ⟨e1, q⟩, fun q => (alike_iff.mp q).2⟩

end
end K06

namespace K06
open PySem PySem.Spec PyProof.Rows L2 Own
section
variable {P : Program} {w : World} {K : PySem.W.Frag} {mg : Str → Option Value} {base : Heap} {f C : Addr} {fd : FuncData}
theorem sc_law_long : FnScope ["bag", "blocks", "worth", "turn"] ["bag", "blocks"] (defScope s_law_long) := ⟨rfl, rfl, rfl, by decide +kernel, rfl, by decide +kernel, by decide +kernel⟩
theorem ok_long {ft : Addr} {fdt : FuncData} (F : FnP K "_law_long" s_law_long f fd) (T : Free mg) (c_law_take : Cal P w K mg base CX0 1 "_law_take" ft fdt ["bag", "many"] spTake) : FnOk P w K mg base CX0 2 f fd ["bag", "blocks"] spLongB := by
  refine F.ok sc_law_long (fun vs H Q E h => ?_) (fun cdv A outer s H vs Q E hr h => ⟨_, PSs.nox (pss_cons (ps_set (i := 2) sc_law_long.nd rfl (Or.inl rfl) pe_int)
 (pss_cons (ps_for PassesOwn.never rfl (pi_range1 (by rfl) T.range (pa_cons (pe_op op_add pe_int (pe_cal c_law_take (hr.mono (by decide)) (pa_cons (pv 0) (pa_cons (pv 1) pa_nil)))) pa_nil)) (pg_name (i := 3) sc_law_long.nd rfl (Or.inl rfl))
 (pss_one (ps_set (i := 2) sc_law_long.nd rfl (Or.inl rfl) (pe_op op_add (pe_op op_mul (pv 2) (pe_op op_pow pe_int pe_int)) (pe_cal c_law_take (hr.mono (by decide)) (pa_cons (pv 0) (pa_cons (pe_op op_pow pe_int pe_int) pa_nil)))))))
 (pss_one (ps_ret (pe_ifExp (pt_cmpR op_eq (pe_cal c_law_take (hr.mono (by decide)) (pa_cons (pv 0) (pa_cons pe_int pa_nil))) pe_int (nomark _)) (pv 2) (pe_un un_neg (pv 2))))))), ?_⟩)
  · obtain ⟨b, m, rfl, _⟩ := h
    rfl
  · obtain ⟨b, m, rfl, hb, hm0, hm3, k⟩ := h
    refine ⟨_, rfl, _, rfl, b, _, rfl, hb, by omega, by omega, fun d H1 h0 h1 B1 hb1 => ?_⟩
    refine ⟨_, _, rfl, rfl, _, rfl, by omega, by omega, ?_⟩
    refine for_range (fun i σ H' => ∃ (n : Int) (tv : Option V), σ = [some (.ref b), some (.int m), some (.int n), tv] ∧ But b H H' ∧ Bag H' b ∧ 0 ≤ n ∧ n < 10 ^ (6 * i)) ⟨0, none, rfl, B1, hb1, by decide, by decide⟩ ?_ ?_
    · rintro i σ H' hi ⟨n, tv, rfl, B, hB, n0, n1⟩
      refine ⟨_, rfl, _, _, rfl, rfl, ⟨by decide, by decide, by decide⟩, _, _, rfl, rfl, .inr ⟨by decide, by decide⟩, ?_⟩
      refine ⟨_, rfl, _, _, rfl, rfl, ⟨by decide, by decide, by decide⟩, b, _, rfl, hB, by decide, by decide, fun d H3 h0 h1 B3 hb3 => ?_⟩
      have e1 : d < 1000000 := h1
      have e2 : (10 : Int) ^ (6 * (i + 1)) = 10 ^ (6 * i) * 1000000 := by rw [Nat.mul_add, Int.pow_add]; rfl
      refine ⟨_, _, rfl, rfl, _, _, rfl, B.trans B3, hb3, ?_, ?_⟩
      · show 0 ≤ n * 1000000 + d
        omega
      · show n * 1000000 + d < _
        rw [e2]
        omega
    · rintro σ H' ⟨n, tv, rfl, B, hB, n0, n1⟩
      have hle : 10 ^ (6 * (1 + d - 0).toNat) ≤ (10 : Int) ^ 198 := pow10_le (by omega)
      have hn : n.natAbs < 10 ^ 198 := by
        have h2 : n < (10 : Int) ^ 198 := by
          refine Int.lt_of_lt_of_le ?_ hle
          simpa using n1
        have h3 : (10 : Int) ^ 198 = ((10 ^ 198 : Nat) : Int) := pow10_cast 198
        omega
      refine ⟨_, rfl, b, _, rfl, hB, by decide, by decide, fun d H3 h0 h1 B3 hb3 => ?_⟩
      refine ⟨rfl, _, rfl, ite2 (fun _ => ?_) (fun _ => ?_)⟩
      · exact ⟨_, rfl, k _ _ hn (B.trans B3) hb3⟩
      · exact ⟨_, rfl, _, rfl, k _ _ (by rw [Int.natAbs_neg]; exact hn) (B.trans B3) hb3⟩

theorem sc_law_numbers : FnScope ["bag", "worth", "found", "turn"] ["bag"] (defScope s_law_numbers) := ⟨rfl, rfl, rfl, by decide +kernel, rfl, by decide +kernel, by decide +kernel⟩
theorem ok_numbers {ft fo fl : Addr} {fdt fdo fdl : FuncData} (F : FnP K "_law_numbers" s_law_numbers f fd) (T : Free mg) (c_law_take : Cal P w K mg base CX0 1 "_law_take" ft fdt ["bag", "many"] spTake) (c_law_of : Cal P w K mg base CX0 2 "_law_of" fo fdo ["bag", "some"] (spOf K))
    (c_law_long : Cal P w K mg base CX0 2 "_law_long" fl fdl ["bag", "blocks"] spLongB) : FnOk P w K mg base CX0 3 f fd ["bag"] spNums := by
  refine F.ok sc_law_numbers (fun vs H Q E h => ?_) (fun cdv A outer s H vs Q E hr h => ⟨_, PSs.nox (pss_cons (ps_set (i := 1) sc_law_numbers.nd rfl (Or.inl rfl) (pe_ifExp (pt_cmpR op_eq (pe_cal c_law_take (hr.mono (by decide)) (pa_cons (pv 0) (pa_cons pe_int pa_nil))) pe_int (nomark _)) (pe_cal c_law_long (hr.mono (by decide)) (pa_cons (pv 0) (pa_cons pe_int pa_nil))) (pe_op op_sub (pe_cal c_law_take (hr.mono (by decide)) (pa_cons (pv 0) (pa_cons pe_int pa_nil))) pe_int)))
 (pss_cons (ps_set (i := 2) sc_law_numbers.nd rfl (Or.inl rfl) (pe_lst pa_nil))
 (pss_cons (ps_for PassesOwn.never rfl (pi_range1 (by rfl) T.range (pa_cons (pe_cal c_law_take (hr.mono (by decide)) (pa_cons (pv 0) (pa_cons pe_int pa_nil))) pa_nil)) (pg_name (i := 3) sc_law_numbers.nd rfl (Or.inl rfl))
 (pss_cons (ps_expr (pe_bm PySem.F.plainAttrs_list PySem.F.slot_list_append PySem.F.type_list_append mt_append (pv 2) (pa_cons (pv 1) pa_nil)))
 (pss_one (ps_set (i := 1) sc_law_numbers.nd rfl (Or.inl rfl) (pe_op op_add (pv 1) (pe_cal c_law_of (hr.mono (by decide)) (pa_cons (pv 0) (pa_cons (pe_lst (pa_cons pe_int (pa_cons pe_int (pa_cons pe_int (pa_cons pe_int (pa_cons pe_int (pa_cons pe_int (pa_cons pe_int (pa_cons pe_int (pa_cons pe_int (pa_cons (pe_op op_add pe_int (pe_cal c_law_take (hr.mono (by decide)) (pa_cons (pv 0) (pa_cons (pe_op op_pow pe_int pe_int) pa_nil)))) pa_nil))))))))))) pa_nil))))))))
 (pss_one (ps_ret (pv 2)))))), ?_⟩)
  · obtain ⟨b, rfl, _⟩ := h
    rfl
  · obtain ⟨b, rfl, hb, k⟩ := h
    refine' pickIH (fun n H1 => n.natAbs < 10 ^ 198 ∧ But b H H1 ∧ Bag H1 b) ?main ?rest
    case main =>
      intro go
      refine ⟨_, rfl, b, _, rfl, hb, by decide, by decide, fun d H1 h0 h1 B1 hb1 => ?_⟩
      refine ⟨rfl, _, rfl, ite2 (fun _ => ?_) (fun _ => ?_)⟩
      · exact ⟨_, rfl, b, _, rfl, hb1, by decide, by decide, fun n H2 hn B2 hb2 => go n H2 ⟨hn, B1.trans B2, hb2⟩⟩
      · refine ⟨_, rfl, b, _, rfl, hb1, by decide, by decide, fun d2 H2 h2 h3 B2 hb2 => ?_⟩
        refine ⟨_, _, rfl, rfl, ?_⟩
        exact go (d2 - 4) H2 ⟨by
          have : (d2 - 4).natAbs < 10 := by omega
          exact Nat.lt_of_lt_of_le this (by decide +kernel), B1.trans B2, hb2⟩
    case rest =>
      rintro n0 H1 ⟨hn0, B1, hb1⟩
      refine ⟨Nat.zero_le _, fun l nl => ?_⟩
      have nlb : l ≠ b := (hb1.ne nl).symm
      have hHl : H l = none := B1.free nlb nl
      refine ⟨_, rfl, b, _, rfl, hb1.new nl, by decide, by decide, fun d H2 d0 d1 B2 hb2 => ?_⟩
      refine ⟨_, rfl, by omega, by omega, ?_⟩
      have hl2 := B2 _ _ nlb (upd_same (H := H1) (a := l) (o := .lst []))
      refine for_range (fun i σ H' => ∃ (ns : List Int) (x : Int) (tv : Option V), σ = [some (.ref b), some (.int x), some (.ref l), tv] ∧ But b H H' ∧ Bag H' b ∧ H' l = some (.lst (ns.map V.int)) ∧ Asc ns ∧ (∀ n ∈ ns, n < x ∧ n0 ≤ n) ∧ n0 ≤ x ∧ x ≤ n0 + 2000000 * (i : Int) ∧ ns.length = i)
        ⟨[], n0, none, rfl, (B1.new nl).trans B2, hb2, hl2, .nil, (fun _ h => by cases h), Int.le_refl _, by omega, rfl⟩ ?_ ?_
      · rintro i σ H3 hi ⟨ns, x, tv, rfl, B3, hb3, hl3, ha, hx, hx0, hx1, hlen⟩
        refine ⟨_, rfl, .inl ⟨rfl, _, SqL.of hl3⟩, _, rfl, l, _, _, rfl, rfl, hl3, small1000 (by rw [len_ints]; omega), ?_⟩
        have hb4 : Bag (upd H3 l (.lst (ns.map V.int ++ [V.int x]))) b := hb3.put nlb.symm
        have B4 : But b H (upd H3 l (.lst (ns.map V.int ++ [V.int x]))) := B3.putb hHl
        have hl4 : upd H3 l (.lst (ns.map V.int ++ [V.int x])) l = some (.lst ((ns ++ [x]).map V.int)) := by rw [upd_same, List.map_append]; rfl
        generalize upd H3 l (.lst (ns.map V.int ++ [V.int x])) = H4 at *
        refine ⟨_, rfl, _, rfl, _, rfl, _, _, rfl, rfl, ⟨by decide, by decide, by decide⟩, b, _, rfl, hb4, by decide, by decide, fun e H5 e0 e1 B5 hb5 => ?_⟩
        have e2 : e < 1000000 := e1
        refine ⟨_, _, rfl, rfl, ?_⟩
        refine ⟨?_, fun q nq => ?_⟩
        · show _ ≤ sizeLine
          exact Nat.le_of_lt (small1000 (by simp only [List.length_cons, List.length_nil]; omega))
        have hl5 := B5 _ _ nlb hl4
        have Sq : ∀ o, Same H5 (upd H5 q o) := fun o => same_newH nq
        refine ⟨b, q, _, rfl, hb5.new nq, (hb5.ne nq).symm, SqL.of upd_same, (fun z => nomatch z), (by simp only [List.length_cons, List.length_nil]; omega), fun v H6 hv B6 hb6 => ?_⟩
        obtain ⟨g, rfl, g0, g1⟩ : ∃ g : Int, v = .int g ∧ 1 ≤ g ∧ g ≤ 2000000 := by
          simp only [List.mem_cons, List.not_mem_nil, or_false] at hv
          repeat (rcases hv with h | hv; exact ⟨_, h, by decide, by decide⟩)
          exact ⟨_, hv, by omega, by omega⟩
        have hl6 := B6 _ _ nlb (Sq _ _ _ hl5)
        refine ⟨_, _, rfl, rfl, ?_⟩
        refine ⟨ns ++ [x], x + g, _, rfl, (B4.trans B5).trans ((But.same (Sq _)).trans B6), hb6, hl6, ?_, ?_, by omega, ?_, by rw [List.length_append, hlen]; rfl⟩
        · exact List.pairwise_append.mpr ⟨ha, List.pairwise_singleton .., fun a ha b hb => by rw [List.mem_singleton.mp hb]; exact (hx a ha).1⟩
        · intro n hn
          rcases List.mem_append.mp hn with hn | hn
          · have := hx n hn
            exact ⟨by omega, this.2⟩
          · rw [List.mem_singleton.mp hn]
            exact ⟨by omega, hx0⟩
        · rw [Int.natCast_succ]
          omega
      · rintro σ H3 ⟨ns, x, tv, rfl, B3, hb3, hl3, ha, hx, hx0, hx1, hlen⟩
        have hd : (d.toNat : Int) ≤ 4 := by omega
        refine ⟨_, rfl, k ns l H3 ha (by omega) (fun n hn => ?_) hHl nlb hl3 B3 hb3⟩
        have h3 := hx n hn
        have e10 : (10 : Nat) ^ 199 = 10 ^ 198 * 10 := Nat.pow_succ ..
        have e11 : (10000000 : Nat) ≤ 10 ^ 198 := by decide +kernel
        generalize (10 : Nat) ^ 198 = B at *
        rw [e10]
        omega

theorem sc_law_view : FnScope ["value", "row", "numbers", "found", "number", "other"] ["value", "row", "numbers"] (defScope s_law_view) := ⟨rfl, rfl, rfl, by decide +kernel, rfl, by decide +kernel, by decide +kernel⟩
theorem ok_view (F : FnP K "_law_view" s_law_view f fd) (T : Free mg) : FnOk P w K mg base CX0 1 f fd ["value", "row", "numbers"] (spViewI K) := by
  refine F.ok sc_law_view (fun vs H Q E h => ?_) (fun cdv A outer s H vs Q E hr h => ⟨_, PSs.nox (pss_cons (ps_setLc (i := 3) (py := _) (own := [("number", 4)]) rfl sc_law_view.nd rfl rfl (sw_true rfl rfl rfl (by decide +kernel)) (pi_list (pv 2)) (blkOk_by (N := ["value", "row", "numbers", "found", "number", "other"]) (sc := defScope s_law_view) (by decide +kernel)) (fun _ _ _ _ _ => (pg_name (i := 4) sc_law_view.nd rfl (Or.inl rfl))) (fun _ _ _ _ _ => pts_nil) (fun _ _ _ _ _ => (pe_ifExp (pt_cmpR op_lt (pv 0) (pv 4) (nomark _)) pe_int (pe_ifExp (pt_cmpR op_eq (pv 0) (pv 4) (nomark _)) pe_int pe_int))))
 (pss_one (ps_ret (pe_op op_cat (pv 3) (pe_lc (own := [("other", 5)]) rfl sc_law_view.nd (pi_tup (pv 1)) (blkOk_by (N := ["value", "row", "numbers", "found", "number", "other"]) (sc := defScope s_law_view) (by decide +kernel)) (fun _ _ _ _ _ => (pg_name (i := 5) sc_law_view.nd rfl (Or.inl rfl))) (fun _ _ _ _ _ => pts_nil) (fun _ _ _ _ _ => (pe_ifExp (pt_cmpR op_eq (pv 0) (pv 5) (nomark _)) pe_int pe_int))))))), ?_⟩)
  · obtain ⟨x, v, l, r, ns, rfl, _⟩ := h
    rfl
  · obtain ⟨x, v, l, r, ns, rfl, ⟨tv, rfl, hv⟩, hl, hr3, hn4, k⟩ := h
    refine ⟨_, rfl, l, rfl, ⟨_, SqL.of hl⟩, fun D nD => ?_⟩
    have nlD : l ≠ D := ne_of_none hl nD
    refine lc_list (xs := ns.map V.int) (fun i H' => H' = upd H D (.lst (((ns.take i).map (cmpI x)).map V.int))) rfl (fun i H' _ e => by subst e; exact SqL.of (by rw [upd_ne nlD]; exact hl)) (fun i y H' hy e => ?_) (fun H1 e => ?_)
    · subst e
      obtain ⟨n, rfl, hn⟩ : ∃ n, y = .int n ∧ ns[i]? = some n := by
        rw [List.getElem?_map] at hy
        cases e : ns[i]? with
        | none => rw [e] at hy; cases hy
        | some n => rw [e] at hy; cases hy; exact ⟨n, rfl, rfl⟩
      have fin : ∀ c, c = cmpI x n → ∃ acc, upd H D (.lst (((ns.take i).map (cmpI x)).map V.int)) D = some (.lst acc) ∧ acc.length < sizeLine ∧ upd (upd H D (.lst (((ns.take i).map (cmpI x)).map V.int))) D (.lst (acc ++ [V.int c])) = upd H D (.lst (((ns.take (i + 1)).map (cmpI x)).map V.int)) := by
        intro c ec
        refine ⟨_, upd_same, small1000 (by rw [len_ints, List.length_map, List.length_take]; omega), ?_⟩
        rw [upd_upd, take_snoc hn, List.map_append, List.map_append, ec]
        rfl
      refine ⟨rfl, ?_⟩
      refine ⟨_, rfl, _, rfl, _, _, rfl, rfl, _, rfl, ite2 (fun h1 => ?_) (fun h1 => ?_)⟩
      · have h1 : x < n := of_decide_eq_true h1
        exact fin 0 (by unfold cmpI; rw [if_pos h1])
      · have h1 : ¬ x < n := fun z => h1 (decide_eq_true z)
        refine ⟨_, rfl, _, rfl, rfl, _, rfl, ite2 (fun h2 => ?_) (fun h2 => ?_)⟩
        · have h2 : V.int x = V.int n := of_decide_eq_true h2
          exact fin 1 (by unfold cmpI; rw [if_neg h1, if_pos (V.int.inj h2)])
        · have h2 : ¬ x = n := fun z => h2 (decide_eq_true (by rw [z]))
          exact fin 2 (by unfold cmpI; rw [if_neg h1, if_neg h2])
    · rw [List.length_map, List.take_length] at e
      have S1 : Same H H1 := by subst e; exact same_newH nD
      have hD1 : H1 D = some (.lst ((ns.map (cmpI x)).map V.int)) := by subst e; exact upd_same
      clear e
      have hv1 := S1 _ _ hv
      refine ⟨_, rfl, _, rfl, tv, rfl, ⟨_, SqT.of hv1⟩, fun E2 nE => ?_⟩
      have nDE : D ≠ E2 := ne_of_none hD1 nE
      have ntE : tv ≠ E2 := ne_of_none hv1 nE
      refine lc_tup (xs := r.map V.int) (fun i H' => H' = upd H1 E2 (.lst (((r.take i).map (eqJ x)).map V.int))) rfl (fun i H' _ e => by subst e; exact SqT.of (by rw [upd_ne ntE]; exact hv1)) (fun i y H' hy e => ?_) (fun H2 e => ?_)
      · subst e
        obtain ⟨n, rfl, hn⟩ : ∃ n, y = .int n ∧ r[i]? = some n := by
          rw [List.getElem?_map] at hy
          cases e : r[i]? with
          | none => rw [e] at hy; cases hy
          | some n => rw [e] at hy; cases hy; exact ⟨n, rfl, rfl⟩
        have fin : ∀ c, c = eqJ x n → ∃ acc, upd H1 E2 (.lst (((r.take i).map (eqJ x)).map V.int)) E2 = some (.lst acc) ∧ acc.length < sizeLine ∧ upd (upd H1 E2 (.lst (((r.take i).map (eqJ x)).map V.int))) E2 (.lst (acc ++ [V.int c])) = upd H1 E2 (.lst (((r.take (i + 1)).map (eqJ x)).map V.int)) := by
          intro c ec
          refine ⟨_, upd_same, small1000 (by rw [len_ints, List.length_map, List.length_take]; omega), ?_⟩
          rw [upd_upd, take_snoc hn, List.map_append, List.map_append, ec]
          rfl
        refine ⟨rfl, ?_⟩
        refine ⟨_, rfl, _, rfl, rfl, _, rfl, ite2 (fun h2 => ?_) (fun h2 => ?_)⟩
        · have h2 : V.int x = V.int n := of_decide_eq_true h2
          exact fin 3 (by unfold eqJ; rw [if_pos (V.int.inj h2)])
        · have h2 : ¬ x = n := fun z => h2 (decide_eq_true (by rw [z]))
          exact fin 4 (by unfold eqJ; rw [if_neg h2])
      · rw [List.length_map, List.take_length] at e
        have S2 : Same H1 H2 := by subst e; exact same_newH nE
        have hE2 : H2 E2 = some (.lst ((r.map (eqJ x)).map V.int)) := by subst e; exact upd_same
        have hD2 := S2 _ _ hD1
        clear e
        refine ⟨D, E2, _, _, rfl, rfl, hD2, hE2, Nat.le_of_lt (small1000 (by rw [len_ints, len_ints, List.length_map, List.length_map]; omega)), fun p np => ?_⟩
        have S3 := same_newH (o := .lst ((ns.map (cmpI x)).map V.int ++ (r.map (eqJ x)).map V.int)) np
        exact k p _ (S1.trans (S2.trans S3)) (S1.free (S2.free np)) (by rw [upd_same, ← List.map_append]; rfl)
theorem sc_law_row : FnScope ["bag", "many", "numbers", "base", "row", "turn", "way"] ["bag", "many", "numbers"] (defScope s_law_row) := ⟨rfl, rfl, rfl, by decide +kernel, rfl, by decide +kernel, by decide +kernel⟩
theorem ok_row {ft fo fl : Addr} {fdt fdo fdl : FuncData} (F : FnP K "_law_row" s_law_row f fd) (T : Free mg) (c_law_take : Cal P w K mg base CX0 1 "_law_take" ft fdt ["bag", "many"] spTake) (c_law_of : Cal P w K mg base CX0 2 "_law_of" fo fdo ["bag", "some"] (spOf K))
    (c_law_long : Cal P w K mg base CX0 2 "_law_long" fl fdl ["bag", "blocks"] spLongB) : FnOk P w K mg base CX0 3 f fd ["bag", "many", "numbers"] spRowN := by
  refine F.ok sc_law_row (fun vs H Q E h => ?_) (fun cdv A outer s H vs Q E hr h => ⟨_, PSs.nox (pss_cons (ps_par (i := 3) (j := 4) rfl sc_law_row.nd rfl rfl (by decide) rfl rfl (pa_cons (pe_ifExp (pt_cmpR (op_neD (hu_of' hr)) (pv 2) (pe_lst pa_nil) (nomark _)) (pe_cal c_law_of (hr.mono (by decide)) (pa_cons (pv 0) (pa_cons (pv 2) pa_nil))) (pe_cal c_law_long (hr.mono (by decide)) (pa_cons (pv 0) (pa_cons pe_int pa_nil)))) (pa_cons (pe_lst pa_nil) pa_nil)) (by rfl))
 (pss_cons (ps_for PassesOwn.never rfl (pi_range1 (by rfl) T.range (pa_cons (pv 1) pa_nil)) (pg_name (i := 5) sc_law_row.nd rfl (Or.inl rfl))
 (pss_cons (ps_set (i := 6) sc_law_row.nd rfl (Or.inl rfl) (pe_cal c_law_take (hr.mono (by decide)) (pa_cons (pv 0) (pa_cons pe_int pa_nil))))
 (pss_one (ps_if (PW.pt (pw_and (pt_cmpR op_eq (pv 6) pe_int (nomark _)) (pw_and1 (pt_cmpR (op_neD (hu_of' hr)) (pv 4) (pe_lst pa_nil) (nomark _)))))
 (pss_one (ps_expr (pe_bm PySem.F.plainAttrs_list PySem.F.slot_list_append PySem.F.type_list_append mt_append (pv 4) (pa_cons (pe_cal c_law_of (hr.mono (by decide)) (pa_cons (pv 0) (pa_cons (pv 4) pa_nil))) pa_nil))))
 (pss_one (ps_if (pt_cmpR op_eq (pv 6) pe_int (nomark _))
 (pss_one (ps_expr (pe_bm PySem.F.plainAttrs_list PySem.F.slot_list_append PySem.F.type_list_append mt_append (pv 4) (pa_cons (pe_cal c_law_long (hr.mono (by decide)) (pa_cons (pv 0) (pa_cons pe_int pa_nil))) pa_nil))))
 (pss_one (ps_expr (pe_bm PySem.F.plainAttrs_list PySem.F.slot_list_append PySem.F.type_list_append mt_append (pv 4) (pa_cons (pe_ifExp (pt_cmpR op_gt (pv 6) pe_int (nomark _)) (pe_op op_add (pe_op op_add (pv 3) pe_int) (pe_cal c_law_take (hr.mono (by decide)) (pa_cons (pv 0) (pa_cons pe_int pa_nil)))) (pe_op op_sub (pe_op op_add (pv 3) (pe_cal c_law_take (hr.mono (by decide)) (pa_cons (pv 0) (pa_cons pe_int pa_nil)))) pe_int)) pa_nil))))))))))
 (pss_one (ps_ret (pe_callTy call_tuple_of (by rfl) T.tuple boot_tuple (pa_cons (pv 4) pa_nil)))))), ?_⟩)
  · obtain ⟨b, l, m, ns, rfl, _⟩ := h
    rfl
  · obtain ⟨b, l, m, ns, rfl, hb, m1, m3, hl, nlb, hn4, hnB, k⟩ := h
    refine' pickIH (fun x0 H1 => x0.natAbs < 10 ^ 199 ∧ But b H H1 ∧ Bag H1 b ∧ H1 l = some (.lst (ns.map V.int))) ?main ?rest
    case main =>
      intro go
      refine ⟨_, rfl, Nat.zero_le _, fun e ne => ?_⟩
      have SE := same_newH (o := .lst []) ne
      have hl1 := SE _ _ hl
      refine ⟨.list (ns.map PyData.int), .list [], .lst (SqL.of hl1) (dp_ints ns), .lst (SqL.of upd_same) .nil, shaped_ints ns, shaped_nil, _, rfl, ?_⟩
      rw [eqv_ints_nil]
      refine ite2 (fun hne => ?_) (fun hne => ?_)
      · have hne2 : ns ≠ [] := fun q => by
          rw [decide_eq_true q] at hne
          cases hne
        refine ⟨_, rfl, _, rfl, b, l, _, rfl, hb.new ne, nlb, SqL.of hl1, (fun z => hne2 (List.map_eq_nil_iff.mp z)), (by rw [len_ints]; omega), fun v H2 hv B2 hb2 => ?_⟩
        obtain ⟨x, hx, rfl⟩ := List.mem_map.mp hv
        exact go x H2 ⟨hnB x hx, (But.same SE).trans B2, hb2, B2 _ _ nlb hl1⟩
      · refine ⟨_, rfl, b, 33, rfl, hb.new ne, by decide, by decide, fun x H2 hx B2 hb2 => ?_⟩
        exact go x H2 ⟨Nat.lt_of_lt_of_le hx (Nat.pow_le_pow_right (by decide) (by decide)), (But.same SE).trans B2, hb2, B2 _ _ nlb hl1⟩
    case rest =>
      rintro x0 H0 ⟨hx0, B0, hb0, hl0⟩
      refine ⟨Nat.zero_le _, fun q nq => ?_⟩
      have nqb : q ≠ b := (hb0.ne nq).symm
      have nlq : l ≠ q := ne_of_none hl0 nq
      have nqH : H q = none := B0.free nqb nq
      refine ⟨_, _, rfl, ?_⟩
      refine ⟨_, rfl, _, rfl, by omega, by omega, ?_⟩
      refine for_range (fun i σ H' => ∃ (r : List Int) (t5 t6 : Option V), σ = [some (.ref b), some (.int m), some (.ref l), some (.int x0), some (.ref q), t5, t6] ∧ But b H H' ∧ Bag H' b ∧ H' q = some (.lst (r.map V.int)) ∧ r.length = i ∧ ∀ n ∈ r, n.natAbs < 10 ^ 200)
        ⟨[], none, none, rfl, B0.new nq, hb0.new nq, upd_same, rfl, (fun _ h => by cases h)⟩ ?_ ?_
      · rintro i σ H1 hi ⟨r, t5, t6, rfl, B1, hb1, hq1, hr1, hB1⟩
        have fin : ∀ (x : Int) (H2 : Hp) (t5 t6 : Option V), x.natAbs < 10 ^ 200 → But b H H2 → Bag H2 b → H2 q = some (.lst (r.map V.int)) →
            ∃ (r' : List Int) (t5' t6' : Option V), [some (.ref b), some (.int m), some (.ref l), some (.int x0), some (.ref q), t5, t6] = [some (.ref b), some (.int m), some (.ref l), some (.int x0), some (.ref q), t5', t6'] ∧ But b H (upd H2 q (.lst (r.map V.int ++ [V.int x]))) ∧ Bag (upd H2 q (.lst (r.map V.int ++ [V.int x]))) b ∧ upd H2 q (.lst (r.map V.int ++ [V.int x])) q = some (.lst (r'.map V.int)) ∧ r'.length = i + 1 ∧ ∀ n ∈ r', n.natAbs < 10 ^ 200 := by
          intro x H2 t5 t6 hx B hb2 hq2
          refine ⟨r ++ [x], t5, t6, rfl, B.putb nqH, hb2.put nqb.symm, by rw [upd_same, List.map_append]; rfl, by rw [List.length_append, hr1]; rfl, fun n hn => ?_⟩
          rcases List.mem_append.mp hn with hn | hn
          · exact hB1 n hn
          · rw [List.mem_singleton.mp hn]
            exact hx
        have hrl : (r.map V.int).length < sizeLine := small1000 (by rw [len_ints]; omega)
        have e10 : (10 : Nat) ^ 200 = 10 ^ 199 * 10 := Nat.pow_succ ..
        have e11 : (100 : Nat) ≤ 10 ^ 199 := by decide +kernel
        refine ⟨_, rfl, b, _, rfl, hb1, by decide, by decide, fun way H2 w0 w1 B2 hb2 => ?_⟩
        have hq2 := B2 _ _ nqb hq1
        have B02 := B1.trans B2
        refine' pickH (fun H3 => But b H H3 ∧ Bag H3 b ∧ H3 q = some (.lst (r.map V.int))) ?main2 ?rest2
        case main2 =>
          intro go
          refine ⟨_, rfl, rfl, _, rfl, ite2 (fun hw => ?a) (fun hw => iteF (go H2 ⟨B02, hb2, hq2⟩))⟩
          case a =>
            refine ⟨_, rfl, Nat.zero_le _, fun e ne => ?_⟩
            have SE := same_newH (o := .lst []) ne
            have hb3 := hb2.same SE
            have hq3 := SE _ _ hq2
            refine ⟨.list (r.map PyData.int), .list [], .lst (SqL.of hq3) (dp_ints r), .lst (SqL.of upd_same) .nil, shaped_ints r, shaped_nil, _, rfl, ?_⟩
            rw [eqv_ints_nil]
            refine ite2 (fun hne => ?_) (fun hne => ?_)
            · have hne2 : r ≠ [] := fun q => by
                rw [decide_eq_true q] at hne
                cases hne
              refine ⟨_, rfl, .inl ⟨rfl, _, SqL.of hq3⟩, _, rfl, _, rfl, b, q, _, rfl, hb3, nqb, SqL.of hq3, (fun z => hne2 (List.map_eq_nil_iff.mp z)), (by rw [len_ints]; omega), fun v H4 hv B4 hb4 => ?_⟩
              obtain ⟨x, hx, rfl⟩ := List.mem_map.mp hv
              refine ⟨q, _, _, rfl, rfl, B4 _ _ nqb hq3, hrl, ?_⟩
              exact fin x H4 _ _ (hB1 x hx) (B02.trans ((But.same SE).trans B4)) hb4 (B4 _ _ nqb hq3)
            · exact go _ ⟨B02.trans (But.same SE), hb3, hq3⟩
        case rest2 =>
          rintro H3 ⟨B3, hb3, hq3⟩
          refine ⟨_, rfl, rfl, _, rfl, ite2 (fun hw => ?_) (fun hw => ?_)⟩
          · refine ⟨_, rfl, .inl ⟨rfl, _, SqL.of hq3⟩, _, rfl, b, 33, rfl, hb3, by decide, by decide, fun x H5 hx B5 hb5 => ?_⟩
            exact ⟨q, _, _, rfl, rfl, B5 _ _ nqb hq3, hrl, fin x H5 _ _ (Nat.lt_of_lt_of_le hx (Nat.pow_le_pow_right (by decide) (by decide))) (B3.trans B5) hb5 (B5 _ _ nqb hq3)⟩
          · refine ⟨_, rfl, .inl ⟨rfl, _, SqL.of hq3⟩, ?_⟩
            refine ⟨_, rfl, _, _, rfl, rfl, _, rfl, ite2 (fun hw2 => ?_) (fun hw2 => ?_)⟩
            · refine ⟨_, rfl, _, _, rfl, rfl, _, rfl, b, _, rfl, hb3, by decide, by decide, fun d H4 d0 d1 B4 hb4 => ?_⟩
              refine ⟨_, _, rfl, rfl, q, _, _, rfl, rfl, B4 _ _ nqb hq3, hrl, ?_⟩
              refine fin (x0 + 1 + d) H4 _ _ ?_ (B3.trans B4) hb4 (B4 _ _ nqb hq3)
              generalize (10 : Nat) ^ 199 = BB at *
              rw [e10]
              omega
            · refine ⟨_, rfl, _, rfl, b, _, rfl, hb3, by decide, by decide, fun d H4 d0 d1 B4 hb4 => ?_⟩
              refine ⟨_, _, rfl, rfl, _, _, rfl, rfl, q, _, _, rfl, rfl, B4 _ _ nqb hq3, hrl, ?_⟩
              refine fin (x0 + d - 2) H4 _ _ ?_ (B3.trans B4) hb4 (B4 _ _ nqb hq3)
              generalize (10 : Nat) ^ 199 = BB at *
              rw [e10]
              omega
      · rintro σ H1 ⟨r, t5, t6, rfl, B1, hb1, hq1, hr1, hB1⟩
        refine ⟨_, rfl, q, _, rfl, .inl ⟨SqL.of hq1, fun p np => ?_⟩⟩
        exact k r p _ (by omega) hB1 (B1.free ((hb1.ne np).symm) np) upd_same (B1.new np) (hb1.new np)
end
end K06

namespace K06
open PySem PySem.Spec PyProof.Rows L2 Own
section
variable {P : Program} {w : World} {K : PySem.W.Frag} {mg : Str → Option Value} {base : Heap} {f C : Addr} {fd : FuncData}
theorem sc_law_count : FnScope ["row", "numbers", "others", "count", "k", "inside", "value"] ["row", "numbers"] (defScope s_law_count) := ⟨rfl, rfl, rfl, by decide +kernel, rfl, by decide +kernel, by decide +kernel⟩
theorem ok_count (F : FnP K "_law_count" s_law_count f fd) (T : Free mg) : FnOk P w K mg base CX0 1 f fd ["row", "numbers"] spCount := by
  refine F.ok sc_law_count (fun vs H Q E h => ?_) (fun cdv A outer s H vs Q E hr h => ⟨_, PSs.nox (pss_cons (ps_set (i := 2) sc_law_count.nd rfl (Or.inl rfl) (pe_callB (show CallR _ (.builtin "sorted") (rSortedSet w) from cr_sortedSet rfl) (by rfl) T.sorted boot_sorted (pa_cons (pe_callTy (show CallR _ (.type "set") (rSetI K w) from call_setI rfl) (by rfl) T.set boot_set (pa_cons (pe_lc (own := [("value", 6)]) rfl sc_law_count.nd (pi_tup (pv 0)) (blkOk_by (N := ["row", "numbers", "others", "count", "k", "inside", "value"]) (sc := defScope s_law_count) (by decide +kernel)) (fun _ _ _ _ _ => (pg_name (i := 6) sc_law_count.nd rfl (Or.inl rfl))) (fun _ _ _ _ _ => (pts_one (pt_cmpR (show OpR _ (compareOp .NotIn) (rIn K true) from op_notIn_seq) (pv 6) (pv 1) (by rfl)))) (fun _ _ _ _ _ => (pv 6))) pa_nil)) pa_nil)))
 (pss_cons (ps_if (pt_cmpR (op_eqD (hu_of' hr)) (pv 1) (pe_lst pa_nil) (nomark _))
 (pss_one (ps_ret (pe_op op_add (pe_callB call_len_seq (by rfl) T.len boot_len (pa_cons (pv 2) pa_nil)) pe_int)))
 pss_nil)
 (pss_cons (ps_set (i := 3) sc_law_count.nd rfl (Or.inl rfl) (pe_op op_add (pe_op op_add (pe_callB call_len_seq (by rfl) T.len boot_len (pa_cons (pv 1) pa_nil)) (pe_callB call_len_seq (by rfl) T.len boot_len (pa_cons (pv 2) pa_nil))) pe_int))
 (pss_cons (ps_for PassesOwn.never rfl (pi_range1 (by rfl) T.range (pa_cons (pe_op op_sub (pe_callB call_len_seq (by rfl) T.len boot_len (pa_cons (pv 1) pa_nil)) pe_int) pa_nil)) (pg_name (i := 4) sc_law_count.nd rfl (Or.inr rfl))
 (pss_cons (ps_setLc (i := 5) (py := _) (own := [("value", 6)]) rfl sc_law_count.nd rfl rfl (sw_true rfl rfl rfl (by decide +kernel)) (pi_list (pv 2)) (blkOk_by (N := ["row", "numbers", "others", "count", "k", "inside", "value"]) (sc := defScope s_law_count) (by decide +kernel)) (fun _ _ _ _ _ => (pg_name (i := 6) sc_law_count.nd rfl (Or.inl rfl))) (fun _ _ _ _ _ => (pts_one (PW.pt (pw_and (pt_cmpR op_lt (pe_ix (show IxR _ (rIxL K) from ix_list) (pv 1) (pv 4) (fun _ _ => rfl)) (pv 6) (nomark _)) (pw_and1 (pt_cmpR op_lt (pv 6) (pe_ix (show IxR _ (rIxL K) from ix_list) (pv 1) (pe_op op_add (pv 4) pe_int) (fun _ _ => rfl)) (nomark _))))))) (fun _ _ _ _ _ => (pv 6)))
 (pss_one (ps_if (pt_cmpR op_gt (pe_op op_sub (pe_op op_sub (pe_ix ix_list (pv 1) (pe_op op_add (pv 4) pe_int) (fun _ _ => rfl)) (pe_ix ix_list (pv 1) (pv 4) (fun _ _ => rfl))) pe_int) (pe_callB call_len_seq (by rfl) T.len boot_len (pa_cons (pv 5) pa_nil)) (nomark _))
 (pss_one (ps_set (i := 3) sc_law_count.nd rfl (Or.inl rfl) (pe_op op_add (pv 3) pe_int)))
 pss_nil))))
 (pss_one (ps_ret (pv 3))))))), ?_⟩)
  · obtain ⟨v, l, r, ns, rfl, _⟩ := h
    rfl
  · obtain ⟨v, l, r, ns, rfl, ⟨tv, rfl, hv⟩, hl, hr3, hn4, k⟩ := h
    refine ⟨_, rfl, tv, rfl, ⟨_, SqT.of hv⟩, fun D nD => ?_⟩
    have ntD : tv ≠ D := ne_of_none hv nD
    have nlD : l ≠ D := ne_of_none hl nD
    let pf : Int → Bool := fun v => !decide (v ∈ ns)
    refine lc_tup (xs := r.map V.int) (fun i H' => H' = upd H D (.lst (((r.take i).filter pf).map V.int))) rfl (fun i H' _ e => by subst e; exact SqT.of (by rw [upd_ne ntD]; exact hv)) (fun i y H' hy e => ?_) (fun H1 e => ?_)
    · subst e
      obtain ⟨n, rfl, hn⟩ : ∃ n, y = .int n ∧ r[i]? = some n := by
        rw [List.getElem?_map] at hy
        cases e : r[i]? with
        | none => rw [e] at hy; cases hy
        | some n => rw [e] at hy; cases hy; exact ⟨n, rfl, rfl⟩
      refine ⟨rfl, _, rfl, _, rfl, l, ns.map V.int, rfl, .inl (SqL.of (by rw [upd_ne nlD]; exact hl)), rfl, flat_ints _, _, rfl, ?_⟩
      have e1 : (!inV (.int n) (ns.map V.int)) = pf n := by rw [inV_int]
      have step : ((r.take (i + 1)).filter pf) = (r.take i).filter pf ++ if pf n = true then [n] else [] := filter_snoc pf hn
      refine ite2 (fun h1 => ?_) (fun h1 => ?_)
      · have h1 : pf n = true := e1.symm.trans h1
        refine ⟨_, rfl, _, upd_same, small1000 ?_, ?_⟩
        · rw [List.length_map]
          have q1 := List.length_filter_le pf (r.take i)
          have q2 : (r.take i).length ≤ r.length := by rw [List.length_take]; exact Nat.min_le_right _ _
          omega
        · rw [upd_upd, step, if_pos h1, List.map_append]
          rfl
      · have h1 : ¬ pf n = true := fun z => h1 (e1.trans z)
        rw [step, if_neg h1, List.append_nil]
    · rw [List.length_map, List.take_length] at e
      have S1 : Same H H1 := by subst e; exact same_newH nD
      have hD1 : H1 D = some (.lst ((r.filter pf).map V.int)) := by subst e; exact upd_same
      clear e
      have hfl : (r.filter pf).length ≤ 3 := Nat.le_trans (List.length_filter_le _ _) hr3
      refine ⟨D, _, rfl, .inl (SqL.of hD1), by omega, fun q c nq hc => ?_⟩
      refine ⟨q, _, c, rfl, upd_same, by omega, fun out p h1 h2 h3 np => ?_⟩
      have eo : out = othersL ns r := asc_same h1 (ascL_asc _) fun x => by
        rw [h2 x]
        unfold othersL
        rw [mem_ascL]
        simp only [decide_eq_true_eq]
        rfl
      have hol : out.length ≤ 3 := by omega
      rw [eo] at h3 hol ⊢
      clear h1 h2 eo
      have S2 : Same H1 (upd (upd H1 q (SetO w q (fun j => decide (j ∈ r.filter pf)) c)) p (.lst ((othersL ns r).map V.int))) := (same_newH nq).trans (same_newH np)
      have hp2 : upd (upd H1 q (SetO w q (fun j => decide (j ∈ r.filter pf)) c)) p (.lst ((othersL ns r).map V.int)) p = some (.lst ((othersL ns r).map V.int)) := upd_same
      generalize upd (upd H1 q (SetO w q (fun j => decide (j ∈ r.filter pf)) c)) p (.lst ((othersL ns r).map V.int)) = H2 at *
      have S02 := S1.trans S2
      have hl2 := S02 _ _ hl
      refine ⟨_, rfl, Nat.zero_le _, fun e ne => ?_⟩
      have SE := same_newH (o := .lst []) ne
      have hl3 := SE _ _ hl2
      have hp3 := SE _ _ hp2
      refine ⟨.list (ns.map PyData.int), .list [], .lst (SqL.of hl3) (dp_ints ns), .lst (SqL.of upd_same) .nil, shaped_ints ns, shaped_nil, _, rfl, ?_⟩
      rw [eqv_ints_nil]
      have S03 := S02.trans SE
      generalize upd H2 e (.lst []) = H3 at *
      refine ite2 (fun hne => ?_) (fun hne => ?_)
      · have hne : ns = [] := of_decide_eq_true hne
        subst hne
        refine ⟨_, rfl, p, _, rfl, .inl (SqL.of hp3), _, _, rfl, rfl, ?_⟩
        have q := k H3 S03
        rw [len_ints]
        exact q
      · have hne : ns ≠ [] := fun q => hne (decide_eq_true q)
        refine ⟨_, rfl, l, _, rfl, .inl (SqL.of hl3), _, rfl, p, _, rfl, .inl (SqL.of hp3), _, _, rfl, rfl, _, _, rfl, rfl, ?_⟩
        rw [len_ints, len_ints]
        refine ⟨_, rfl, l, _, rfl, .inl (SqL.of hl3), _, _, rfl, rfl, _, rfl, by rw [len_ints]; omega, by rw [len_ints]; omega, ?_⟩
        have hpos : 0 < ns.length := List.length_pos_iff.mpr hne
        have hcnt : (((ns.map V.int).length : Nat) - 1 : Int).toNat = ns.length - 1 := by rw [len_ints]; omega
        refine for_range (fun i σ H' => ∃ (t4 t5 t6 : Option V), σ = [some (.ref tv), some (.ref l), some (.ref p), some (.int (((ns.length + (othersL ns r).length + 2 + gapsL (othersL ns r) (ns.take (i + 1))) : Nat))), t4, t5, t6] ∧ Same H3 H')
          ⟨none, none, none, ?_, Same.refl _⟩ ?_ ?_
        · have e0 : gapsL (othersL ns r) (ns.take 1) = 0 := by
            cases ns with
            | nil => exact absurd rfl hne
            | cons n t => rfl
          rw [e0]
          rfl
        · rintro i σ H4 hi ⟨t4, t5, t6, rfl, S4⟩
          rw [hcnt] at hi
          obtain ⟨a, ha⟩ : ∃ a, ns[i]? = some a := ⟨_, List.getElem?_eq_getElem (by omega)⟩
          obtain ⟨b, hb⟩ : ∃ b, ns[i + 1]? = some b := ⟨_, List.getElem?_eq_getElem (by omega)⟩
          have ata : atI (ns.map V.int) (0 + (i : Int)) = some (V.int a) := at_of (j := i) (by omega) (by rw [List.getElem?_map, ha]; rfl)
          have atb : atI (ns.map V.int) (0 + (i : Int) + 1) = some (V.int b) := at_of (j := i + 1) (by omega) (by rw [List.getElem?_map, hb]; rfl)
          have g := gaps_take (os := othersL ns r) ha hb
          have hl4 := S4 _ _ hl3
          have hp4 := S4 _ _ hp3
          refine ⟨_, rfl, p, rfl, ⟨_, SqL.of hp4⟩, fun D2 nD2 => ?_⟩
          have nlD2 : l ≠ D2 := ne_of_none hl4 nD2
          have npD2 : p ≠ D2 := ne_of_none hp4 nD2
          let pg : Int → Bool := fun v => decide (a < v) && decide (v < b)
          refine lc_list (xs := (othersL ns r).map V.int) (fun j H' => H' = upd H4 D2 (.lst ((((othersL ns r).take j).filter pg).map V.int))) rfl (fun j H' _ e => by subst e; exact SqL.of (by rw [upd_ne npD2]; exact hp4)) (fun j y H' hy e => ?_) (fun H5 e => ?_)
          · subst e
            obtain ⟨n, rfl, hn⟩ : ∃ n, y = .int n ∧ (othersL ns r)[j]? = some n := by
              rw [List.getElem?_map] at hy
              cases e : (othersL ns r)[j]? with
              | none => rw [e] at hy; cases hy
              | some n => rw [e] at hy; cases hy; exact ⟨n, rfl, rfl⟩
            have sl : SqL K (upd H4 D2 (.lst ((((othersL ns r).take j).filter pg).map V.int))) l (ns.map V.int) := SqL.of (by rw [upd_ne nlD2]; exact hl4)
            have step : (((othersL ns r).take (j + 1)).filter pg) = ((othersL ns r).take j).filter pg ++ if pg n = true then [n] else [] := filter_snoc pg hn
            refine ⟨rfl, ?_⟩
            refine ⟨_, rfl, _, rfl, l, _, _, V.int a, rfl, rfl, sl, ata, _, rfl, _, _, rfl, rfl, _, rfl, ite2 (fun h1 => ?_) (fun h1 => ?_)⟩
            · refine ⟨_, rfl, _, rfl, _, rfl, _, _, rfl, rfl, l, _, _, V.int b, rfl, rfl, sl, atb, _, _, rfl, rfl, _, rfl, ite2 (fun h2 => ?_) (fun h2 => ?_)⟩
              · have hp : pg n = true := by show (decide (a < n) && decide (n < b)) = true; rw [h1, h2]; rfl
                refine ⟨_, rfl, _, upd_same, small1000 ?_, ?_⟩
                · rw [List.length_map]
                  have q1 := List.length_filter_le pg ((othersL ns r).take j)
                  have q2 : ((othersL ns r).take j).length ≤ (othersL ns r).length := by rw [List.length_take]; exact Nat.min_le_right _ _
                  omega
                · rw [upd_upd, step, if_pos hp, List.map_append]
                  rfl
              · have hp : ¬ pg n = true := fun z => h2 ((Bool.and_eq_true_iff.mp z).2)
                rw [step, if_neg hp, List.append_nil]
            · have hp : ¬ pg n = true := fun z => h1 ((Bool.and_eq_true_iff.mp z).1)
              refine iteF ?_
              rw [step, if_neg hp, List.append_nil]
          · rw [List.length_map, List.take_length] at e
            have S5 : Same H4 H5 := by subst e; exact same_newH nD2
            have hD5 : H5 D2 = some (.lst ((insideL (othersL ns r) a b).map V.int)) := by subst e; exact upd_same
            clear e
            have sl5 : SqL K H5 l (ns.map V.int) := SqL.of (S5 _ _ hl4)
            refine ⟨_, rfl, _, rfl, _, _, rfl, rfl, l, _, _, V.int b, rfl, rfl, sl5, atb, _, rfl, _, rfl, l, _, _, V.int a, rfl, rfl, sl5, ata, _, _, rfl, rfl, _, _, rfl, rfl, ?_⟩
            refine ⟨_, rfl, D2, _, rfl, .inl (SqL.of hD5), _, _, rfl, rfl, _, rfl, ite2 (fun hg => ?_) (fun hg => ?_)⟩
            · have hg : ((insideL (othersL ns r) a b).length : Int) < b - a - 1 := by
                have := of_decide_eq_true hg
                rw [len_ints] at this
                omega
              refine ⟨_, rfl, _, _, rfl, rfl, ?_⟩
              refine ⟨some (.int (0 + (i : Int))), some (.ref D2), t6, ?_, S4.trans S5⟩
              rw [g, if_pos hg]
              rfl
            · have hg : ¬ ((insideL (othersL ns r) a b).length : Int) < b - a - 1 := fun z => hg (decide_eq_true (by rw [len_ints]; omega))
              refine ⟨some (.int (0 + (i : Int))), some (.ref D2), t6, ?_, S4.trans S5⟩
              rw [g, if_neg hg]
              rfl
        · rintro σ H4 ⟨t4, t5, t6, rfl, S4⟩
          rw [hcnt, show ns.length - 1 + 1 = ns.length by omega, List.take_length]
          have q := k H4 (S03.trans S4)
          cases ns with
          | nil => exact absurd rfl hne
          | cons n t => exact ⟨_, rfl, q⟩
end
end K06

namespace K06
open PySem PySem.Spec PyProof.Rows L2 Own
def colS : List Str := ["one", "two", "three"]
theorem col_words (m : Nat) : Words (colS.take m) := fun z hz => by
  have h3 : z ∈ colS := List.mem_of_mem_take hz
  simp only [colS, List.mem_cons, List.not_mem_nil, or_false] at h3
  rcases h3 with rfl | rfl | rfl <;> decide +kernel
def spLaw (K : PySem.W.Frag) : Sp := fun vs H Q _ => ∃ (a : Addr) (ns : List Int), vs = [.ref a] ∧ SqL K H a (ns.map V.int) ∧ ns.length ≤ 63 ∧ ∀ H', Q (.bl true) H'
def Kn (D : Ends) (H : Hp) (a : Addr) : Prop := ∀ σ' H2, (∃ t1 t2 t3 t4 t5 t6 t7 t8 t9 t10 t11 t12 t13 t14 t15 t16 t17, σ' = [some (.ref a), t1, t2, t3, t4, t5, t6, t7, t8, t9, t10, t11, t12, t13, t14, t15, t16, t17]) → Same H H2 → D.nx σ' H2
def KOb (H : Hp) (C k : Addr) (ns : List Int) : Prop := ∃ dx t l, H k = some (.ins C dx [("numbers", .ref t), ("_rows", .ref l)]) ∧ H t = some (.tup (ns.map V.int))
theorem KOb.lsts {H H' : Hp} {C k : Addr} {ns : List Int} (h : KOb H C k ns) (e : Lsts H H') : KOb H' C k ns := by
  obtain ⟨dx, t, l, h1, h2⟩ := h
  exact ⟨dx, t, l, e _ _ h1 nofun, e _ _ h2 nofun⟩
theorem KOb.num {H : Hp} {C k : Addr} {ns : List Int} (h : KOb H C k ns) : NumAt H C k ns := by
  obtain ⟨dx, t, l, h1, h2⟩ := h
  exact ⟨dx, _, t, h1, rfl, h2, rfl⟩
structure Bi (H0 H' : Hp) (CK b ln kd tr lt : Addr) (m : Nat) (ns r told : List Int) : Prop where
  S : Same H0 H'
  nb : H0 b = none
  hb : Bag H' b
  m1 : 1 ≤ m
  m3 : m ≤ 3
  nb1 : ln ≠ b
  hn : H' ln = some (.lst (ns.map V.int))
  asc : Asc ns
  n4 : ns.length ≤ 4
  nB : ∀ n ∈ ns, n.natAbs < 10 ^ 199
  kd : KOb H' CK kd ns
  hr : H' tr = some (.tup (r.map V.int))
  rl : r.length = m
  rB : ∀ n ∈ r, n.natAbs < 10 ^ 200
  nb2 : lt ≠ b
  n2 : lt ≠ ln
  nl : H0 lt = none
  hl : H' lt = some (.lst (told.map V.int))
theorem Bi.same {H0 H1 H2 : Hp} {CK b ln kd tr lt : Addr} {m : Nat} {ns r told : List Int} (h : Bi H0 H1 CK b ln kd tr lt m ns r told) (s : Same H1 H2) : Bi H0 H2 CK b ln kd tr lt m ns r told :=
  ⟨h.S.trans s, h.nb, h.hb.same s, h.m1, h.m3, h.nb1, s _ _ h.hn, h.asc, h.n4, h.nB, h.kd.lsts (Lsts.same s), s _ _ h.hr, h.rl, h.rB, h.nb2, h.n2, h.nl, s _ _ h.hl⟩
theorem Bi.but {H0 H1 H2 : Hp} {CK b ln kd tr lt : Addr} {m : Nat} {ns r told : List Int} (h : Bi H0 H1 CK b ln kd tr lt m ns r told) (s : But b H1 H2) (hb : Bag H2 b) : Bi H0 H2 CK b ln kd tr lt m ns r told :=
  have L := Lsts.but h.hb s
  ⟨s.to_same h.S h.nb, h.nb, hb, h.m1, h.m3, h.nb1, s _ _ h.nb1 h.hn, h.asc, h.n4, h.nB, h.kd.lsts L, L _ _ h.hr nofun, h.rl, h.rB, h.nb2, h.n2, h.nl, s _ _ h.nb2 h.hl⟩
theorem Bi.tell {H0 H1 : Hp} {CK b ln kd tr lt : Addr} {m : Nat} {ns r told told' : List Int} (h : Bi H0 H1 CK b ln kd tr lt m ns r told) : Bi H0 (upd H1 lt (.lst (told'.map V.int))) CK b ln kd tr lt m ns r told' :=
  have L := Lsts.put (o := .lst (told'.map V.int)) h.hl
  ⟨put_same h.S h.nl, h.nb, h.hb.put h.nb2.symm, h.m1, h.m3, h.nb1, by rw [upd_ne h.n2.symm]; exact h.hn, h.asc, h.n4, h.nB, h.kd.lsts L, L _ _ h.hr nofun, h.rl, h.rB, h.nb2, h.n2, h.nl, upd_same⟩
theorem Bi.row {H0 H1 : Hp} {CK b ln kd tr lt : Addr} {m : Nat} {ns r told : List Int} (h : Bi H0 H1 CK b ln kd tr lt m ns r told) : IntT H1 (.ref tr) r := ⟨tr, rfl, h.hr⟩
section
variable {P : Program} {w : World} {K : PySem.W.Frag} {mg : Str → Option Value} {base : Heap} {f C : Addr} {fd : FuncData}
theorem sc_law : FnScope ["script", "at", "bag", "many", "numbers", "kinds", "row", "told", "near", "turn", "value", "view", "fitting", "other", "shown", "beside", "again", "one"] ["script"] (defScope s_law) := ⟨rfl, rfl, rfl, by decide +kernel, rfl, by decide +kernel, by decide +kernel⟩
theorem ok_law {CT CK fb ft fo fn fr fv fi fk fs fe fc fl : Addr} {fdb fdt fdo fdn fdr fdv fdi fdk fds fde fdc fdl : FuncData} (F : FnP K "law" s_law f fd) (T : Free mg) (TC : TxC K CT) (TK : TxK K CK)
    (c_law_bag : Cal P w K mg base CX0 1 "_law_bag" fb fdb ["script", "at"] (spBag K)) (c_law_take : Cal P w K mg base CX0 1 "_law_take" ft fdt ["bag", "many"] spTake) (c_law_of : Cal P w K mg base CX0 2 "_law_of" fo fdo ["bag", "some"] (spOf K))
    (c_law_long : Cal P w K mg base CX0 2 "_law_long" fl fdl ["bag", "blocks"] spLongB) (c_law_numbers : Cal P w K mg base CX0 3 "_law_numbers" fn fdn ["bag"] spNums) (c_law_row : Cal P w K mg base CX0 3 "_law_row" fr fdr ["bag", "many", "numbers"] spRowN)
    (c_law_view : Cal P w K mg base CX0 1 "_law_view" fv fdv ["value", "row", "numbers"] (spViewI K)) (c_law_count : Cal P w K mg base CX0 1 "_law_count" fc fdc ["row", "numbers"] spCount)
    (c_Table : CalI P w K mg base CX0 3 "Table" CT fi fdi ["self", "columns"] (spTableA K CT)) (c_Kinds : CalI P w K mg base CX0 5 "Kinds" CK fk fdk ["self", "table", "numbers"] (spKinds K CT CK))
    (c_Kindsspots : CalM P w K mg base CX0 4 CK "spots" fs fds ["self", "row"] (spSpots CK)) (c_Kindsalike : CalM P w K mg base CX0 2 CK "alike" fe fde ["self", "row", "one", "other"] (spAlike K CK)) : Asked P w K mg base f fd ["script"] (spLaw K) := by
  refine asked_of (k := 6) F sc_law ⟨rfl, by decide, by decide⟩ (fun vs H Q E h => ?_) (fun cdv s H vs Q hr hg h => ?_)
  · obtain ⟨a, ns, rfl, _⟩ := h
    rfl
  · obtain ⟨a, ns, rfl, hS, hlen, k⟩ := h
    refine ⟨_, PSs.nox (pss_cons (ps_for PassesOwn.never rfl (pi_range1 (by rfl) T.range (pa_cons (pe_callB (call_max2 rfl) (by rfl) T.max boot_max (pa_cons pe_int (pa_cons (pe_callB (call_min2 rfl) (by rfl) T.min boot_min (pa_cons pe_int (pa_cons (pe_callB call_len_seq (by rfl) T.len boot_len (pa_cons (pv 0) pa_nil)) pa_nil))) pa_nil))) pa_nil)) (pg_name (i := 1) sc_law.nd rfl (Or.inl rfl))
 (pss_cons (ps_set (i := 2) sc_law.nd rfl (Or.inl rfl) (pe_cal c_law_bag (hr.mono (by decide)) (pa_cons (pv 0) (pa_cons (pv 1) pa_nil))))
 (pss_cons (ps_set (i := 3) sc_law.nd rfl (Or.inl rfl) (pe_op op_add pe_int (pe_cal c_law_take (hr.mono (by decide)) (pa_cons (pv 2) (pa_cons pe_int pa_nil)))))
 (pss_cons (ps_set (i := 4) sc_law.nd rfl (Or.inr rfl) (pe_cal c_law_numbers (hr.mono (by decide)) (pa_cons (pv 2) pa_nil)))
 (pss_cons (ps_set (i := 5) sc_law.nd rfl (Or.inl rfl) (pe_mkr c_Kinds (hr.mono (by decide)) (pa_cons (pe_mkr c_Table (hr.mono (by decide)) (pa_cons (pe_slice sl_list (pe_lst (pa_cons pe_str (pa_cons pe_str (pa_cons pe_str pa_nil)))) po_none (po_some (pv 3))) pa_nil)) (pa_cons (pv 4) pa_nil))))
 (pss_cons (ps_set (i := 6) sc_law.nd rfl (Or.inr rfl) (pe_cal c_law_row (hr.mono (by decide)) (pa_cons (pv 2) (pa_cons (pv 3) (pa_cons (pv 4) pa_nil)))))
 (pss_cons (ps_set (i := 7) sc_law.nd rfl (Or.inl rfl) (pe_calM (pv 5) TK.cl c_Kindsspots (hr.mono (by decide)) (pa_cons (pv 6) pa_nil)))
 (pss_cut (t' := fun D σ H' => ∃ (z : Int) (b ln kd tr lt : Addr) (m : Nat) (ns r : List Int) (t8 t9 t10 t11 t12 t13 t14 t15 t16 t17 : Option V), σ = [some (.ref a), some (.int z), some (.ref b), some (.int m), some (.ref ln), some (.ref kd), some (.ref tr), some (.ref lt), t8, t9, t10, t11, t12, t13, t14, t15, t16, t17] ∧ Bi H H' CK b ln kd tr lt m ns r (spotsL ns r) ∧ Kn D H a) (pss_cons (ps_if (PW.pt (pw_or (pt_not (pt_val (pe_callB call_isi (by rfl) T.isinstance boot_isinstance (pa_cons (pv 7) (pa_cons (pe_bltn (v := .ty "list") (by rfl) T.list boot_list rfl) pa_nil))))) (pw_or1 (pt_cmpR op_ne (pe_callB call_len_seq (by rfl) T.len boot_len (pa_cons (pv 7) pa_nil)) (pe_cal c_law_count (hr.mono (by decide)) (pa_cons (pv 6) (pa_cons (pv 4) pa_nil))) (nomark _)))))
 (pss_one (ps_ret pe_bl))
 pss_nil)
 (pss_cons (ps_if (pt_cmpR (op_neD (hu_of' hr)) (pe_lc (own := [("value", 10)]) rfl sc_law.nd (pi_list (pv 7)) (blkOk_by (N := ["script", "at", "bag", "many", "numbers", "kinds", "row", "told", "near", "turn", "value", "view", "fitting", "other", "shown", "beside", "again", "one"]) (sc := defScope s_law) (by decide +kernel)) (fun _ _ _ _ _ => (pg_name (i := 10) sc_law.nd rfl (Or.inl rfl))) (fun _ _ _ _ _ => (pts_one (PW.pt (pw_or (pt_not (pt_val (pe_callB (show CallR _ (.builtin "isinstance") (rIsi K) from call_isi) (by rfl) T.isinstance boot_isinstance (pa_cons (pv 10) (pa_cons (pe_bltn (v := .ty "int") (by rfl) T.int boot_int rfl) pa_nil))))) (pw_or1 (pt_val (pe_callB (show CallR _ (.builtin "isinstance") (rIsi K) from call_isi) (by rfl) T.isinstance boot_isinstance (pa_cons (pv 10) (pa_cons (pe_bltn (v := .ty "bool") (by rfl) T.bool boot_bool rfl) pa_nil))))))))) (fun _ _ _ _ _ => (pv 10))) (pe_lst pa_nil) (nomark _))
 (pss_one (ps_ret pe_bl))
 pss_nil)
 (pss_cons (ps_if (pt_cmpR (op_neD (hu_of' hr)) (pv 7) (pe_callB (show CallR _ (.builtin "sorted") (rSortedSet w) from cr_sortedSet rfl) (by rfl) T.sorted boot_sorted (pa_cons (pe_callTy (show CallR _ (.type "set") (rSetI K w) from call_setI rfl) (by rfl) T.set boot_set (pa_cons (pv 7) pa_nil)) pa_nil)) (nomark _))
 (pss_one (ps_ret pe_bl))
 pss_nil)
 (pss_cut (t' := fun D σ H' => ∃ (z : Int) (b ln kd tr lt : Addr) (m : Nat) (ns r : List Int) (t8 t9 t10 t11 t12 t13 t14 t15 t16 t17 : Option V), σ = [some (.ref a), some (.int z), some (.ref b), some (.int m), some (.ref ln), some (.ref kd), some (.ref tr), some (.ref lt), t8, t9, t10, t11, t12, t13, t14, t15, t16, t17] ∧ Bi H H' CK b ln kd tr lt m ns r (spotsL ns r) ∧ Kn D H a) (pss_cons (ps_set (i := 8) sc_law.nd rfl (Or.inl rfl) (pe_op op_cat (pv 4) (pe_callTy call_list_of (by rfl) T.list boot_list (pa_cons (pv 6) pa_nil))))
 (pss_cons (ps_for PassesOwn.never rfl (pi_range1 (by rfl) T.range (pa_cons pe_int pa_nil)) (pg_name (i := 9) sc_law.nd rfl (Or.inl rfl))
 (pss_cons (ps_set (i := 10) sc_law.nd rfl (Or.inl rfl) (pe_ifExp (pt_cmpR op_gt (pe_cal c_law_take (hr.mono (by decide)) (pa_cons (pv 2) (pa_cons pe_int pa_nil))) pe_int (nomark _)) (pe_op op_sub (pe_op op_add (pe_cal c_law_of (hr.mono (by decide)) (pa_cons (pv 2) (pa_cons (pv 8) pa_nil))) (pe_cal c_law_take (hr.mono (by decide)) (pa_cons (pv 2) (pa_cons pe_int pa_nil)))) pe_int) (pe_cal c_law_long (hr.mono (by decide)) (pa_cons (pv 2) (pa_cons pe_int pa_nil)))))
 (pss_cons (ps_set (i := 11) sc_law.nd rfl (Or.inr rfl) (pe_cal c_law_view (hr.mono (by decide)) (pa_cons (pv 10) (pa_cons (pv 6) (pa_cons (pv 4) pa_nil)))))
 (pss_cons (ps_setLc (i := 12) (py := _) (own := [("one", 17)]) rfl sc_law.nd rfl rfl (sw_true rfl rfl rfl (by decide +kernel)) (pi_list (pv 7)) (blkOk_by (N := ["script", "at", "bag", "many", "numbers", "kinds", "row", "told", "near", "turn", "value", "view", "fitting", "other", "shown", "beside", "again", "one"]) (sc := defScope s_law) (by decide +kernel)) (fun _ _ _ _ _ => (pg_name (i := 17) sc_law.nd rfl (Or.inl rfl))) (fun _ _ _ _ _ => (pts_one (pt_cmpR (show OpR _ (compareOp .Eq) (rEqD K) from op_eqD (hu_of' hr)) (pe_cal c_law_view (hr.mono (by decide)) (pa_cons (pv 17) (pa_cons (pv 6) (pa_cons (pv 4) pa_nil)))) (pv 11) (nomark _)))) (fun _ _ _ _ _ => (pv 17)))
 (pss_cons (ps_if (PW.pt (pw_or (pt_cmpR op_ne (pe_callB call_len_seq (by rfl) T.len boot_len (pa_cons (pv 12) pa_nil)) pe_int (nomark _)) (pw_or1 (pt_not (pt_val (pe_calM (pv 5) TK.cl c_Kindsalike (hr.mono (by decide)) (pa_cons (pv 6) (pa_cons (pv 10) (pa_cons (pe_ix ix_list (pv 12) pe_int (fun _ _ => rfl)) pa_nil)))))))))
 (pss_one (ps_ret pe_bl))
 pss_nil)
 (pss_cons (ps_if (pt_not (pt_val (pe_calM (pv 5) TK.cl c_Kindsalike (hr.mono (by decide)) (pa_cons (pv 6) (pa_cons (pe_ix ix_list (pv 12) pe_int (fun _ _ => rfl)) (pa_cons (pv 10) pa_nil))))))
 (pss_one (ps_ret pe_bl))
 pss_nil)
 (pss_cons (ps_set (i := 13) sc_law.nd rfl (Or.inl rfl) (pe_cal c_law_of (hr.mono (by decide)) (pa_cons (pv 2) (pa_cons (pv 7) pa_nil))))
 (pss_one (ps_if (pt_cmpR op_ne (pe_calM (pv 5) TK.cl c_Kindsalike (hr.mono (by decide)) (pa_cons (pv 6) (pa_cons (pv 10) (pa_cons (pv 13) pa_nil)))) (pe_cmpR op_eq (pv 13) (pe_ix ix_list (pv 12) pe_int (fun _ _ => rfl)) (nomark _)) (nomark _))
 (pss_one (ps_ret pe_bl))
 pss_nil)))))))))
 (pss_cut (t' := fun D σ H' => ∃ (z : Int) (b ln kd tr lt : Addr) (m : Nat) (ns r : List Int) (t8 t9 t10 t11 t12 t13 t14 t15 t16 t17 : Option V), σ = [some (.ref a), some (.int z), some (.ref b), some (.int m), some (.ref ln), some (.ref kd), some (.ref tr), some (.ref lt), t8, t9, t10, t11, t12, t13, t14, t15, t16, t17] ∧ Bi H H' CK b ln kd tr lt m ns r (spotsL ns r) ∧ Kn D H a) (pss_cons (ps_expr (pe_bm0 PySem.F.plainAttrs_list PySem.F.slot_list_reverse PySem.F.type_list_reverse mt_reverse (pv 7)))
 (pss_cons (ps_expr (pe_bm PySem.F.plainAttrs_list PySem.F.slot_list_append PySem.F.type_list_append mt_append (pv 7) (pa_cons (pe_ix ix_list (pv 7) pe_int (fun _ _ => rfl)) pa_nil)))
 (pss_cons (ps_par (i := 14) (j := 13) rfl sc_law.nd rfl rfl (by decide) rfl rfl (pa_cons (pe_callB (call_repr_data (hu_of' hr) hg) (by rfl) T.repr boot_repr (pa_cons (pv 7) pa_nil)) (pa_cons (pe_cal c_law_row (hr.mono (by decide)) (pa_cons (pv 2) (pa_cons (pv 3) (pa_cons (pv 4) pa_nil)))) pa_nil)) (by rfl))
 (pss_cons (ps_set (i := 15) sc_law.nd rfl (Or.inl rfl) (pe_calM (pv 5) TK.cl c_Kindsspots (hr.mono (by decide)) (pa_cons (pv 13) pa_nil)))
 (pss_cons (ps_if (PW.pt (pw_or (pt_cmpR op_ne (pe_callB call_len_seq (by rfl) T.len boot_len (pa_cons (pv 15) pa_nil)) (pe_cal c_law_count (hr.mono (by decide)) (pa_cons (pv 13) (pa_cons (pv 4) pa_nil))) (nomark _)) (pw_or (pt_cmpR (op_neD (hu_of' hr)) (pv 15) (pe_callB (show CallR _ (.builtin "sorted") (rSortedSet w) from cr_sortedSet rfl) (by rfl) T.sorted boot_sorted (pa_cons (pe_callTy (show CallR _ (.type "set") (rSetI K w) from call_setI rfl) (by rfl) T.set boot_set (pa_cons (pv 15) pa_nil)) pa_nil)) (nomark _)) (pw_or1 (pt_cmpR op_ne (pe_callB (call_repr_data (hu_of' hr) hg) (by rfl) T.repr boot_repr (pa_cons (pv 7) pa_nil)) (pv 14) (nomark _))))))
 (pss_one (ps_ret pe_bl))
 pss_nil)
 (pss_cons (ps_set (i := 16) sc_law.nd rfl (Or.inl rfl) (pe_calM (pv 5) TK.cl c_Kindsspots (hr.mono (by decide)) (pa_cons (pv 6) pa_nil)))
 (pss_one (ps_if (PW.pt (pw_or (pt_cmpR op_ne (pe_callB call_len_seq (by rfl) T.len boot_len (pa_cons (pv 16) pa_nil)) (pe_cal c_law_count (hr.mono (by decide)) (pa_cons (pv 6) (pa_cons (pv 4) pa_nil))) (nomark _)) (pw_or1 (pt_cmpR (op_neD (hu_of' hr)) (pv 16) (pe_callB (show CallR _ (.builtin "sorted") (rSortedSet w) from cr_sortedSet rfl) (by rfl) T.sorted boot_sorted (pa_cons (pe_callTy (show CallR _ (.type "set") (rSetI K w) from call_setI rfl) (by rfl) T.set boot_set (pa_cons (pv 16) pa_nil)) pa_nil)) (nomark _)))))
 (pss_one (ps_ret pe_bl))
 pss_nil)))))))) ?c3))) ?c2)))) ?c1))))))))
 (pss_one (ps_ret pe_bl))), ?_⟩
    case c1 =>
      rintro D σ H1 ⟨z, b, ln, kd, tr, lt, m, ns, r, t8, t9, t10, t11, t12, t13, t14, t15, t16, t17, rfl, B1, kn⟩
      have hsl := spotsL_len ns r
      have hrl := B1.rl
      have hm3 := B1.m3
      have hn4 := B1.n4
      refine ⟨_, rfl, _, _, _, _, _, rfl, .ty _, kd_ok (kd_lst B1.hl), kit_list .lst, _, rfl, ?_⟩
      refine iteF ?_
      refine ⟨_, rfl, lt, _, rfl, .inl (SqL.of B1.hl), _, rfl, _, rfl, .ref tr, ln, r, ns, rfl, B1.row, B1.hn, by omega, hn4, fun H2 S2 => ⟨rfl, _, rfl, ?_⟩⟩
      rw [len_ints, count_eq B1.asc, decide_eq_true rfl]
      refine iteF ?_
      have B2 := B1.same S2
      refine ⟨_, rfl, lt, rfl, ⟨_, SqL.of B2.hl⟩, fun D2 nD => ?_⟩
      have nlD : lt ≠ D2 := ne_of_none B2.hl nD
      refine lc_list (xs := (spotsL ns r).map V.int) (fun i H' => H' = upd H2 D2 (.lst [])) rfl (fun i H' _ e => by subst e; exact SqL.of (by rw [upd_ne nlD]; exact B2.hl)) (fun i y H' hy e => ?_) (fun H3 e => ?_)
      · subst e
        obtain ⟨n, rfl, hn⟩ : ∃ n, y = .int n ∧ (spotsL ns r)[i]? = some n := by
          rw [List.getElem?_map] at hy
          cases e : (spotsL ns r)[i]? with
          | none => rw [e] at hy; cases hy
          | some n => rw [e] at hy; cases hy; exact ⟨n, rfl, rfl⟩
        refine ⟨rfl, ?_⟩
        refine ⟨_, rfl, _, _, _, _, _, rfl, .ty _, kd_ok (t := .int) rfl, kit_int .int, _, rfl, ?_⟩
        refine iteF ?_
        refine ⟨_, rfl, _, _, _, _, _, rfl, .ty _, kd_ok (t := .int) rfl, kit_bool .int, _, rfl, ?_⟩
        exact iteF rfl
      · subst e
        have B3 := B2.same (same_newH (o := .lst []) nD)
        have hD3 : upd H2 D2 (.lst []) D2 = some (.lst []) := upd_same
        generalize upd H2 D2 (.lst []) = H3 at *
        refine ⟨Nat.zero_le _, fun e ne => ?_⟩
        have SE := same_newH (o := .lst []) ne
        refine ⟨.list (([] : List Int).map PyData.int), .list [], .lst (SqL.of (SE _ _ hD3)) (dp_ints []), .lst (SqL.of upd_same) .nil, shaped_ints [], shaped_nil, _, rfl, ?_⟩
        rw [eqv_ints_nil, decide_eq_true rfl]
        refine iteF ?_
        have B4 := B3.same SE
        generalize upd H3 e (.lst []) = H4 at *
        refine ⟨_, rfl, _, rfl, lt, _, rfl, .inl (SqL.of B4.hl), by omega, fun q c nq hc => ?_⟩
        refine ⟨q, _, c, rfl, upd_same, by omega, fun out p h1 h2 h3 np => ?_⟩
        have eo : out = spotsL ns r := asc_same h1 (spotsL_asc ns r) fun x => by
          rw [h2 x]
          simp only [decide_eq_true_eq]
        have S5 := (same_newH (o := SetO w q (fun j => decide (j ∈ spotsL ns r)) c) nq).trans (same_newH (o := .lst (out.map V.int)) np)
        have B5 := B4.same S5
        refine ⟨.list ((spotsL ns r).map PyData.int), .list (out.map PyData.int), .lst (SqL.of B5.hl) (dp_ints _), .lst (SqL.of upd_same) (dp_ints _), shaped_ints _, shaped_ints _, _, rfl, ?_⟩
        rw [eqv_intL, decide_eq_true eo.symm]
        refine iteF ?_
        exact ⟨z, b, ln, kd, tr, lt, m, ns, r, _, _, _, _, _, _, _, _, _, _, rfl, B5, kn⟩
    case c2 =>
      rintro D σ H1 ⟨z, b, ln, kd, tr, lt, m, ns, r, t8, t9, t10, t11, t12, t13, t14, t15, t16, t17, rfl, B1, kn⟩
      have hsl := spotsL_len ns r
      have hrl := B1.rl
      have hm1 := B1.m1
      have hm3 := B1.m3
      have hn4 := B1.n4
      refine ⟨_, rfl, _, rfl, tr, _, rfl, .inr (SqT.of B1.hr), fun q nq => ?_⟩
      have SQ := same_newH (o := .lst (r.map V.int)) nq
      refine ⟨ln, q, _, _, rfl, rfl, SQ _ _ B1.hn, upd_same, Nat.le_of_lt (small1000 (by rw [len_ints, len_ints]; omega)), fun g ng => ?_⟩
      have SG := same_newH (o := .lst (ns.map V.int ++ r.map V.int)) ng
      have hg3 : upd (upd H1 q (.lst (r.map V.int))) g (.lst (ns.map V.int ++ r.map V.int)) g = some (.lst ((ns ++ r).map V.int)) := by rw [upd_same, List.map_append]
      have B3 := (B1.same SQ).same SG
      have gb : g ≠ b := fun e => by
        obtain ⟨ys, h⟩ := (B1.hb.same SQ).lst
        rw [← e, ng] at h
        cases h
      generalize upd (upd H1 q (.lst (r.map V.int))) g (.lst (ns.map V.int ++ r.map V.int)) = H3 at *
      refine ⟨_, rfl, by decide, by decide, ?_⟩
      refine for_range (fun i σ H' => ∃ (t9 t10 t11 t12 t13 : Option V), σ = [some (.ref a), some (.int z), some (.ref b), some (.int m), some (.ref ln), some (.ref kd), some (.ref tr), some (.ref lt), some (.ref g), t9, t10, t11, t12, t13, t14, t15, t16, t17] ∧ Bi H H' CK b ln kd tr lt m ns r (spotsL ns r) ∧ H' g = some (.lst ((ns ++ r).map V.int)))
        ⟨_, _, _, _, _, rfl, B3, hg3⟩ ?_ ?_
      · rintro i σ H4 hi ⟨t9, t10, t11, t12, t13, rfl, B4, hg4⟩
        refine' pickIH (fun x H5 => Bi H H5 CK b ln kd tr lt m ns r (spotsL ns r) ∧ H5 g = some (.lst ((ns ++ r).map V.int))) ?main ?rest
        case main =>
          intro go
          refine ⟨_, rfl, b, _, rfl, B4.hb, by decide, by decide, fun d H5 d0 d1 C5 hb5 => ?_⟩
          have B5 := B4.but C5 hb5
          have hg5 := C5 _ _ gb hg4
          refine ⟨_, _, rfl, rfl, _, rfl, ite2 (fun _ => ?a) (fun _ => ?b)⟩
          case b =>
            refine ⟨_, rfl, b, 33, rfl, B5.hb, by decide, by decide, fun x H6 _ C6 hb6 => ?_⟩
            exact go x H6 ⟨B5.but C6 hb6, C6 _ _ gb hg5⟩
          case a =>
            refine ⟨_, rfl, _, rfl, b, g, _, rfl, B5.hb, gb, SqL.of hg5, (fun e => by have := congrArg List.length e; rw [len_ints, List.length_append] at this; simp only [List.length_nil] at this; omega), (by rw [len_ints, List.length_append]; omega), fun v H6 hv C6 hb6 => ?_⟩
            obtain ⟨x, hx, rfl⟩ := List.mem_map.mp hv
            have B6 := B5.but C6 hb6
            refine ⟨_, rfl, b, _, rfl, B6.hb, by decide, by decide, fun e H7 e0 e1 C7 hb7 => ?_⟩
            refine ⟨_, _, rfl, rfl, _, _, rfl, rfl, ?_⟩
            exact go (x + e - 3) H7 ⟨B6.but C7 hb7, C7 _ _ gb (C6 _ _ gb hg5)⟩
        case rest =>
          rintro x H5 ⟨B5, hg5⟩
          obtain ⟨s, hs, hxs, hone⟩ := spots_one (r := r) B5.asc x
          refine ⟨_, rfl, _, rfl, _, rfl, x, .ref tr, ln, r, ns, rfl, B5.row, B5.hn, by omega, hn4, fun vw H6 S6 fv hv6 => ?_⟩
          have B6 := B5.same S6
          have hg6 := S6 _ _ hg5
          refine ⟨_, rfl, lt, rfl, ⟨_, SqL.of B6.hl⟩, fun D2 nD => ?_⟩
          have nlD : lt ≠ D2 := ne_of_none B6.hl nD
          let pf : Int → Bool := fun y => decide (viewI ns r y = viewI ns r x)
          have fl : ∀ j, (((spotsL ns r).take j).filter pf).length ≤ 30 := fun j => by
            have q1 := List.length_filter_le pf ((spotsL ns r).take j)
            have q2 : ((spotsL ns r).take j).length ≤ (spotsL ns r).length := by rw [List.length_take]; exact Nat.min_le_right _ _
            omega
          refine lc_list (xs := (spotsL ns r).map V.int) (fun j H' => Same H6 H' ∧ H' D2 = some (.lst ((((spotsL ns r).take j).filter pf).map V.int))) ⟨same_newH nD, upd_same⟩ (fun j H' _ e => SqL.of (e.1 _ _ B6.hl)) (fun j y H' hy e => ?_) (fun H7 e => ?_)
          · obtain ⟨S7, hD7⟩ := e
            obtain ⟨n, rfl, hn⟩ : ∃ n, y = .int n ∧ (spotsL ns r)[j]? = some n := by
              rw [List.getElem?_map] at hy
              cases e : (spotsL ns r)[j]? with
              | none => rw [e] at hy; cases hy
              | some n => rw [e] at hy; cases hy; exact ⟨n, rfl, rfl⟩
            have step : (((spotsL ns r).take (j + 1)).filter pf) = ((spotsL ns r).take j).filter pf ++ if pf n = true then [n] else [] := filter_snoc pf hn
            have B7 := B6.same S7
            refine ⟨rfl, ?_⟩
            refine ⟨_, rfl, _, rfl, _, rfl, n, .ref tr, ln, r, ns, rfl, B7.row, B7.hn, by omega, hn4, fun w2 H8 S8 fw hw8 => ?_⟩
            have hD8 := S8 _ _ hD7
            refine ⟨_, rfl, .list ((viewI ns r n).map PyData.int), .list ((viewI ns r x).map PyData.int), .lst (SqL.of hw8) (dp_ints _), .lst (SqL.of (S8 _ _ (S7 _ _ hv6))) (dp_ints _), shaped_ints _, shaped_ints _, _, rfl, ?_⟩
            rw [eqv_intL]
            refine ite2 (fun h1 => ?_) (fun h1 => ?_)
            · refine ⟨_, rfl, _, hD8, small1000 (by rw [len_ints]; exact Nat.le_trans (fl j) (by decide)), put_same (S7.trans S8) nD, ?_⟩
              rw [upd_same, step, if_pos h1, List.map_append]
              rfl
            · refine ⟨S7.trans S8, ?_⟩
              rw [step, if_neg h1, List.append_nil]
              exact hD8
          · obtain ⟨S7, hD7⟩ := e
            rw [List.length_map, List.take_length] at hD7
            have ef : (spotsL ns r).filter pf = [s] := filter_one (asc_nodup (spotsL_asc ns r)) hs fun y hy => by
              show decide (viewI ns r y = viewI ns r x) = true ↔ y = s
              rw [decide_eq_true_eq, viewI_iff]
              exact ⟨fun q => hone y hy (Alike.symm q), fun q => by rw [q]; exact Alike.symm hxs⟩
            rw [ef] at hD7
            have B7 := B6.same S7
            have hg7 := S7 _ _ hg6
            have at0 : ∀ {H'}, H' D2 = some (.lst ([s].map V.int)) → SqL K H' D2 [V.int s] := fun h => SqL.of h
            have a0 : atI [V.int s] 0 = some (V.int s) := atI_nat (j := 0) rfl
            refine ⟨_, rfl, D2, _, rfl, .inl (at0 hD7), rfl, _, rfl, ?_⟩
            refine iteF ?_
            obtain ⟨dx, kt, kl, hk7, hkt7⟩ := id B7.kd
            refine ⟨_, rfl, kd, dx, _, rfl, hk7, rfl, _, rfl, _, rfl, _, rfl, D2, _, 0, V.int s, rfl, rfl, at0 hD7, a0, kd, .ref tr, ns, r, x, s, rfl, B7.kd.num, by omega, B7.row, by omega, fun H8 b1 S8 hb1 => ?_⟩
            have e1 := hb1.mpr hxs
            subst e1
            refine ⟨_, rfl, iteF ?_⟩
            have B8 := B7.same S8
            have hD8 := S8 _ _ hD7
            refine ⟨_, rfl, kd, dx, _, rfl, S8 _ _ hk7, rfl, _, rfl, _, rfl, D2, _, 0, V.int s, rfl, rfl, at0 hD8, a0, _, rfl, kd, .ref tr, ns, r, s, x, rfl, B8.kd.num, by omega, B8.row, by omega, fun H9 b2 S9 hb2 => ?_⟩
            have e2 := hb2.mpr (Alike.symm hxs)
            subst e2
            refine ⟨_, rfl, iteF ?_⟩
            have B9 := B8.same S9
            have hD9 := S9 _ _ hD8
            have D2b : D2 ≠ b := fun e => by
              obtain ⟨ys, h⟩ := B6.hb.lst
              rw [← e, nD] at h
              cases h
            refine ⟨_, rfl, _, rfl, b, lt, _, rfl, B9.hb, B9.nb2, SqL.of B9.hl, (fun e => by rw [List.map_eq_nil_iff] at e; rw [e] at hs; cases hs), (by rw [len_ints]; omega), fun v H10 hv C10 hb10 => ?_⟩
            obtain ⟨y, hy, rfl⟩ := List.mem_map.mp hv
            have B10 := B9.but C10 hb10
            have hD10 := C10 _ _ D2b hD9
            obtain ⟨dx, kt, kl, hk10, hkt10⟩ := id B10.kd
            refine ⟨_, rfl, kd, dx, _, rfl, hk10, rfl, _, rfl, _, rfl, _, rfl, kd, .ref tr, ns, r, x, y, rfl, B10.kd.num, by omega, B10.row, by omega, fun H11 b3 S11 hb3 => ?_⟩
            refine ⟨_, rfl, _, rfl, D2, _, 0, V.int s, rfl, rfl, at0 (S11 _ _ hD10), a0, rfl, rfl, _, rfl, ite2 (fun hx => ?_) (fun _ => ?_)⟩
            · have e3 : b3 = decide (V.int y = V.int s) := by
                rw [Bool.eq_iff_iff, decide_eq_true_eq, hb3]
                exact ⟨fun q => by rw [hone y hy q], fun q => by rw [V.int.inj q]; exact hxs⟩
              have hx' : (!decide (V.bl b3 = V.bl (decide (V.int y = V.int s)))) = true := hx
              rw [decide_eq_true (by rw [e3])] at hx'
              cases hx'
            · exact ⟨_, _, _, _, _, rfl, B10.same S11, S11 _ _ (C10 _ _ gb (S9 _ _ (S8 _ _ hg7)))⟩
      · rintro σ H4 ⟨t9, t10, t11, t12, t13, rfl, B4, hg4⟩
        exact ⟨z, b, ln, kd, tr, lt, m, ns, r, _, _, _, _, _, _, _, _, _, _, rfl, B4, kn⟩
    case c3 =>
      rintro D σ H1 ⟨z, b, ln, kd, tr, lt, m, ns, r, t8, t9, t10, t11, t12, t13, t14, t15, t16, t17, rfl, B1, kn⟩
      have hrl := B1.rl
      have hm1 := B1.m1
      have hm3 := B1.m3
      have hn4 := B1.n4
      have hsl := spotsL_len ns r
      have e201 : (10 : Nat) ^ 200 ≤ 10 ^ 201 := Nat.pow_le_pow_right (by decide) (by decide)
      have e199 : (10 : Nat) ^ 199 ≤ 10 ^ 201 := Nat.pow_le_pow_right (by decide) (by decide)
      have near := spots_near (ns := ns) (r := r) B1.asc (by omega) (fun n hn => Nat.lt_of_lt_of_le (B1.nB n hn) e199) (fun n hn => Nat.lt_of_lt_of_le (B1.rB n hn) e201)
      refine ⟨_, rfl, .inl ⟨rfl, _, SqL.of B1.hl⟩, lt, _, rfl, rfl, B1.hl, ?_⟩
      have er : ((spotsL ns r).map V.int).reverse = ((spotsL ns r).reverse).map V.int := (List.map_reverse ..).symm
      rw [er]
      have B2 := B1.tell (told' := (spotsL ns r).reverse)
      obtain ⟨y0, ys, ey⟩ : ∃ y0 ys, (spotsL ns r).reverse = y0 :: ys := by
        obtain ⟨s, hs, _⟩ := spots_one (r := r) B1.asc 0
        cases e : (spotsL ns r).reverse with
        | nil => rw [List.reverse_eq_nil_iff] at e; rw [e] at hs; cases hs
        | cons y ys => exact ⟨y, ys, rfl⟩
      have hrev : (spotsL ns r).reverse.length ≤ 30 := by rw [List.length_reverse]; omega
      have nearR : ∀ n ∈ (spotsL ns r).reverse, n.natAbs < 10 ^ 202 := fun n hn => near n (List.mem_reverse.mp hn)
      rw [ey] at B2 hrev nearR ⊢
      have a0 : atI ((y0 :: ys).map V.int) 0 = some (V.int y0) := atI_nat (j := 0) rfl
      refine ⟨_, rfl, .inl ⟨rfl, _, SqL.of B2.hl⟩, _, rfl, lt, _, 0, V.int y0, rfl, rfl, SqL.of B2.hl, a0, lt, _, _, rfl, rfl, B2.hl, small1000 (by rw [len_ints]; omega), ?_⟩
      have ea : (y0 :: ys).map V.int ++ [V.int y0] = (y0 :: ys ++ [y0]).map V.int := by rw [List.map_append]; rfl
      rw [ea]
      have B3 := B2.tell (told' := y0 :: ys ++ [y0])
      have showT := ints_show (ns := y0 :: ys ++ [y0]) (fun n hn => by
        rcases List.mem_append.mp hn with hn | hn
        · exact nearR n hn
        · rw [List.mem_singleton.mp hn]
          exact nearR y0 List.mem_cons_self) (by rw [List.length_append]; show (y0 :: ys).length + 1 ≤ 100; omega)
      generalize y0 :: ys ++ [y0] = tl at *
      obtain ⟨_, sh1, sh2, sh3, sh4⟩ := showT
      refine ⟨_, rfl, lt, .list (tl.map PyData.int), rfl, .lst (SqL.of B3.hl) (dp_ints tl), sh1, sh2, sh3, sh4, ?_⟩
      refine ⟨_, rfl, _, rfl, _, rfl, b, ln, m, ns, rfl, B3.hb, hm1, hm3, B3.hn, B3.nb1, hn4, B3.nB, fun r2 t2 H4 hr2 hB2 ft2 ht2 C4 hb4 => ?_⟩
      have B4 := B3.but C4 hb4
      refine ⟨_, _, rfl, ?_⟩
      have hT2 : IntT H4 (.ref t2) r2 := ⟨t2, rfl, ht2⟩
      -- what is asked of a list of spots
      obtain ⟨dx, kt, kl, hk4, hkt4⟩ := id B4.kd
      refine ⟨_, rfl, kd, dx, _, rfl, hk4, rfl, _, rfl, kd, .ref t2, ns, r2, rfl, B4.kd.num, B4.asc, by omega, hT2, by omega, fun l5 H5 S5 fl5 hl5 => ?_⟩
      have B5 := B4.same S5
      have hsl2 := spotsL_len ns r2
      refine ⟨_, rfl, l5, _, rfl, .inl (SqL.of hl5), _, rfl, _, rfl, .ref t2, ln, r2, ns, rfl, hT2.lsts (Lsts.same S5), B5.hn, by omega, hn4, fun H6 S6 => ⟨rfl, _, rfl, ?_⟩⟩
      rw [len_ints, count_eq B1.asc, decide_eq_true rfl]
      refine iteF ?_
      have B6 := B5.same S6
      have hl6 := S6 _ _ hl5
      refine ⟨_, rfl, _, rfl, l5, _, rfl, .inl (SqL.of hl6), by omega, fun q c nq hc => ?_⟩
      refine ⟨q, _, c, rfl, upd_same, by omega, fun out p h1 h2 h3 np => ?_⟩
      have eo : out = spotsL ns r2 := asc_same h1 (spotsL_asc ns r2) fun x => by
        rw [h2 x]
        simp only [decide_eq_true_eq]
      have S7 := (same_newH (o := SetO w q (fun j => decide (j ∈ spotsL ns r2)) c) nq).trans (same_newH (o := .lst (out.map V.int)) np)
      have B7 := B6.same S7
      refine ⟨.list ((spotsL ns r2).map PyData.int), .list (out.map PyData.int), .lst (SqL.of (S7 _ _ hl6)) (dp_ints _), .lst (SqL.of upd_same) (dp_ints _), shaped_ints _, shaped_ints _, _, rfl, ?_⟩
      rw [eqv_intL, decide_eq_true eo.symm]
      refine iteF ?_
      refine ⟨_, rfl, lt, .list (tl.map PyData.int), rfl, .lst (SqL.of B7.hl) (dp_ints tl), sh1, sh2, sh3, sh4, _, rfl, rfl, _, rfl, ?_⟩
      rw [decide_eq_true rfl]
      refine iteF ?_
      clear h1 h2 h3 eo
      generalize upd (upd H6 q (SetO w q (fun j => decide (j ∈ spotsL ns r2)) c)) p (.lst (out.map V.int)) = H7 at *
      -- again
      obtain ⟨dx, kt, kl, hk7, hkt7⟩ := id B7.kd
      refine ⟨_, rfl, kd, dx, _, rfl, hk7, rfl, _, rfl, kd, .ref tr, ns, r, rfl, B7.kd.num, B7.asc, by omega, B7.row, by omega, fun l8 H8 S8 fl8 hl8 => ?_⟩
      have B8 := B7.same S8
      refine ⟨_, rfl, l8, _, rfl, .inl (SqL.of hl8), _, rfl, _, rfl, .ref tr, ln, r, ns, rfl, B8.row, B8.hn, by omega, hn4, fun H9 S9 => ⟨rfl, _, rfl, ?_⟩⟩
      rw [len_ints, count_eq B1.asc, decide_eq_true rfl]
      refine iteF ?_
      have B9 := B8.same S9
      have hl9 := S9 _ _ hl8
      refine ⟨_, rfl, _, rfl, l8, _, rfl, .inl (SqL.of hl9), by omega, fun q2 c2 nq2 hc2 => ?_⟩
      refine ⟨q2, _, c2, rfl, upd_same, by omega, fun out2 p2 h1 h2 h3 np2 => ?_⟩
      have eo : out2 = spotsL ns r := asc_same h1 (spotsL_asc ns r) fun x => by
        rw [h2 x]
        simp only [decide_eq_true_eq]
      have S10 := (same_newH (o := SetO w q2 (fun j => decide (j ∈ spotsL ns r)) c2) nq2).trans (same_newH (o := .lst (out2.map V.int)) np2)
      have B10 := B9.same S10
      refine ⟨.list ((spotsL ns r).map PyData.int), .list (out2.map PyData.int), .lst (SqL.of (S10 _ _ hl9)) (dp_ints _), .lst (SqL.of upd_same) (dp_ints _), shaped_ints _, shaped_ints _, _, rfl, ?_⟩
      rw [eqv_intL, decide_eq_true eo.symm]
      refine iteF ?_
      exact kn _ _ ⟨_, _, _, _, _, _, _, _, _, _, _, _, _, _, _, _, _, rfl⟩ B10.S
    · have hj : ∀ j : Int, j = (if (if ((ns.map V.int).length : Int) < 6 then ((ns.map V.int).length : Int) else 6) > 1 then (if ((ns.map V.int).length : Int) < 6 then ((ns.map V.int).length : Int) else 6) else 1) → 0 ≤ j ∧ j ≤ 8 := by
        intro j e
        subst e
        split <;> split <;> omega
      have hj := hj _ rfl
      refine ⟨_, rfl, a, _, rfl, .inl hS, _, _, rfl, _, _, rfl, _, rfl, by omega, by omega, ?_⟩
      refine for_range (fun i σ H' => ∃ t1 t2 t3 t4 t5 t6 t7 t8 t9 t10 t11 t12 t13 t14 t15 t16 t17, σ = [some (.ref a), t1, t2, t3, t4, t5, t6, t7, t8, t9, t10, t11, t12, t13, t14, t15, t16, t17] ∧ Same H H') ⟨none, none, none, none, none, none, none, none, none, none, none, none, none, none, none, none, none, rfl, Same.refl _⟩ ?_ ?_
      · rintro i σ H1 hi ⟨t1, t2, t3, t4, t5, t6, t7, t8, t9, t10, t11, t12, t13, t14, t15, t16, t17, rfl, S1⟩
        refine ⟨_, rfl, _, rfl, a, ns, i, (by rw [Int.zero_add]; rfl), S1.seq hS, hlen, by omega, fun b H2 S2 nb1 hb2 => ?_⟩
        refine ⟨_, rfl, b, 3, rfl, hb2, by decide, by decide, fun d H3 d0 d1 B3 hb3 => ?_⟩
        refine ⟨_, _, rfl, rfl, ?_⟩
        have nb : H b = none := S1.free nb1
        have S3 : Same H H3 := B3.to_same (S1.trans S2) nb
        refine ⟨_, rfl, b, rfl, hb3, fun ms ln H4 hasc hn4 hnB fln lnb hln B4 hb4 => ?_⟩
        have S4 : Same H H4 := B4.to_same S3 nb
        have ecols : [V.str "one", V.str "two", V.str "three"] = colS.map V.str := rfl
        refine ⟨(by show 3 ≤ sizeLine; decide), fun l nl => ?_⟩
        refine ⟨_, rfl, _, rfl, l, _, rfl, SqL.of upd_same, fun l2 nl2 => ?_⟩
        intro x dx nx ndx nxd
        obtain ⟨m, hdm, hm1, hm3⟩ : ∃ m : Nat, d = (m : Int) - 1 ∧ 1 ≤ m ∧ m ≤ 3 := ⟨(d + 1).toNat, by omega, by omega, by omega⟩
        have em : (1 : Int) + d = ((m : Nat) : Int) := by omega
        have ec : cutV (colS.map V.str) none (some (1 + d)) = (colS.take m).map V.str := by rw [em, cut_take, List.map_take]
        have Sa : Same H4 (upd (upd H4 l (.lst (colS.map V.str))) l2 (.lst (cutV (colS.map V.str) none (some (1 + d))))) := (same_newH nl).trans (same_newH nl2)
        have hl2 : upd (upd H4 l (.lst (colS.map V.str))) l2 (.lst (cutV (colS.map V.str) none (some (1 + d)))) l2 = some (.lst (cutV (colS.map V.str) none (some (1 + d)))) := upd_same
        have hl2' : upd (upd (upd (upd H4 l (.lst (colS.map V.str))) l2 (.lst (cutV (colS.map V.str) none (some (1 + d))))) dx (.own x)) x (.ins CT dx []) l2 = some (.lst (cutV (colS.map V.str) none (some (1 + d)))) := by
          rw [upd_ne (ne_of_none hl2 nx), upd_ne (ne_of_none hl2 ndx)]
          exact hl2
        have hdue : dueV ((colS.take m).map V.str) = .non := by
          have : m = 1 ∨ m = 2 ∨ m = 3 := by omega
          rcases this with rfl | rfl | rfl <;> decide +kernel
        have hcl : ((colS.take m).map V.str).length = m := by
          rw [List.length_map, List.length_take]
          show min m 3 = m
          omega
        refine ⟨x, l2, dx, _, rfl, upd_same, .inl (SqL.of hl2'), (by rw [ec, hcl]; omega), (by rw [ec]; exact ent_word (col_words m)), (by rw [ec]; exact hdue), fun H5 B5 hT => ⟨rfl, ?_⟩⟩
        rw [ec] at hT
        have S45 : Same H4 H5 := Sa.trans (made_same nx ndx B5)
        refine ⟨_, rfl, ?_⟩
        intro y dy ny ndy nyd
        have SM : Same H5 (upd (upd H5 dy (.own y)) y (.ins CK dy [])) := fun q o e => by
          rw [upd_ne (ne_of_none e ny), upd_ne (ne_of_none e ndy)]
          exact e
        refine ⟨y, x, ln, dy, _, ms, rfl, upd_same, hT.same SM, by rw [hcl]; exact hm3, .inl (SqL.of (SM _ _ (S45 _ _ hln))), by omega, fun ll xs H6 B6 fll hk => ⟨rfl, ?_⟩⟩
        have S56 := made_same ny ndy B6
        rw [asc_self hasc, hcl] at hk
        obtain ⟨dz, kt, hk1, hk2⟩ := hk.ob
        have S46 : Same H4 H6 := S45.trans S56
        have hb6 := hb4.same S46
        have hln6 := S46 _ _ hln
        refine ⟨_, rfl, _, rfl, _, rfl, b, ln, m, ms, (by rw [← em]; rfl), hb6, hm1, hm3, hln6, lnb, hn4, hnB, fun r tr H7 hr hrB ftr htr C7 hb7 => ?_⟩
        have L7 := Lsts.but hb6 C7
        have kd7 : KOb H7 CK y ms := ⟨dz, kt, ll, L7 _ _ hk1 nofun, L7 _ _ hk2 nofun⟩
        refine ⟨_, rfl, y, dz, _, rfl, L7 _ _ hk1 nofun, rfl, _, rfl, y, .ref tr, ms, r, rfl, kd7.num, hasc, by omega, ⟨tr, rfl, htr⟩, by omega, fun lt H8 S8 flt hlt => ?_⟩
        have S07 : Same H H7 := C7.to_same (S4.trans S46) nb
        have hln7 := C7 _ _ lnb hln6
        exact ⟨_, b, ln, y, tr, lt, m, ms, r, _, _, _, _, _, _, _, _, _, _, (by rw [← em]; rfl), ⟨S07.trans S8, nb, hb7.same S8, hm1, hm3, lnb, S8 _ _ hln7, hasc, hn4, hnB, kd7.lsts (Lsts.same S8), S8 _ _ htr, hr, hrB, (hb7.ne flt).symm, (ne_of_none hln7 flt).symm, S07.free flt, hlt⟩,
          fun σ' H9 hσ S9 => by
            obtain ⟨u1, u2, u3, u4, u5, u6, u7, u8, u9, u10, u11, u12, u13, u14, u15, u16, u17, rfl⟩ := hσ
            exact ⟨u1, u2, u3, u4, u5, u6, u7, u8, u9, u10, u11, u12, u13, u14, u15, u16, u17, rfl, S9⟩⟩
      · rintro σ H1 ⟨t1, t2, t3, t4, t5, t6, t7, t8, t9, t10, t11, t12, t13, t14, t15, t16, t17, rfl, S1⟩
        exact k _
end
end K06

namespace Own
open PySem PySem.Spec PyProof.Rows L2
/-! ### facts of error classes, as tests -/
def oexO (C : Addr) : Option Obj → Bool
  | some ⟨.type "type", _, .cls cd, sl⟩ => (match cd.mro, sl.toList with
    | .ref D :: bm, [_, _, _, _, some (.builtin n), _] => decide (D = C) && (decide (n = "ValueError.__new__") && (!cd.hasDel && (cd.hasDict && PySem.HandSPX.refsVE bm)))
    | _, _ => false)
  | _ => false
theorem oexO_ok {K : PySem.W.Frag} {C : Addr} (q : oexO C (K.lookup C) = true) :
    ∃ nm q N bs bm sn sub ab col dd k0 k1 k2 k3 k5, K.lookup C = some (excClassObj nm q C N bs bm true sn sub ab col dd k0 k1 k2 k3 k5 "ValueError.__new__") ∧ PySem.HandSPX.refsVE bm = true := by
  unfold oexO at q
  split at q
  · rename_i dd cd sl ho
    split at q
    · rename_i D bm k0 k1 k2 k3 n k5 hm hs
      simp only [Bool.and_eq_true, Bool.not_eq_true', decide_eq_true_eq] at q
      obtain ⟨rfl, rfl, hdel, hdict, hbm⟩ := q
      obtain ⟨nm, bs, mro, ns, qn, hd, sn, sub, ab, col, del⟩ := cd
      dsimp only at hm hdel hdict
      subst hm hdel hdict
      obtain ⟨sl⟩ := sl
      dsimp only at hs
      subst hs
      exact ⟨nm, qn, ns, bs, bm, sn, sub, ab, col, dd, k0, k1, k2, k3, k5, ho, hbm⟩
    · cases q
  · cases q
def oexB (K : PySem.W.Frag) (C : Addr) : Bool := oexO C (K.lookup C) && (He.eqO (PySem.W.findIn K (.ref C) "__setattr__") (some (some (.builtin "object.__setattr__"))) && (decide (PySem.W.subIn K (.ref C) (.type "BaseException") = some true) && (decide (PySem.W.typeIn K (.ref C) = some (.type "type")) && PySem.W.keepIn K (.ref C))))
theorem oexB_ok {K : PySem.W.Frag} {C : Addr} (h : oexB K C = true) : OexC K C := by
  obtain ⟨h1, h⟩ := Bool.and_eq_true_iff.mp h
  obtain ⟨h2, h⟩ := Bool.and_eq_true_iff.mp h
  obtain ⟨h3, h⟩ := Bool.and_eq_true_iff.mp h
  obtain ⟨h4, h5⟩ := Bool.and_eq_true_iff.mp h
  exact ⟨oexO_ok h1, He.eqO_ok h2, of_decide_eq_true h3, of_decide_eq_true h4, h5⟩
def baseB (K : PySem.W.Frag) (B : Addr) : Bool := PySem.W.readsIn K B (.type "type") && (He.eqO (PySem.W.specialIn K (.ref B) "__getattribute__") (some (some (.builtin "type.__getattribute__"))) && (match PySem.W.findCls K (.ref B) (.type "type") "__init__" with
  | some (.val (.builtin n)) => decide (n = "ValueError.__init__")
  | _ => false))
theorem baseB_ok {K : PySem.W.Frag} {B : Addr} (h : baseB K B = true) : BaseI K B := by
  obtain ⟨h1, h⟩ := Bool.and_eq_true_iff.mp h
  obtain ⟨h2, h3⟩ := Bool.and_eq_true_iff.mp h
  refine ⟨⟨h1, He.eqO_ok h2⟩, ?_⟩
  clear h h1 h2
  split at h3
  · rename_i n e
    rw [e, of_decide_eq_true h3]
  · cases h3
def excCB (K : PySem.W.Frag) (D : Addr) : Bool := xfB K D && (He.eqO (PySem.W.findIn K (.ref D) "__class__") (some (some (.builtin "object.__class__"))) && (He.eqO (PySem.W.specialIn K (.builtin "object.__class__") "__get__") (some (some (.builtin "getset_descriptor.__get__"))) &&
  (decide (PySem.W.takesIn K (.builtin "object.__class__") = some true) && decide (PySem.W.mroIn K D (.type "object") = some true))))
theorem excCB_ok {K : PySem.W.Frag} {D : Addr} (h : excCB K D = true) : XfC K D ∧ ExcC K D := by
  obtain ⟨h1, h⟩ := Bool.and_eq_true_iff.mp h
  obtain ⟨h2, h⟩ := Bool.and_eq_true_iff.mp h
  obtain ⟨h3, h⟩ := Bool.and_eq_true_iff.mp h
  obtain ⟨h4, h5⟩ := Bool.and_eq_true_iff.mp h
  have x := xfB_ok h1
  exact ⟨x, ⟨x.ga, x.gg, x.exC, x.hdC, He.eqO_ok h2, He.eqO_ok h3, of_decide_eq_true h4, of_decide_eq_true h5⟩⟩
end Own

namespace K06
open PySem PySem.Spec PyProof.Rows L2 Own
def d_is_word : He.DefD := ⟨("is_word", none), "is_word", "is_word", defArgs s_is_word, defBody s_is_word, defScope s_is_word, [], []⟩
def d_first_bad : He.DefD := ⟨("first_bad", none), "first_bad", "first_bad", defArgs s_first_bad, defBody s_first_bad, defScope s_first_bad, [], []⟩
def d_Tableinit : He.DefD := ⟨("Table", some "__init__"), "__init__", "Table.__init__", defArgs s_Tableinit, defBody s_Tableinit, defScope s_Tableinit, [], []⟩
def d_place : He.DefD := ⟨("place", none), "place", "place", defArgs s_place, defBody s_place, defScope s_place, [], []⟩
def d_equals : He.DefD := ⟨("equals", none), "equals", "equals", defArgs s_equals, defBody s_equals, defScope s_equals, [], []⟩
def d_stretches : He.DefD := ⟨("stretches", none), "stretches", "stretches", defArgs s_stretches, defBody s_stretches, defScope s_stretches, [], []⟩
def d_free_spots : He.DefD := ⟨("free_spots", none), "free_spots", "free_spots", defArgs s_free_spots, defBody s_free_spots, defScope s_free_spots, [], []⟩
def d_spots_beside : He.DefD := ⟨("spots_beside", none), "spots_beside", "spots_beside", defArgs s_spots_beside, defBody s_spots_beside, defScope s_spots_beside, [], []⟩
def d_Kinds_spots : He.DefD := ⟨("Kinds", some "spots"), "spots", "Kinds.spots", defArgs s_Kinds_spots, defBody s_Kinds_spots, defScope s_Kinds_spots, [], []⟩
def d_Kindsinit : He.DefD := ⟨("Kinds", some "__init__"), "__init__", "Kinds.__init__", defArgs s_Kindsinit, defBody s_Kindsinit, defScope s_Kindsinit, [], []⟩
def d_Kinds_alike : He.DefD := ⟨("Kinds", some "alike"), "alike", "Kinds.alike", defArgs s_Kinds_alike, defBody s_Kinds_alike, defScope s_Kinds_alike, [], []⟩
def d_law_bag : He.DefD := ⟨("_law_bag", none), "_law_bag", "_law_bag", defArgs s_law_bag, defBody s_law_bag, defScope s_law_bag, [], []⟩
def d_law_take : He.DefD := ⟨("_law_take", none), "_law_take", "_law_take", defArgs s_law_take, defBody s_law_take, defScope s_law_take, [], []⟩
def d_law_of : He.DefD := ⟨("_law_of", none), "_law_of", "_law_of", defArgs s_law_of, defBody s_law_of, defScope s_law_of, [], []⟩
def d_law_long : He.DefD := ⟨("_law_long", none), "_law_long", "_law_long", defArgs s_law_long, defBody s_law_long, defScope s_law_long, [], []⟩
def d_law_numbers : He.DefD := ⟨("_law_numbers", none), "_law_numbers", "_law_numbers", defArgs s_law_numbers, defBody s_law_numbers, defScope s_law_numbers, [], []⟩
def d_law_row : He.DefD := ⟨("_law_row", none), "_law_row", "_law_row", defArgs s_law_row, defBody s_law_row, defScope s_law_row, [], []⟩
def d_law_view : He.DefD := ⟨("_law_view", none), "_law_view", "_law_view", defArgs s_law_view, defBody s_law_view, defScope s_law_view, [], []⟩
def d_law_count : He.DefD := ⟨("_law_count", none), "_law_count", "_law_count", defArgs s_law_count, defBody s_law_count, defScope s_law_count, [], []⟩
def d_law : He.DefD := ⟨("law", none), "law", "law", defArgs s_law, defBody s_law, defScope s_law, [], []⟩
def fn : List He.DefD := [d_is_word, d_first_bad, d_Tableinit, d_place, d_equals, d_stretches, d_free_spots, d_spots_beside, d_Kinds_spots, d_Kindsinit, d_Kinds_alike, d_law_bag, d_law_take, d_law_of, d_law_long, d_law_numbers, d_law_row, d_law_view, d_law_count, d_law]
def fa : List He.Fa := [.glo "is_word", .glo "first_bad", .glo "place", .glo "equals", .glo "stretches", .glo "free_spots", .glo "spots_beside", .glo "_law_bag", .glo "_law_take", .glo "_law_of", .glo "_law_long", .glo "_law_numbers", .glo "_law_row", .glo "_law_view", .glo "_law_count", .glo "law", .free "len", .free "range", .free "enumerate", .free "int", .free "abs", .free "list", .free "tuple", .free "all", .free "isinstance", .free "max", .free "min", .free "str", .free "bool", .free "repr", .free "sorted", .free "set", .free "sum", .free "any", .free "dict", .cls "Table", .noat "Table" "columns", .mkr "Table", .cls "Kinds", .noat "Kinds" "numbers", .noat "Kinds" "_rows", .mkr "Kinds", .meth "Kinds" "spots", .meth "Kinds" "alike", .int "WORD_LETTERS" 8, .int "MOST_COLUMNS" 3, .glo "KEPT", .glo "Table", .glo "Kinds"]
section
variable {K : PySem.W.Frag} {h : Heap} {mg : Str → Option Value}
theorem F_is_word (c : He.SaysD fa fn K) : ∃ fd, FunD K "is_word" "is_word" (defArgs s_is_word) (defBody s_is_word) (defScope s_is_word) [] [] (He.fAd K ("is_word", none)) fd := c.def_ 0 (d := d_is_word) rfl
theorem b_is_word {f : Addr} {fd : FuncData} (F : FunD K "is_word" "is_word" (defArgs s_is_word) (defBody s_is_word) (defScope s_is_word) [] [] f fd) : Binds K fd ["thing"] [] := F.bindsN fun _ _ _ _ _ _ us hl => match us, hl with | [_], _ => rfl
theorem F_first_bad (c : He.SaysD fa fn K) : ∃ fd, FunD K "first_bad" "first_bad" (defArgs s_first_bad) (defBody s_first_bad) (defScope s_first_bad) [] [] (He.fAd K ("first_bad", none)) fd := c.def_ 1 (d := d_first_bad) rfl
theorem b_first_bad {f : Addr} {fd : FuncData} (F : FunD K "first_bad" "first_bad" (defArgs s_first_bad) (defBody s_first_bad) (defScope s_first_bad) [] [] f fd) : Binds K fd ["names"] [] := F.bindsN fun _ _ _ _ _ _ us hl => match us, hl with | [_], _ => rfl
theorem F_Tableinit (c : He.SaysD fa fn K) : ∃ fd, FunD K "__init__" "Table.__init__" (defArgs s_Tableinit) (defBody s_Tableinit) (defScope s_Tableinit) [] [] (He.fAd K ("Table", some "__init__")) fd := c.def_ 2 (d := d_Tableinit) rfl
theorem b_Tableinit {f : Addr} {fd : FuncData} (F : FunD K "__init__" "Table.__init__" (defArgs s_Tableinit) (defBody s_Tableinit) (defScope s_Tableinit) [] [] f fd) : Binds K fd ["self", "columns"] [] := F.bindsN fun _ _ _ _ _ _ us hl => match us, hl with | [_, _], _ => rfl
theorem F_place (c : He.SaysD fa fn K) : ∃ fd, FunD K "place" "place" (defArgs s_place) (defBody s_place) (defScope s_place) [] [] (He.fAd K ("place", none)) fd := c.def_ 3 (d := d_place) rfl
theorem b_place {f : Addr} {fd : FuncData} (F : FunD K "place" "place" (defArgs s_place) (defBody s_place) (defScope s_place) [] [] f fd) : Binds K fd ["numbers", "integer"] [] := F.bindsN fun _ _ _ _ _ _ us hl => match us, hl with | [_, _], _ => rfl
theorem F_equals (c : He.SaysD fa fn K) : ∃ fd, FunD K "equals" "equals" (defArgs s_equals) (defBody s_equals) (defScope s_equals) [] [] (He.fAd K ("equals", none)) fd := c.def_ 4 (d := d_equals) rfl
theorem b_equals {f : Addr} {fd : FuncData} (F : FunD K "equals" "equals" (defArgs s_equals) (defBody s_equals) (defScope s_equals) [] [] f fd) : Binds K fd ["row", "integer"] [] := F.bindsN fun _ _ _ _ _ _ us hl => match us, hl with | [_, _], _ => rfl
theorem F_stretches (c : He.SaysD fa fn K) : ∃ fd, FunD K "stretches" "stretches" (defArgs s_stretches) (defBody s_stretches) (defScope s_stretches) [] [] (He.fAd K ("stretches", none)) fd := c.def_ 5 (d := d_stretches) rfl
theorem b_stretches {f : Addr} {fd : FuncData} (F : FunD K "stretches" "stretches" (defArgs s_stretches) (defBody s_stretches) (defScope s_stretches) [] [] f fd) : Binds K fd ["numbers", "room"] [] := F.bindsN fun _ _ _ _ _ _ us hl => match us, hl with | [_, _], _ => rfl
theorem F_free_spots (c : He.SaysD fa fn K) : ∃ fd, FunD K "free_spots" "free_spots" (defArgs s_free_spots) (defBody s_free_spots) (defScope s_free_spots) [] [] (He.fAd K ("free_spots", none)) fd := c.def_ 6 (d := d_free_spots) rfl
theorem b_free_spots {f : Addr} {fd : FuncData} (F : FunD K "free_spots" "free_spots" (defArgs s_free_spots) (defBody s_free_spots) (defScope s_free_spots) [] [] f fd) : Binds K fd ["numbers", "row"] [] := F.bindsN fun _ _ _ _ _ _ us hl => match us, hl with | [_, _], _ => rfl
theorem F_spots_beside (c : He.SaysD fa fn K) : ∃ fd, FunD K "spots_beside" "spots_beside" (defArgs s_spots_beside) (defBody s_spots_beside) (defScope s_spots_beside) [] [] (He.fAd K ("spots_beside", none)) fd := c.def_ 7 (d := d_spots_beside) rfl
theorem b_spots_beside {f : Addr} {fd : FuncData} (F : FunD K "spots_beside" "spots_beside" (defArgs s_spots_beside) (defBody s_spots_beside) (defScope s_spots_beside) [] [] f fd) : Binds K fd ["numbers", "row"] [] := F.bindsN fun _ _ _ _ _ _ us hl => match us, hl with | [_, _], _ => rfl
theorem F_Kinds_spots (c : He.SaysD fa fn K) : ∃ fd, FunD K "spots" "Kinds.spots" (defArgs s_Kinds_spots) (defBody s_Kinds_spots) (defScope s_Kinds_spots) [] [] (He.fAd K ("Kinds", some "spots")) fd := c.def_ 8 (d := d_Kinds_spots) rfl
theorem b_Kinds_spots {f : Addr} {fd : FuncData} (F : FunD K "spots" "Kinds.spots" (defArgs s_Kinds_spots) (defBody s_Kinds_spots) (defScope s_Kinds_spots) [] [] f fd) : Binds K fd ["self", "row"] [] := F.bindsN fun _ _ _ _ _ _ us hl => match us, hl with | [_, _], _ => rfl
theorem F_Kindsinit (c : He.SaysD fa fn K) : ∃ fd, FunD K "__init__" "Kinds.__init__" (defArgs s_Kindsinit) (defBody s_Kindsinit) (defScope s_Kindsinit) [] [] (He.fAd K ("Kinds", some "__init__")) fd := c.def_ 9 (d := d_Kindsinit) rfl
theorem b_Kindsinit {f : Addr} {fd : FuncData} (F : FunD K "__init__" "Kinds.__init__" (defArgs s_Kindsinit) (defBody s_Kindsinit) (defScope s_Kindsinit) [] [] f fd) : Binds K fd ["self", "table", "numbers"] [] := F.bindsN fun _ _ _ _ _ _ us hl => match us, hl with | [_, _, _], _ => rfl
theorem F_Kinds_alike (c : He.SaysD fa fn K) : ∃ fd, FunD K "alike" "Kinds.alike" (defArgs s_Kinds_alike) (defBody s_Kinds_alike) (defScope s_Kinds_alike) [] [] (He.fAd K ("Kinds", some "alike")) fd := c.def_ 10 (d := d_Kinds_alike) rfl
theorem b_Kinds_alike {f : Addr} {fd : FuncData} (F : FunD K "alike" "Kinds.alike" (defArgs s_Kinds_alike) (defBody s_Kinds_alike) (defScope s_Kinds_alike) [] [] f fd) : Binds K fd ["self", "row", "one", "other"] [] := F.bindsN fun _ _ _ _ _ _ us hl => match us, hl with | [_, _, _, _], _ => rfl
theorem F_law_bag (c : He.SaysD fa fn K) : ∃ fd, FunD K "_law_bag" "_law_bag" (defArgs s_law_bag) (defBody s_law_bag) (defScope s_law_bag) [] [] (He.fAd K ("_law_bag", none)) fd := c.def_ 11 (d := d_law_bag) rfl
theorem b_law_bag {f : Addr} {fd : FuncData} (F : FunD K "_law_bag" "_law_bag" (defArgs s_law_bag) (defBody s_law_bag) (defScope s_law_bag) [] [] f fd) : Binds K fd ["script", "at"] [] := F.bindsN fun _ _ _ _ _ _ us hl => match us, hl with | [_, _], _ => rfl
theorem F_law_take (c : He.SaysD fa fn K) : ∃ fd, FunD K "_law_take" "_law_take" (defArgs s_law_take) (defBody s_law_take) (defScope s_law_take) [] [] (He.fAd K ("_law_take", none)) fd := c.def_ 12 (d := d_law_take) rfl
theorem b_law_take {f : Addr} {fd : FuncData} (F : FunD K "_law_take" "_law_take" (defArgs s_law_take) (defBody s_law_take) (defScope s_law_take) [] [] f fd) : Binds K fd ["bag", "many"] [] := F.bindsN fun _ _ _ _ _ _ us hl => match us, hl with | [_, _], _ => rfl
theorem F_law_of (c : He.SaysD fa fn K) : ∃ fd, FunD K "_law_of" "_law_of" (defArgs s_law_of) (defBody s_law_of) (defScope s_law_of) [] [] (He.fAd K ("_law_of", none)) fd := c.def_ 13 (d := d_law_of) rfl
theorem b_law_of {f : Addr} {fd : FuncData} (F : FunD K "_law_of" "_law_of" (defArgs s_law_of) (defBody s_law_of) (defScope s_law_of) [] [] f fd) : Binds K fd ["bag", "some"] [] := F.bindsN fun _ _ _ _ _ _ us hl => match us, hl with | [_, _], _ => rfl
theorem F_law_long (c : He.SaysD fa fn K) : ∃ fd, FunD K "_law_long" "_law_long" (defArgs s_law_long) (defBody s_law_long) (defScope s_law_long) [] [] (He.fAd K ("_law_long", none)) fd := c.def_ 14 (d := d_law_long) rfl
theorem b_law_long {f : Addr} {fd : FuncData} (F : FunD K "_law_long" "_law_long" (defArgs s_law_long) (defBody s_law_long) (defScope s_law_long) [] [] f fd) : Binds K fd ["bag", "blocks"] [] := F.bindsN fun _ _ _ _ _ _ us hl => match us, hl with | [_, _], _ => rfl
theorem F_law_numbers (c : He.SaysD fa fn K) : ∃ fd, FunD K "_law_numbers" "_law_numbers" (defArgs s_law_numbers) (defBody s_law_numbers) (defScope s_law_numbers) [] [] (He.fAd K ("_law_numbers", none)) fd := c.def_ 15 (d := d_law_numbers) rfl
theorem b_law_numbers {f : Addr} {fd : FuncData} (F : FunD K "_law_numbers" "_law_numbers" (defArgs s_law_numbers) (defBody s_law_numbers) (defScope s_law_numbers) [] [] f fd) : Binds K fd ["bag"] [] := F.bindsN fun _ _ _ _ _ _ us hl => match us, hl with | [_], _ => rfl
theorem F_law_row (c : He.SaysD fa fn K) : ∃ fd, FunD K "_law_row" "_law_row" (defArgs s_law_row) (defBody s_law_row) (defScope s_law_row) [] [] (He.fAd K ("_law_row", none)) fd := c.def_ 16 (d := d_law_row) rfl
theorem b_law_row {f : Addr} {fd : FuncData} (F : FunD K "_law_row" "_law_row" (defArgs s_law_row) (defBody s_law_row) (defScope s_law_row) [] [] f fd) : Binds K fd ["bag", "many", "numbers"] [] := F.bindsN fun _ _ _ _ _ _ us hl => match us, hl with | [_, _, _], _ => rfl
theorem F_law_view (c : He.SaysD fa fn K) : ∃ fd, FunD K "_law_view" "_law_view" (defArgs s_law_view) (defBody s_law_view) (defScope s_law_view) [] [] (He.fAd K ("_law_view", none)) fd := c.def_ 17 (d := d_law_view) rfl
theorem b_law_view {f : Addr} {fd : FuncData} (F : FunD K "_law_view" "_law_view" (defArgs s_law_view) (defBody s_law_view) (defScope s_law_view) [] [] f fd) : Binds K fd ["value", "row", "numbers"] [] := F.bindsN fun _ _ _ _ _ _ us hl => match us, hl with | [_, _, _], _ => rfl
theorem F_law_count (c : He.SaysD fa fn K) : ∃ fd, FunD K "_law_count" "_law_count" (defArgs s_law_count) (defBody s_law_count) (defScope s_law_count) [] [] (He.fAd K ("_law_count", none)) fd := c.def_ 18 (d := d_law_count) rfl
theorem b_law_count {f : Addr} {fd : FuncData} (F : FunD K "_law_count" "_law_count" (defArgs s_law_count) (defBody s_law_count) (defScope s_law_count) [] [] f fd) : Binds K fd ["row", "numbers"] [] := F.bindsN fun _ _ _ _ _ _ us hl => match us, hl with | [_, _], _ => rfl
theorem F_law (c : He.SaysD fa fn K) : ∃ fd, FunD K "law" "law" (defArgs s_law) (defBody s_law) (defScope s_law) [] [] (He.fAd K ("law", none)) fd := c.def_ 19 (d := d_law) rfl
theorem b_law {f : Addr} {fd : FuncData} (F : FunD K "law" "law" (defArgs s_law) (defBody s_law) (defScope s_law) [] [] f fd) : Binds K fd ["script"] [] := F.bindsN fun _ _ _ _ _ _ us hl => match us, hl with | [_], _ => rfl
theorem g_is_word (X : K.In h) (G : h.Ns mainGlobals mg) (c : He.SaysD fa fn K) : mg "is_word" = some (.ref (He.fAd K ("is_word", none))) := He.glo_ok X G (c.fact 0 (f := .glo "is_word") rfl)
theorem g_first_bad (X : K.In h) (G : h.Ns mainGlobals mg) (c : He.SaysD fa fn K) : mg "first_bad" = some (.ref (He.fAd K ("first_bad", none))) := He.glo_ok X G (c.fact 1 (f := .glo "first_bad") rfl)
theorem g_place (X : K.In h) (G : h.Ns mainGlobals mg) (c : He.SaysD fa fn K) : mg "place" = some (.ref (He.fAd K ("place", none))) := He.glo_ok X G (c.fact 2 (f := .glo "place") rfl)
theorem g_equals (X : K.In h) (G : h.Ns mainGlobals mg) (c : He.SaysD fa fn K) : mg "equals" = some (.ref (He.fAd K ("equals", none))) := He.glo_ok X G (c.fact 3 (f := .glo "equals") rfl)
theorem g_stretches (X : K.In h) (G : h.Ns mainGlobals mg) (c : He.SaysD fa fn K) : mg "stretches" = some (.ref (He.fAd K ("stretches", none))) := He.glo_ok X G (c.fact 4 (f := .glo "stretches") rfl)
theorem g_free_spots (X : K.In h) (G : h.Ns mainGlobals mg) (c : He.SaysD fa fn K) : mg "free_spots" = some (.ref (He.fAd K ("free_spots", none))) := He.glo_ok X G (c.fact 5 (f := .glo "free_spots") rfl)
theorem g_spots_beside (X : K.In h) (G : h.Ns mainGlobals mg) (c : He.SaysD fa fn K) : mg "spots_beside" = some (.ref (He.fAd K ("spots_beside", none))) := He.glo_ok X G (c.fact 6 (f := .glo "spots_beside") rfl)
theorem g_law_bag (X : K.In h) (G : h.Ns mainGlobals mg) (c : He.SaysD fa fn K) : mg "_law_bag" = some (.ref (He.fAd K ("_law_bag", none))) := He.glo_ok X G (c.fact 7 (f := .glo "_law_bag") rfl)
theorem g_law_take (X : K.In h) (G : h.Ns mainGlobals mg) (c : He.SaysD fa fn K) : mg "_law_take" = some (.ref (He.fAd K ("_law_take", none))) := He.glo_ok X G (c.fact 8 (f := .glo "_law_take") rfl)
theorem g_law_of (X : K.In h) (G : h.Ns mainGlobals mg) (c : He.SaysD fa fn K) : mg "_law_of" = some (.ref (He.fAd K ("_law_of", none))) := He.glo_ok X G (c.fact 9 (f := .glo "_law_of") rfl)
theorem g_law_long (X : K.In h) (G : h.Ns mainGlobals mg) (c : He.SaysD fa fn K) : mg "_law_long" = some (.ref (He.fAd K ("_law_long", none))) := He.glo_ok X G (c.fact 10 (f := .glo "_law_long") rfl)
theorem g_law_numbers (X : K.In h) (G : h.Ns mainGlobals mg) (c : He.SaysD fa fn K) : mg "_law_numbers" = some (.ref (He.fAd K ("_law_numbers", none))) := He.glo_ok X G (c.fact 11 (f := .glo "_law_numbers") rfl)
theorem g_law_row (X : K.In h) (G : h.Ns mainGlobals mg) (c : He.SaysD fa fn K) : mg "_law_row" = some (.ref (He.fAd K ("_law_row", none))) := He.glo_ok X G (c.fact 12 (f := .glo "_law_row") rfl)
theorem g_law_view (X : K.In h) (G : h.Ns mainGlobals mg) (c : He.SaysD fa fn K) : mg "_law_view" = some (.ref (He.fAd K ("_law_view", none))) := He.glo_ok X G (c.fact 13 (f := .glo "_law_view") rfl)
theorem g_law_count (X : K.In h) (G : h.Ns mainGlobals mg) (c : He.SaysD fa fn K) : mg "_law_count" = some (.ref (He.fAd K ("_law_count", none))) := He.glo_ok X G (c.fact 14 (f := .glo "_law_count") rfl)
theorem g_law (X : K.In h) (G : h.Ns mainGlobals mg) (c : He.SaysD fa fn K) : mg "law" = some (.ref (He.fAd K ("law", none))) := He.glo_ok X G (c.fact 15 (f := .glo "law") rfl)
theorem free_all (X : K.In h) (G : h.Ns mainGlobals mg) (c : He.SaysD fa fn K) : Free mg := ⟨He.free_ok X G (c.fact 16 (f := .free "len") rfl), He.free_ok X G (c.fact 17 (f := .free "range") rfl), He.free_ok X G (c.fact 18 (f := .free "enumerate") rfl), He.free_ok X G (c.fact 19 (f := .free "int") rfl), He.free_ok X G (c.fact 20 (f := .free "abs") rfl), He.free_ok X G (c.fact 21 (f := .free "list") rfl), He.free_ok X G (c.fact 22 (f := .free "tuple") rfl), He.free_ok X G (c.fact 23 (f := .free "all") rfl), He.free_ok X G (c.fact 24 (f := .free "isinstance") rfl), He.free_ok X G (c.fact 25 (f := .free "max") rfl), He.free_ok X G (c.fact 26 (f := .free "min") rfl), He.free_ok X G (c.fact 27 (f := .free "str") rfl), He.free_ok X G (c.fact 28 (f := .free "bool") rfl), He.free_ok X G (c.fact 29 (f := .free "repr") rfl), He.free_ok X G (c.fact 30 (f := .free "sorted") rfl), He.free_ok X G (c.fact 31 (f := .free "set") rfl), He.free_ok X G (c.fact 32 (f := .free "sum") rfl), He.free_ok X G (c.fact 33 (f := .free "any") rfl), He.free_ok X G (c.fact 34 (f := .free "dict") rfl)⟩
theorem x_0 (c : He.SaysD fa fn K) : (He.Fa.cls "Table").ok K = true := c.fact 35 (f := .cls "Table") rfl
theorem x_1 (c : He.SaysD fa fn K) : (He.Fa.noat "Table" "columns").ok K = true := c.fact 36 (f := .noat "Table" "columns") rfl
theorem x_2 (c : He.SaysD fa fn K) : (He.Fa.mkr "Table").ok K = true := c.fact 37 (f := .mkr "Table") rfl
theorem x_3 (c : He.SaysD fa fn K) : (He.Fa.cls "Kinds").ok K = true := c.fact 38 (f := .cls "Kinds") rfl
theorem x_4 (c : He.SaysD fa fn K) : (He.Fa.noat "Kinds" "numbers").ok K = true := c.fact 39 (f := .noat "Kinds" "numbers") rfl
theorem x_5 (c : He.SaysD fa fn K) : (He.Fa.noat "Kinds" "_rows").ok K = true := c.fact 40 (f := .noat "Kinds" "_rows") rfl
theorem x_6 (c : He.SaysD fa fn K) : (He.Fa.mkr "Kinds").ok K = true := c.fact 41 (f := .mkr "Kinds") rfl
theorem x_7 (c : He.SaysD fa fn K) : (He.Fa.meth "Kinds" "spots").ok K = true := c.fact 42 (f := .meth "Kinds" "spots") rfl
theorem x_8 (c : He.SaysD fa fn K) : (He.Fa.meth "Kinds" "alike").ok K = true := c.fact 43 (f := .meth "Kinds" "alike") rfl
theorem x_9 (c : He.SaysD fa fn K) : (He.Fa.int "WORD_LETTERS" 8).ok K = true := c.fact 44 (f := .int "WORD_LETTERS" 8) rfl
theorem x_10 (c : He.SaysD fa fn K) : (He.Fa.int "MOST_COLUMNS" 3).ok K = true := c.fact 45 (f := .int "MOST_COLUMNS" 3) rfl
theorem x_11 (c : He.SaysD fa fn K) : (He.Fa.glo "KEPT").ok K = true := c.fact 46 (f := .glo "KEPT") rfl
theorem x_12 (c : He.SaysD fa fn K) : (He.Fa.glo "Table").ok K = true := c.fact 47 (f := .glo "Table") rfl
theorem x_13 (c : He.SaysD fa fn K) : (He.Fa.glo "Kinds").ok K = true := c.fact 48 (f := .glo "Kinds") rfl
end

def exB (K : PySem.W.Frag) : Bool := He.tupB K "KEPT" (keptL.map He.Dv.str)
def tabM : List He.Tab := []
abbrev AlM : Type := He.AlD × Bool × List (Option (List (Option (Str × Int))))
def asM (g : Addr → Option Obj) : List Addr := cStatics :: He.asD g 5
def obsK (K : PySem.W.Frag) : AlM := (He.obsD fa fn K, exB K, tabM.map fun t => He.dicW K (t.1 K))
def obsMG (g : Addr → Option Obj) : AlM := obsK (He.frG g (asM g))
def valM (w : World) : AlM := (He.valD fn, true, tabM.map fun t => some (He.keysIn w.params t.2))
def SaysM (w : World) (K : PySem.W.Frag) : Prop := obsK K = valM w
theorem SaysM.d {w : World} {K : PySem.W.Frag} (c : SaysM w K) : He.SaysD fa fn K := congrArg (fun z : AlM => z.1) c
theorem SaysM.ex {w : World} {K : PySem.W.Frag} (c : SaysM w K) : exB K = true := congrArg (fun z : AlM => z.2.1) c
theorem SaysM.tab {w : World} {K : PySem.W.Frag} (c : SaysM w K) (i : Nat) {t : He.Tab} (h : tabM[i]? = some t := by rfl) : ∃ es n, KDict K w (t.1 K) es n := by
  have e : tabM.map (fun t => He.dicW K (t.1 K)) = tabM.map fun t => some (He.keysIn w.params t.2) := congrArg (fun z : AlM => z.2.2) c
  have e2 : (tabM.map fun t => He.dicW K (t.1 K))[i]? = (tabM.map fun t => some (He.keysIn w.params t.2))[i]? := by rw [e]
  rw [List.getElem?_map, List.getElem?_map, h] at e2
  exact He.dicW_ok (Option.some.inj e2)
def hkM : PySem.W.Hook where
  α := AlM
  obs := fun s => obsMG s.heap.get?
  val := fun w => valM w
  says := fun w h => ∃ K : PySem.W.Frag, K.In h ∧ SaysM w K
  of := fun _ _ e => ⟨_, He.frG_in, e⟩
  keeps := fun _ _ _ ⟨K, hK, c⟩ k => ⟨K, PySem.W.Frag.In.keeps hK k, c⟩
abbrev R : PySem.W.OpenRow := PySem.W.OpenLaw.row PySem.Challenge.rw_emptyfilters_k06_integers_beside_rows
def ob (s : PySem.W.SharedT) : AlM := obsMG (HandSHeadRun.getT s)
theorem ob_eq (s : PySem.W.SharedT) : ob s = hkM.obs s.abs := by
  have e : HandSHeadRun.getT s = s.abs.heap.get? := funext (HandSHeadRun.getT_eq s)
  unfold ob
  rw [e] <;> rfl
theorem run (w : World) : HandSHeadRun.RunEq R (PySem.W.view R.prog [30]) hkM ob 4000 ["_wall", "__name__", "place", "equals", "stretches", "free_spots", "spots_beside", "Kinds", "KEPT", "WORD_LETTERS", "is_integer", "is_word", "copied", "EmptyfiltersError", "BadTable", "MOST_COLUMNS", "first_bad", "Table", "_law_bag", "_law_take", "_law_of", "_law_long", "_law_numbers", "_law_row", "_law_view", "_law_count"] w := by
  intro os
  kernel_rfl
end K06

namespace K06
open PySem PySem.Spec PyProof.Rows L2 Own
theorem strs_dv {K : PySem.W.Frag} (l : List Str) : (l.map He.Dv.str).map (He.Dv.v K) = l.map V.str := by
  rw [List.map_map]
  rfl
theorem facts {P : Program} {w : World} {K : PySem.W.Frag} {h : Heap} {mg : Str → Option Value} {f : Addr} (X : K.In h) (G : h.Ns mainGlobals mg) (hfa : mg ("law" : Str) = some (.ref f)) (s : SaysM w K) :
    ∃ fd : FuncData, (∀ (s : Shared) (v : Value), BindsTo s fd ⟨[v], []⟩ [("script", v)]) ∧ ∀ base : Heap, K.In base → base.Ns mainGlobals mg → Asked P w K mg base f fd ["script"] (spLaw K) := by
  have c := s.d
  have hex := s.ex
  obtain ⟨fd_is_word, F_is_word'⟩ := F_is_word c
  obtain ⟨fd_first_bad, F_first_bad'⟩ := F_first_bad c
  obtain ⟨fd_Tableinit, F_Tableinit'⟩ := F_Tableinit c
  obtain ⟨fd_place, F_place'⟩ := F_place c
  obtain ⟨fd_equals, F_equals'⟩ := F_equals c
  obtain ⟨fd_stretches, F_stretches'⟩ := F_stretches c
  obtain ⟨fd_free_spots, F_free_spots'⟩ := F_free_spots c
  obtain ⟨fd_spots_beside, F_spots_beside'⟩ := F_spots_beside c
  obtain ⟨fd_Kinds_spots, F_Kinds_spots'⟩ := F_Kinds_spots c
  obtain ⟨fd_Kindsinit, F_Kindsinit'⟩ := F_Kindsinit c
  obtain ⟨fd_Kinds_alike, F_Kinds_alike'⟩ := F_Kinds_alike c
  obtain ⟨fd_law_bag, F_law_bag'⟩ := F_law_bag c
  obtain ⟨fd_law_take, F_law_take'⟩ := F_law_take c
  obtain ⟨fd_law_of, F_law_of'⟩ := F_law_of c
  obtain ⟨fd_law_long, F_law_long'⟩ := F_law_long c
  obtain ⟨fd_law_numbers, F_law_numbers'⟩ := F_law_numbers c
  obtain ⟨fd_law_row, F_law_row'⟩ := F_law_row c
  obtain ⟨fd_law_view, F_law_view'⟩ := F_law_view c
  obtain ⟨fd_law_count, F_law_count'⟩ := F_law_count c
  obtain ⟨fd, F⟩ := F_law c
  have e := hfa.symm.trans (g_law X G c)
  cases e
  have b := FunD.bindsA (ps := ["script"]) F fun _ _ _ _ _ _ us hl => match us, hl with | [_], _ => rfl
  have T0 := free_all X G c
  have T : Txt K mg (He.ga K "KEPT") := { T0 with
    g_KEPT := He.glo_ok X G (x_11 c)
    s_KEPT := fun H => by
      have q := He.tupB_ok hex H
      rw [strs_dv] at q
      exact q
    g_WORD_LETTERS := He.int_ok X G (x_9 c)
    g_MOST_COLUMNS := He.int_ok X G (x_10 c) }
  have TC : TxC K (He.ga K "Table") := ⟨He.cls_ok (x_0 c), He.noat_ok (x_1 c)⟩
  have TK : TxK K (He.ga K "Kinds") := ⟨He.cls_ok (x_3 c), He.noat_ok (x_4 c), He.noat_ok (x_5 c)⟩
  refine ⟨fd, fun s v => b s [v] rfl, fun base _ _ => ?_⟩
  have c_is_word : Cal P w K mg base CX0 1 "is_word" _ fd_is_word ["thing"] spIsWord := ⟨ok_is_word F_is_word' T, g_is_word X G c, F_is_word'.kp, b_is_word F_is_word'⟩
  have c_first_bad : Cal P w K mg base CX0 2 "first_bad" _ fd_first_bad ["names"] (spFirstBadA K) := ⟨ok_first_bad F_first_bad' T c_is_word, g_first_bad X G c, F_first_bad'.kp, b_first_bad F_first_bad'⟩
  have c_Table : CalI P w K mg base CX0 3 "Table" (He.ga K "Table") _ fd_Tableinit ["self", "columns"] (spTableA K (He.ga K "Table")) := ⟨ok_Tableinit F_Tableinit' T TC c_first_bad, He.mkr_ok (x_2 c), He.glo_ok X G (x_12 c), b_Tableinit F_Tableinit'⟩
  have c_place : Cal P w K mg base CX0 1 "place" _ fd_place ["numbers", "integer"] (spPlace K) := ⟨ok_place F_place' T0, g_place X G c, F_place'.kp, b_place F_place'⟩
  have c_equals : Cal P w K mg base CX0 1 "equals" _ fd_equals ["row", "integer"] (spEquals K) := ⟨ok_equals F_equals' T0, g_equals X G c, F_equals'.kp, b_equals F_equals'⟩
  have c_stretches : Cal P w K mg base CX0 1 "stretches" _ fd_stretches ["numbers", "room"] (spStretches K) := ⟨ok_stretches F_stretches' T0, g_stretches X G c, F_stretches'.kp, b_stretches F_stretches'⟩
  have c_free_spots : Cal P w K mg base CX0 2 "free_spots" _ fd_free_spots ["numbers", "row"] (spFree K) := ⟨ok_free F_free_spots' T0 c_stretches, g_free_spots X G c, F_free_spots'.kp, b_free_spots F_free_spots'⟩
  have c_spots_beside : Cal P w K mg base CX0 3 "spots_beside" _ fd_spots_beside ["numbers", "row"] (spBeside K) := ⟨ok_beside F_spots_beside' T0 c_free_spots, g_spots_beside X G c, F_spots_beside'.kp, b_spots_beside F_spots_beside'⟩
  have c_Kinds_spots : CalM P w K mg base CX0 4 (He.ga K "Kinds") "spots" _ fd_Kinds_spots ["self", "row"] (spSpots (He.ga K "Kinds")) := ⟨ok_Kindsspots F_Kinds_spots' T0 TK c_spots_beside, He.meth_ok (x_7 c), b_Kinds_spots F_Kinds_spots'⟩
  have c_Kinds : CalI P w K mg base CX0 5 "Kinds" (He.ga K "Kinds") _ fd_Kindsinit ["self", "table", "numbers"] (spKinds K (He.ga K "Table") (He.ga K "Kinds")) := ⟨ok_Kindsinit F_Kindsinit' T0 TC TK c_Kinds_spots, He.mkr_ok (x_6 c), He.glo_ok X G (x_13 c), b_Kindsinit F_Kindsinit'⟩
  have c_Kinds_alike : CalM P w K mg base CX0 2 (He.ga K "Kinds") "alike" _ fd_Kinds_alike ["self", "row", "one", "other"] (spAlike K (He.ga K "Kinds")) := ⟨ok_Kindsalike F_Kinds_alike' T0 TK c_place c_equals, He.meth_ok (x_8 c), b_Kinds_alike F_Kinds_alike'⟩
  have c_law_bag : Cal P w K mg base CX0 1 "_law_bag" _ fd_law_bag ["script", "at"] (spBag K) := ⟨ok_bag F_law_bag' T0, g_law_bag X G c, F_law_bag'.kp, b_law_bag F_law_bag'⟩
  have c_law_take : Cal P w K mg base CX0 1 "_law_take" _ fd_law_take ["bag", "many"] spTake := ⟨ok_take F_law_take' T0, g_law_take X G c, F_law_take'.kp, b_law_take F_law_take'⟩
  have c_law_of : Cal P w K mg base CX0 2 "_law_of" _ fd_law_of ["bag", "some"] (spOf K) := ⟨ok_of F_law_of' T0 c_law_take, g_law_of X G c, F_law_of'.kp, b_law_of F_law_of'⟩
  have c_law_long : Cal P w K mg base CX0 2 "_law_long" _ fd_law_long ["bag", "blocks"] spLongB := ⟨ok_long F_law_long' T0 c_law_take, g_law_long X G c, F_law_long'.kp, b_law_long F_law_long'⟩
  have c_law_numbers : Cal P w K mg base CX0 3 "_law_numbers" _ fd_law_numbers ["bag"] spNums := ⟨ok_numbers F_law_numbers' T0 c_law_take c_law_of c_law_long, g_law_numbers X G c, F_law_numbers'.kp, b_law_numbers F_law_numbers'⟩
  have c_law_row : Cal P w K mg base CX0 3 "_law_row" _ fd_law_row ["bag", "many", "numbers"] spRowN := ⟨ok_row F_law_row' T0 c_law_take c_law_of c_law_long, g_law_row X G c, F_law_row'.kp, b_law_row F_law_row'⟩
  have c_law_view : Cal P w K mg base CX0 1 "_law_view" _ fd_law_view ["value", "row", "numbers"] (spViewI K) := ⟨ok_view F_law_view' T0, g_law_view X G c, F_law_view'.kp, b_law_view F_law_view'⟩
  have c_law_count : Cal P w K mg base CX0 1 "_law_count" _ fd_law_count ["row", "numbers"] spCount := ⟨ok_count F_law_count' T0, g_law_count X G c, F_law_count'.kp, b_law_count F_law_count'⟩
  exact ok_law F T0 TC TK c_law_bag c_law_take c_law_of c_law_long c_law_numbers c_law_row c_law_view c_law_count c_Table c_Kinds c_Kinds_spots c_Kinds_alike
end K06
open PySem PySem.W PySem.Calls PyProof.Rows
set_option maxHeartbeats 0 in
theorem PySem.Challenge.cw_emptyfilters_k06_integers_beside_rows_holds : PySem.Challenge.rw_emptyfilters_k06_integers_beside_rows.Holds := by
  w_on; o_law
  refine HandSHeadRun.head_any (r := OpenLaw.row PySem.Challenge.rw_emptyfilters_k06_integers_beside_rows) (q := view (OpenLaw.row PySem.Challenge.rw_emptyfilters_k06_integers_beside_rows).prog [30]) (H := K06.hkM) (ob := K06.ob) (M := 4000) (loose := ["_wall", "__name__", "place", "equals", "stretches", "free_spots", "spots_beside", "Kinds", "KEPT", "WORD_LETTERS", "is_integer", "is_word", "copied", "EmptyfiltersError", "BadTable", "MOST_COLUMNS", "first_bad", "Table", "_law_bag", "_law_take", "_law_of", "_law_long", "_law_numbers", "_law_row", "_law_view", "_law_count"]) (d := HandSHeadRun.topDef (OpenLaw.row PySem.Challenge.rw_emptyfilters_k06_integers_beside_rows).prog 30) (kwd := []) K06.ob_eq
    (by kernel_rfl) (fun s => by kernel_rfl) K06.run (by kernel_rfl) (by kernel_rfl) (by kernel_rfl) (by rfl) (by first | assumption | decide +kernel) (by decide +kernel) ⟨rfl, rfl, rfl, rfl, rfl, by decide +kernel⟩ ?hw ?hc
  case hw => w_witness2
  case hc =>
    refine Own.asked_walk (l := PySem.Challenge.rw_emptyfilters_k06_integers_beside_rows) (n := 63) (x := "script") rfl (by decide) (by kernel_rfl) ?F
    intro w mg fa h Y G hmg0
    obtain ⟨K, KX, c⟩ := Y
    have hmg : mg ("law" : PySem.Str) = some (.ref fa) := by
      have e : (HandSHeadRun.topDef (OpenLaw.row PySem.Challenge.rw_emptyfilters_k06_integers_beside_rows).prog 30).name = ("law" : PySem.Str) := by kernel_rfl
      rw [← e]
      exact hmg0
    obtain ⟨fd, hb, hF⟩ := K06.facts (P := (PySem.Challenge.rw_emptyfilters_k06_integers_beside_rows).prog) (w := w) KX G hmg c
    exact ⟨K, fd, K06.spLaw K, KX, hb, fun H a ns hl hS => ⟨a, ns, rfl, hS, hl, fun _ => rfl⟩, hF⟩
