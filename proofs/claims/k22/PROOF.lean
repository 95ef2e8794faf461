import PyProof.Rows.All
import Wide.All
import OpenK.AllK
import Wide.FinOn
import HandS.ForMost
import HandS.IsInst
import HandS.TupAny
import HandS.TupMul
import HandS.Wide
import HandS.OwnEq
import HandS.Walk
import HandS.Defaults
import PyProof.InstNe
import KE.KFmtOwn
import HandS.Style
import HandS.FStr
import HandS.Small
import KE.GoesEnum
import PyProof.CollectStr
import PyProof.ListNew
import PyProof.ListRange
import HandS.ForExc
import HandS.ExcInit
import HandS.ExcField
import HandS.ExcIs
import HandS.ClsMeth
import KE.KExcIs
import HandS.Ends
import HandS.HeadEnd
import PyProof.ReprRoads
import PyProof.ReprLen
import PyProof.StrLawsRepr
import HandS.Deep
import PyProof.P3In
import HandS.Head0
import HandS.Head1
import HandS.Head2
import HandS.HeadHook1
import HandS.HeadHook2
import PySem.Challenge.RW_emptyfilters_k22_stores_made
set_option Elab.async false
set_option linter.all false
set_option maxRecDepth 100000
set_option maxHeartbeats 4000000
namespace Own
open PySem PySem.Spec PyProof.Rows L2
section
variable {X : Cx} {n : Nat}
theorem run_own {CX : CXT} {f : Addr} {fd : FuncData} {ps : List Str} {sp : Sp} {E : XK} (F : FnOk X.prog X.w X.K X.mg X.base CX n f fd ps sp)
    (hb : Binds X.K fd ps []) (hx : Passes CX X E) (hr : Room n X.A) {pins : List (Addr × Obj)} {s : Shared} {σ : L2.St} {H : Hp} {vs : List V} {us : List Value} {Q : V → Hp → Prop} (I : Inv X pins σ H s) (r : Vals vs us)
    (hsp : sp vs H Q E) : wpAny (model X.prog X.w) X.A (call (.ref f) us) (EP X pins σ Q) X.xe s :=
  run_fn (ds := []) (dvs := []) F hr hb .nil hx I r (by rw [List.append_nil]; exact hsp)
/-- x in o, by an own __contains__ at f -/
def rInOwn (C : Addr) (neg : Bool) (sp : Sp) (E : XK) : R2 := fun x y H Q => ∃ a dx fs, y = .ref a ∧ H a = some (.ins C dx fs) ∧ sp [.ref a, x] H (fun v H' => ∃ b, v = .bl b ∧ Q (.bl (if neg then !b else b)) H') E
theorem contains_own {CX : CXT} {C f : Addr} {fd : FuncData} {ps : List Str} {sp : Sp} {E : XK} (F : FnOk X.prog X.w X.K X.mg X.base CX n f fd ps sp)
    (hm : Meth X.K C "__contains__" f) (hb : Binds X.K fd ps []) (hx : Passes CX X E) (hr : Room n X.A) {pins : List (Addr × Obj)} {s : Shared} {σ : L2.St} {H : Hp} {x : V} {v : Value} {a dx : Addr} {fs : List (Str × V)} {Q : Bool → Hp → Prop} (I : Inv X pins σ H s) (rx : RelV x v)
    (ha : H a = some (.ins C dx fs)) (hsp : sp [.ref a, x] H (fun v H' => ∃ b, v = .bl b ∧ Q b H') E) :
    wpAny (model X.prog X.w) X.A (contains (.ref a) v) (fun b s' => ∃ H', Inv X pins σ H' s' ∧ Q b H') X.xe s := by
  obtain ⟨mA, J, _⟩ := ins_get I.hok ha
  obtain ⟨od, J, _⟩ := J.look
  have hK := I.kIn
  have hf := PySem.W.looks_findIn (M := model X.prog X.w) hK hm.at_
  unfold contains
  refine wpAny_holding ?_
  have hs0 : stdlibNamesSay? (.ref a) v = none := by rfl
  rw [hs0]
  show wpAny (model X.prog X.w) X.A (specialOf (.ref a) "__contains__" >>= _) _ _ _
  unfold specialOf
  refine wpAny_bind (wpAny_bind (J.type.here (hf.here ?_)))
  have e1 : ((some (Value.ref f)) == some Value.none) = false := by rfl
  dsimp only
  rw [e1]
  simp only [Bool.false_eq_true, if_false]
  unfold callSpecialUnlessNone? specialOf
  refine wpAny_bind (wpAny_bind (wpAny_bind (J.type.here (hf.here ?_))))
  refine wpAny_holding (wpAny_bind ((PySem.W.bind_fn hK _ (beq_iff_eq.mp hm.fn)).here ?_))
  dsimp only
  have e2 : (Value.ref f == Value.none) = false := by rfl
  rw [e2]
  simp only [Bool.false_eq_true, if_false]
  show wpAny (model X.prog X.w) X.A (call (.ref f) [.ref a, v] >>= _) _ _ _
  have r2 : Vals [V.ref a, x] [Value.ref a, v] := .cons rfl (.cons rx .nil)
  refine wpAny_bind (thn (run_own (n := n) F hb hx hr I r2 hsp) fun u s1 ⟨z, H1, I1, rz, b, ez, q⟩ => ?_)
  subst ez
  cases rz
  refine wpAny_pure ?_
  show wpAny (model X.prog X.w) X.A (truthy (.bool b)) _ _ _
  exact wpAny_pure ⟨H1, I1, q⟩
theorem op_in_own {CX : CXT} {C f : Addr} {fd : FuncData} {ps : List Str} {sp : Sp} {E : XK} (F : FnOk X.prog X.w X.K X.mg X.base CX n f fd ps sp)
    (hm : Meth X.K C "__contains__" f) (hb : Binds X.K fd ps []) (hx : Passes CX X E) (hr : Room n X.A) : OpR X (compareOp .In) (rInOwn C false sp E) := by
  intro pins s σ H x y v u Q I rx ry hq
  obtain ⟨a, dx, fs, rfl, ha, h⟩ := hq
  cases ry
  refine wpAny_bind (thn (contains_own F hm hb hx hr I rx ha (Q := fun b H' => Q (.bl b) H') h) fun b s1 ⟨H1, I1, q⟩ => ?_)
  exact wpAny_pure ⟨.bl b, H1, I1, rfl, q⟩
theorem op_notIn_own {CX : CXT} {C f : Addr} {fd : FuncData} {ps : List Str} {sp : Sp} {E : XK} (F : FnOk X.prog X.w X.K X.mg X.base CX n f fd ps sp)
    (hm : Meth X.K C "__contains__" f) (hb : Binds X.K fd ps []) (hx : Passes CX X E) (hr : Room n X.A) : OpR X (compareOp .NotIn) (rInOwn C true sp E) := by
  intro pins s σ H x y v u Q I rx ry hq
  obtain ⟨a, dx, fs, rfl, ha, h⟩ := hq
  cases ry
  refine wpAny_bind (thn (contains_own F hm hb hx hr I rx ha (Q := fun b H' => Q (.bl (!b)) H') h) fun b s1 ⟨H1, I1, q⟩ => ?_)
  exact wpAny_pure ⟨.bl (!b), H1, I1, rfl, q⟩
end
/-! ### callees by name -/
structure Cal (P : Program) (w : World) (K : PySem.W.Frag) (mg : Str → Option Value) (base : Heap) (CX : CXT) (k : Nat) (x : Str) (f : Addr) (fd : FuncData) (ps : List Str) (sp : Sp) : Prop where
  ok : FnOk P w K mg base CX k f fd ps sp
  at_ : mg x = some (.ref f)
  kp : PySem.W.keepIn K (.ref f) = true
  b : Binds K fd ps []
theorem pe_cal {X : Cx} {k : Nat} {x : Str} {f : Addr} {fd : FuncData} {ps : List Str} {sp : Sp} {e : Expr} {es : List Expr} {t : TA} {p pos : Pos} (c : Cal X.prog X.w X.K X.mg X.base CX0 k x f fd ps sp) (hr : Room k X.A) (ha : PA X (e :: es) t)
    (hg : Gl X x := by rfl) (hdb : (x == ("__debug__" : Str)) = false := by decide) (he : starEach (e :: es) X.env = (false, eval e X.env) :: starEach es X.env := by rfl) (hpl : (backTo pos (starEach es X.env)).any (·.1) = false := by rfl) :
    PE X (.Call (.Name x p) (e :: es) [] pos) (tCall sp [] E0 t) := pe_call c.ok hr hg c.at_ c.kp c.b .nil pass0 ha hdb he hpl
theorem pe_gint {X : Cx} {x : Str} {i : Int} {pos : Pos} (hg : Gl X x) (hm : ∃ t, X.mg x = some (.int i t)) (hd : (x == ("__debug__" : Str)) = false := by decide) : PE X (.Name x pos) (tC (.int i)) := by
  obtain ⟨t, h⟩ := hm
  exact pe_glob hg h ⟨t, rfl⟩ hd
theorem hu_of' {k : Nat} {A : Around} (hr : Room k A) : A.units + 64 < cLine := hr.units
/-! ### builtins that the top leaves -/
structure Free (mg : Str → Option Value) : Prop where
  len : mg "len" = none
  range : mg "range" = none
  enumerate : mg "enumerate" = none
  int : mg "int" = none
  abs : mg "abs" = none
  list : mg "list" = none
  tuple : mg "tuple" = none
  all : mg "all" = none
  isinstance : mg "isinstance" = none
  max : mg "max" = none
  min : mg "min" = none
  str : mg "str" = none
  bool : mg "bool" = none
  repr : mg "repr" = none
  sorted : mg "sorted" = none
  set : mg "set" = none
  sum : mg "sum" = none
  any : mg "any" = none
  dict : mg "dict" = none
/-! ### the bag: a list of two ints, and what a draw from it leaves -/
def Bag (H : Hp) (b : Addr) : Prop := ∃ x y : Int, H b = some (.lst [.int x, .int y]) ∧ 0 ≤ x ∧ 0 ≤ y
def But (b : Addr) (H H' : Hp) : Prop := ∀ a o, a ≠ b → H a = some o → H' a = some o
theorem But.refl {b : Addr} {H : Hp} : But b H H := fun _ _ _ h => h
theorem But.trans {b : Addr} {H H1 H2 : Hp} (x : But b H H1) (y : But b H1 H2) : But b H H2 := fun a o n h => y a o n (x a o n h)
theorem But.same {b : Addr} {H H1 : Hp} (x : Same H H1) : But b H H1 := fun a o _ h => x a o h
theorem But.new {b p : Addr} {H H1 : Hp} {o : HO} (x : But b H H1) (hp : H1 p = none) : But b H (upd H1 p o) := fun a u n h => by
  have q := x a u n h
  rw [upd_ne (ne_of_none q hp)]
  exact q
theorem But.put {b : Addr} {H H1 : Hp} {o : HO} (x : But b H H1) : But b H (upd H1 b o) := fun a u n h => by
  rw [upd_ne n]
  exact x a u n h
theorem But.putb {b p : Addr} {H H1 : Hp} {o : HO} (x : But b H H1) (hp : H p = none) : But b H (upd H1 p o) := fun a u n h => by
  rw [upd_ne (ne_of_none h hp)]
  exact x a u n h
theorem But.list {K : PySem.W.Frag} {b a : Addr} {H H1 : Hp} {xs : List V} (x : But b H H1) (n : a ≠ b) (h : SqL K H a xs) : SqL K H1 a xs := by
  rcases h with (h | ⟨o, h⟩) | h
  · exact .inl (.inl (x _ _ n h))
  · exact .inl (.inr ⟨o, x _ _ n h⟩)
  · exact .inr h
theorem But.tup {K : PySem.W.Frag} {b a : Addr} {H H1 : Hp} {xs : List V} (x : But b H H1) (n : a ≠ b) (h : SqT K H a xs) : SqT K H1 a xs := by
  rcases h with (h | ⟨o, h⟩) | h
  · exact .inl (.inl (x _ _ n h))
  · exact .inl (.inr ⟨o, x _ _ n h⟩)
  · exact .inr h
theorem Bag.new {b p : Addr} {H : Hp} {o : HO} (x : Bag H b) (hp : H p = none) : Bag (upd H p o) b := by
  obtain ⟨x, y, h, h0, h1⟩ := x
  exact ⟨x, y, by rw [upd_ne (ne_of_none h hp)]; exact h, h0, h1⟩
theorem Bag.ne {b p : Addr} {H : Hp} (x : Bag H b) (hp : H p = none) : b ≠ p := by
  obtain ⟨x, y, h, _, _⟩ := x
  exact ne_of_none h hp
def spTake : Sp := fun vs H Q _ => ∃ (b : Addr) (m : Int), vs = [.ref b, .int m] ∧ Bag H b ∧ 0 < m ∧ m < 1073741824 ∧ ∀ (d : Int) (H' : Hp), 0 ≤ d → d < m → But b H H' → Bag H' b → Q (.int d) H'
/-- some[draw]: one of the items of a list -/
def spOf (K : PySem.W.Frag) : Sp := fun vs H Q _ => ∃ (b l : Addr) (xs : List V), vs = [.ref b, .ref l] ∧ Bag H b ∧ l ≠ b ∧ SqL K H l xs ∧ xs ≠ [] ∧ xs.length < 1000000 ∧ ∀ (v : V) (H' : Hp), v ∈ xs → But b H H' → Bag H' b → Q v H'
def spBag (K : PySem.W.Frag) : Sp := fun vs H Q _ => ∃ (a : Addr) (ns : List Int) (n : Nat), vs = [.ref a, .int n] ∧ SqL K H a (ns.map V.int) ∧ ns.length ≤ 63 ∧ n ≤ 63 ∧ ∀ (b : Addr) (H' : Hp), Same H H' → H b = none → Bag H' b → Q (.ref b) H'
theorem mem_cut {xs : List V} {lo hi : Option Int} {x : V} (h : x ∈ cutV xs lo hi) : x ∈ xs := by
  unfold cutV at h
  exact List.mem_of_mem_drop (List.mem_of_mem_take h)
theorem int_of_mem {ns : List Int} {x : V} (h : x ∈ ns.map V.int) : ∃ u, x = V.int u := by
  obtain ⟨u, _, e⟩ := List.mem_map.mp h
  exact ⟨u, e.symm⟩
theorem same_new {p : Addr} {H H1 : Hp} {o : HO} (x : Same H H1) (hp : H1 p = none) : Same H (upd H1 p o) := fun a u h => by
  have q := x a u h
  rw [upd_ne (ne_of_none q hp)]
  exact q
theorem same_newH {p : Addr} {H : Hp} {o : HO} (hp : H p = none) : Same H (upd H p o) := same_new (Same.refl H) hp
theorem len_ints {ns : List Int} : (ns.map V.int).length = ns.length := List.length_map ..
/-- two ways to one value: what is to be shown behind is shown once -/
theorem pick {α : Type} {P : α → Prop} {G : Prop} (main : (∀ c, P c) → G) (rest : ∀ c, P c) : G := main rest
theorem pickP {α : Type} (R : α → Prop) {P : α → Prop} {G : Prop} (main : (∀ c, R c → P c) → G) (rest : ∀ c, R c → P c) : G := main rest
theorem abs_nn (i : Int) : 0 ≤ (if i < 0 then -i else i) := by
  split <;> omega
/-! ### kinds of values -/
inductive Kd where
  | non | bl | int | str | lst | tup
  deriving DecidableEq
def Kd.nm : Kd → String
  | .non => "NoneType"
  | .bl => "bool"
  | .int => "int"
  | .str => "str"
  | .lst => "list"
  | .tup => "tuple"
def kdO : Option HO → Option Kd
  | some (.lst _) => some .lst
  | some (.tup _) => some .tup
  | _ => none
def kd (H : Hp) : V → Option Kd
  | .non => some .non
  | .bl _ => some .bl
  | .int _ => some .int
  | .str _ => some .str
  | .ref a => kdO (H a)
  | _ => none
theorem kdO_lst {o : Option HO} (h : kdO o = some .lst) : ∃ xs, o = some (.lst xs) := by
  unfold kdO at h
  split at h
  · exact ⟨_, rfl⟩
  · cases h
  · cases h
theorem kdO_tup {o : Option HO} (h : kdO o = some .tup) : ∃ xs, o = some (.tup xs) := by
  unfold kdO at h
  split at h
  · cases h
  · exact ⟨_, rfl⟩
  · cases h
theorem kdO_or {o : Option HO} {t : Kd} (h : kdO o = some t) : t = .lst ∨ t = .tup := by
  unfold kdO at h
  split at h
  · cases h; exact .inl rfl
  · cases h; exact .inr rfl
  · cases h
theorem kd_ok {K : PySem.W.Frag} {H : Hp} {v : V} {t : Kd} (h : kd H v = some t) : TyX K H v (.type t.nm) := by
  cases v with
  | non => cases h; exact .base .non
  | bl b => cases h; exact .base (.bl b)
  | int i => cases h; exact .base (.int i)
  | str z => cases h; exact .base (.str z)
  | ref a =>
    have h1 : kdO (H a) = some t := h
    rcases kdO_or h1 with e | e <;> subst e
    · obtain ⟨xs, e⟩ := kdO_lst h1
      exact .base (.lst e)
    · obtain ⟨xs, e⟩ := kdO_tup h1
      exact .base (.tup e)
  | _ => cases h
theorem kd_lst {H : Hp} {a : Addr} {xs : List V} (h : H a = some (.lst xs)) : kd H (.ref a) = some .lst := by
  show kdO (H a) = _
  rw [h] <;> rfl
theorem kd_tup {H : Hp} {a : Addr} {xs : List V} (h : H a = some (.tup xs)) : kd H (.ref a) = some .tup := by
  show kdO (H a) = _
  rw [h] <;> rfl
theorem kd_but {H H' : Hp} {b : Addr} {v : V} {t : Kd} (h : kd H v = some t) (x : But b H H') (n : v ≠ .ref b) : kd H' v = some t := by
  cases v with
  | ref a =>
    have na : a ≠ b := fun e => n (by rw [e])
    have h1 : kdO (H a) = some t := h
    rcases kdO_or h1 with e | e <;> subst e
    · obtain ⟨xs, e⟩ := kdO_lst h1
      exact kd_lst (x _ _ na e)
    · obtain ⟨xs, e⟩ := kdO_tup h1
      exact kd_tup (x _ _ na e)
  | _ => exact h
theorem kd_same {H H' : Hp} {v : V} {t : Kd} (h : kd H v = some t) (x : Same H H') : kd H' v = some t := by
  cases v with
  | ref a =>
    have h1 : kdO (H a) = some t := h
    rcases kdO_or h1 with e | e <;> subst e
    · obtain ⟨xs, e⟩ := kdO_lst h1
      exact kd_lst (x _ _ e)
    · obtain ⟨xs, e⟩ := kdO_tup h1
      exact kd_tup (x _ _ e)
  | _ => exact h
def isIntV : V → Bool
  | .int _ => true
  | _ => false
theorem kit_int {K : PySem.W.Frag} (t : Kd) : PySem.W.kitOne K (.type t.nm) (.type "int") = some (decide (t = .int) || decide (t = .bl)) := by
  cases t <;> exact kit_ty (by decide +kernel)
theorem kit_bool {K : PySem.W.Frag} (t : Kd) : PySem.W.kitOne K (.type t.nm) (.type "bool") = some (decide (t = .bl)) := by
  cases t <;> exact kit_ty (by decide +kernel)
theorem kit_str {K : PySem.W.Frag} (t : Kd) : PySem.W.kitOne K (.type t.nm) (.type "str") = some (decide (t = .str)) := by
  cases t <;> exact kit_ty (by decide +kernel)
theorem kit_tuple {K : PySem.W.Frag} (t : Kd) : PySem.W.kitOne K (.type t.nm) (.type "tuple") = some (decide (t = .tup)) := by
  cases t <;> exact kit_ty (by decide +kernel)
theorem kit_list {K : PySem.W.Frag} (t : Kd) : PySem.W.kitOne K (.type t.nm) (.type "list") = some (decide (t = .lst)) := by
  cases t <;> exact kit_ty (by decide +kernel)
theorem kit_dict {K : PySem.W.Frag} (t : Kd) : PySem.W.kitOne K (.type t.nm) (.type "dict") = some false := by
  cases t <;> exact kit_ty (by decide +kernel)
theorem kd_isInt {H : Hp} {v : V} {t : Kd} (h : kd H v = some t) : isIntV v = decide (t = .int) := by
  cases v with
  | ref a => rcases kdO_or (show kdO (H a) = some t from h) with e | e <;> subst e <;> rfl
  | _ => cases h <;> rfl
theorem kd_str {H : Hp} {v : V} (h : kd H v = some .str) : ∃ z, v = .str z := by
  cases v with
  | str z => exact ⟨z, rfl⟩
  | ref a => rcases kdO_or (show kdO (H a) = some .str from h) with e | e <;> cases e
  | _ => cases h
theorem kd_tuple {H : Hp} {v : V} (h : kd H v = some .tup) : ∃ a xs, v = .ref a ∧ H a = some (.tup xs) := by
  cases v with
  | ref a =>
    obtain ⟨xs, e⟩ := kdO_tup (show kdO (H a) = some .tup from h)
    exact ⟨a, xs, rfl, e⟩
  | _ => cases h
theorem int_not_bool {H : Hp} {v : V} {t : Kd} (h : kd H v = some t) : ((decide (t = .int) || decide (t = .bl)) && !decide (t = .bl)) = isIntV v := by
  rw [kd_isInt h]
  cases t <;> rfl
/-- is_integer -/
def spIsInt : Sp := fun vs H Q _ => ∃ (v : V) (t : Kd), vs = [v] ∧ kd H v = some t ∧ Q (.bl (isIntV v)) H
theorem take_snoc {α : Type} {xs : List α} {i : Nat} {x : α} (h : xs[i]? = some x) : xs.take (i + 1) = xs.take i ++ [x] := by
  rw [List.take_succ, h] <;> rfl
theorem map_take_snoc {α β : Type} {xs : List α} {i : Nat} {x : α} (f : α → β) (h : xs[i]? = some x) : (xs.take (i + 1)).map f = (xs.take i).map f ++ [f x] := by
  rw [take_snoc h, List.map_append] <;> rfl
/-- a value whose kind is known, a tuple's items too -/
def Known (H : Hp) (v : V) : Prop := (∃ t, kd H v = some t) ∧ ∀ a xs, v = .ref a → H a = some (.tup xs) → xs.length ≤ 1000 ∧ ∀ x ∈ xs, ∃ t, kd H x = some t
def rowO : Option HO → Int → Bool
  | some (.tup xs), m => decide ((xs.length : Int) = m) && xs.all isIntV
  | _, _ => false
/-- a tuple of m integers -/
def rowB (H : Hp) (v : V) (m : Int) : Bool := match v with
  | .ref a => rowO (H a) m
  | _ => false
theorem rowB_tup {H : Hp} {a : Addr} {xs : List V} {m : Int} (h : H a = some (.tup xs)) : rowB H (.ref a) m = (decide ((xs.length : Int) = m) && xs.all isIntV) := by
  show rowO (H a) m = _
  rw [h] <;> rfl
theorem rowB_not {H : Hp} {v : V} {t : Kd} {m : Int} (h : kd H v = some t) (n : t ≠ .tup) : rowB H v m = false := by
  cases v with
  | ref a =>
    rcases kdO_or (show kdO (H a) = some t from h) with e | e <;> subst e
    · obtain ⟨xs, e⟩ := kdO_lst (show kdO (H a) = some .lst from h)
      show rowO (H a) m = false
      rw [e] <;> rfl
    · exact absurd rfl n
  | _ => rfl
def spIsRow : Sp := fun vs H Q _ => ∃ (v : V) (m : Int), vs = [v, .int m] ∧ Known H v ∧ ∀ H', Same H H' → Q (.bl (rowB H v m)) H'
theorem all_id_map {α : Type} (xs : List α) (f : α → Bool) : (xs.map f).all id = xs.all f := by
  rw [List.all_map] <;> rfl
def spNumber : Sp := fun vs H Q _ => ∃ (b : Addr), vs = [.ref b] ∧ Bag H b ∧ ∀ (n : Int) (H' : Hp), But b H H' → Bag H' b → Q (.int n) H'
/-! ### words -/
def keptL : List Str := ["def", "if", "else", "for", "in", "break", "skip", "refuse", "take", "guard", "blank", "every", "none", "any", "all", "pick", "given", "or", "and", "not", "true", "false", "self"]
def lowB (c : Nat) : Bool := decide (97 ≤ c) && decide (c ≤ 122)
def wordB (z : Str) : Bool := !(inV (.str z) (keptL.map V.str)) && ((decide ((1 : Int) ≤ (z.length : Nat)) && decide (((z.length : Nat) : Int) ≤ 8)) && z.cps.toList.all lowB)
def wordV : V → Bool
  | .str z => wordB z
  | _ => false
theorem wordV_not {H : Hp} {v : V} {t : Kd} (h : kd H v = some t) (n : t ≠ .str) : wordV v = false := by
  cases v with
  | str z => cases h; exact absurd rfl n
  | _ => rfl
theorem le_sign (c d : Nat) : (!decide (([c] : List Nat) < [d])) = decide (d ≤ c) := by
  have h : (([c] : List Nat) < [d]) ↔ c < d := by
    rw [List.cons_lt_cons_iff]
    constructor
    · rintro (h | ⟨_, h⟩)
      · exact h
      · exact absurd h (by decide)
    · exact fun h => .inl h
  by_cases q : d ≤ c
  · rw [decide_eq_true q, decide_eq_false (fun z => absurd (h.mp z) (by omega))] <;> rfl
  · rw [decide_eq_false q, decide_eq_true (h.mpr (by omega))] <;> rfl
theorem flat_strs (l : List Str) : (l.map V.str).all flatV = true := by
  rw [List.all_map]
  exact List.all_eq_true.mpr fun _ _ => rfl
/-- is_word -/
def spIsWord : Sp := fun vs H Q _ => ∃ (v : V) (t : Kd), vs = [v] ∧ kd H v = some t ∧ (∀ z, v = .str z → z.length ≤ 1000) ∧ ∀ H', Same H H' → Q (.bl (wordV v)) H'
/-! ### the first wrong entry -/
def badFrom (pre : List V) : List V → Option Nat
  | [] => none
  | x :: r => if (!(wordV x) || inV x pre) = true then some pre.length else badFrom (pre ++ [x]) r
def dueV (xs : List V) : V :=
  if (decide ((1 : Int) ≤ (xs.length : Nat)) && decide (((xs.length : Nat) : Int) ≤ 3)) = true then (match badFrom [] xs with
    | some i => .int (i : Nat)
    | none => .non)
  else .int (-1)
theorem cut_take (xs : List V) (i : Nat) : cutV xs none (some (i : Int)) = xs.take i := by
  unfold cutV
  rw [HT.sIx_none, HT.sIx_nat, List.drop_zero, Nat.sub_zero, ← List.take_eq_take_min] 
theorem word_str {x : V} (h : wordV x = true) : ∃ z, x = .str z ∧ wordB z = true := by
  cases x with
  | str z => exact ⟨z, rfl, h⟩
  | _ => cases h
theorem word_flat {x : V} (h : wordV x = true) : flatV x = true := by
  obtain ⟨z, rfl, _⟩ := word_str h
  rfl
/-- items that a word's test may meet -/
def Ent (H : Hp) (x : V) : Prop := ∃ t, kd H x = some t ∧ ∀ z, x = .str z → z.length ≤ 1000
theorem Ent.same {H H' : Hp} {x : V} (e : Ent H x) (s : Same H H') : Ent H' x := by
  obtain ⟨t, h, l⟩ := e
  exact ⟨t, kd_same h s, l⟩
def spFirstBad (K : PySem.W.Frag) : Sp := fun vs H Q _ => ∃ (a : Addr) (xs : List V), vs = [.ref a] ∧ SqL K H a xs ∧ xs.length ≤ 1000 ∧ (∀ x ∈ xs, Ent H x) ∧ ∀ H', Same H H' → Q (dueV xs) H'
/-! ### tables -/
/-- a table at p with the columns xs -/
def TabAt (H : Hp) (C p : Addr) (xs : List V) : Prop := ∃ dx t, H p = some (.ins C dx [("columns", .ref t)]) ∧ H t = some (.tup xs)
theorem TabAt.same {H H' : Hp} {C p : Addr} {xs : List V} (h : TabAt H C p xs) (e : Same H H') : TabAt H' C p xs := by
  obtain ⟨dx, t, h1, h2⟩ := h
  exact ⟨dx, t, e _ _ h1, e _ _ h2⟩
theorem TabAt.but {H H' : Hp} {C p b : Addr} {xs : List V} (h : TabAt H C p xs) (e : But b H H') (hb : Bag H b) : TabAt H' C p xs := by
  obtain ⟨dx, t, h1, h2⟩ := h
  obtain ⟨x, y, h3, _⟩ := hb
  exact ⟨dx, t, e _ _ (ne_of h1 h3 (by intro q; cases q)) h1, e _ _ (ne_of h2 h3 (by intro q; cases q)) h2⟩
/-- Table(list), a right one -/
def spTable (K : PySem.W.Frag) (C : Addr) : Sp := fun vs H Q _ => ∃ (p a dx : Addr) (xs : List V), vs = [.ref p, .ref a] ∧ H p = some (.ins C dx []) ∧ SqL K H a xs ∧ xs.length ≤ 1000 ∧ (∀ x ∈ xs, Ent H x) ∧ dueV xs = .non ∧
  ∀ H', But p H H' → TabAt H' C p xs → Q .non H'
/-- thing in table -/
def spContains (C : Addr) : Sp := fun vs H Q _ => ∃ (p : Addr) (v : V) (xs : List V), vs = [.ref p, v] ∧ TabAt H C p xs ∧ xs.length ≤ 1000 ∧ Known H v ∧ ∀ H', Same H H' → Q (.bl (rowB H v (xs.length : Nat))) H'
/-! ### data: flat lists -/
theorem canAll_of : ∀ {ds : List PyData}, (∀ d ∈ ds, d.canLay0 = true ∧ d.depth = 0) → PyData.canLayAll0 ds = true ∧ PyData.depthAll ds = 0
  | [], _ => ⟨by simp only [PyData.canLayAll0], by simp only [PyData.depthAll]⟩
  | d :: r, h => by
    obtain ⟨h1, h2⟩ := h d (List.mem_cons_self ..)
    obtain ⟨h3, h4⟩ := canAll_of (ds := r) fun x hx => h x (List.mem_cons_of_mem _ hx)
    exact ⟨by simp only [PyData.canLayAll0, h1, h3, Bool.and_self], by simp only [PyData.depthAll, h2, h4, Nat.max_self]⟩
theorem shaped_lst {ds : List PyData} (h : ∀ d ∈ ds, d.canLay0 = true ∧ d.depth = 0) : SeqAt.shaped (.list ds) = true := by
  obtain ⟨h1, h2⟩ := canAll_of h
  unfold SeqAt.shaped
  simp only [PyData.canLay0, PyData.depth, h1, h2, Bool.true_and]
  decide
theorem shaped_tup {ds : List PyData} (h : ∀ d ∈ ds, d.canLay0 = true ∧ d.depth = 0) : SeqAt.shaped (.tuple ds) = true := by
  obtain ⟨h1, h2⟩ := canAll_of h
  unfold SeqAt.shaped
  simp only [PyData.canLay0, PyData.depth, h1, h2, Bool.true_and]
  decide
theorem int_flatD (n : Int) : (PyData.int n).canLay0 = true ∧ (PyData.int n).depth = 0 := ⟨by simp only [PyData.canLay0], by simp only [PyData.depth]⟩
theorem shaped_ints (ns : List Int) : SeqAt.shaped (.list (ns.map PyData.int)) = true := shaped_lst fun d hd => by
  obtain ⟨n, _, rfl⟩ := List.mem_map.mp hd
  exact int_flatD n
theorem shaped_nil : SeqAt.shaped (.list []) = true := shaped_lst fun _ h => by cases h
theorem dp_ints {K : PySem.W.Frag} {H : Hp} : ∀ (ns : List Int), DpAll K H (ns.map V.int) (ns.map PyData.int)
  | [] => .nil
  | n :: r => .cons (.int n) (dp_ints r)
theorem eqv_ints_nil (ns : List Int) : PyData.eqv (.list (ns.map PyData.int)) (.list []) = decide (ns = []) := by
  cases ns with
  | nil => simp [PyData.eqv, PyData.eqvAll]
  | cons n r => simp [PyData.eqv, PyData.eqvAll]
theorem pick2 {P : Option V → Hp → Prop} (R : Option V → Hp → Prop) {G : Prop} (main : (∀ o H, R o H → P o H) → G) (rest : ∀ o H, R o H → P o H) : G := main rest
def spValue : Sp := fun vs H Q _ => ∃ (b : Addr) (m : Int), vs = [.ref b, .int m] ∧ Bag H b ∧ 0 ≤ m ∧ m ≤ 3 ∧ ∀ (v : V) (H' : Hp), Known H' v → But b H H' → Bag H' b → Q v H'
theorem known_flat {H : Hp} {v : V} (h : flatV v = true) : Known H v := by
  cases v with
  | non => exact ⟨⟨_, rfl⟩, fun a xs e => by cases e⟩
  | bl b => exact ⟨⟨_, rfl⟩, fun a xs e => by cases e⟩
  | int b => exact ⟨⟨_, rfl⟩, fun a xs e => by cases e⟩
  | str b => exact ⟨⟨_, rfl⟩, fun a xs e => by cases e⟩
  | _ => cases h
theorem known_lst {H : Hp} {a : Addr} {xs : List V} (h : H a = some (.lst xs)) : Known H (.ref a) :=
  ⟨⟨_, kd_lst h⟩, fun b ys e h2 => by
    cases e
    rw [h] at h2
    cases h2⟩
theorem known_tup {H : Hp} {a : Addr} {xs : List V} (h : H a = some (.tup xs)) (hl : xs.length ≤ 1000) (hx : ∀ x ∈ xs, ∃ t, kd H x = some t) : Known H (.ref a) :=
  ⟨⟨_, kd_tup h⟩, fun b ys e h2 => by
    cases e
    rw [h] at h2
    cases h2
    exact ⟨hl, hx⟩⟩
theorem pss_cut {X : Cx} {sts : List Stmt} {t t' : TS} (h : PSs X sts t) (w : ∀ D σ H, t' D σ H → t D σ H) : PSs X sts t' := ⟨fun pins s σ H D I q => h.run pins s σ H D I (w D σ H q)⟩
theorem But.at {b : Addr} {H H' : Hp} (x : But b H H') {a : Addr} {o : HO} (hb : Bag H b) (h : H a = some o) (n : ∀ x y, o ≠ .lst [.int x, .int y]) : H' a = some o := by
  obtain ⟨x1, y1, h3, _⟩ := hb
  exact x a o (ne_of h h3 (n x1 y1)) h
theorem But.free {b p : Addr} {H H1 : Hp} (x : But b H H1) (n : p ≠ b) (h : H1 p = none) : H p = none := by
  cases e : H p with
  | none => rfl
  | some o =>
    rw [x p o n e] at h
    cases h
theorem Bag.put {b p : Addr} {H : Hp} {o : HO} (x : Bag H b) (n : b ≠ p) : Bag (upd H p o) b := by
  obtain ⟨x1, y1, h, h0, h1⟩ := x
  exact ⟨x1, y1, by rw [upd_ne n]; exact h, h0, h1⟩
theorem kd_put {H : Hp} {v : V} {t : Kd} {p : Addr} {o : HO} (h : kd H v = some t) (n : v ≠ .ref p) : kd (upd H p o) v = some t :=
  kd_but (b := p) h (But.put But.refl) n
theorem kd_new {H : Hp} {v : V} {t : Kd} {p : Addr} {o : HO} (h : kd H v = some t) (hp : H p = none) : kd (upd H p o) v = some t := kd_same h (same_newH hp)
theorem kd_ne {H : Hp} {v : V} {t : Kd} {p : Addr} (h : kd H v = some t) (hp : H p = none) : v ≠ .ref p := by
  intro e
  subst e
  have h1 : kdO (H p) = some t := h
  rw [hp] at h1
  cases h1
theorem ixN_of {n : Nat} {d : Int} (h0 : 0 ≤ d) (h1 : d < (n : Int)) : ixN n d = some d.toNat := by
  unfold ixN
  rw [if_pos h0, if_pos h1]
/-! ### t * 1 is t itself -/
theorem tuple_mul1 (l : Addr) (items : Array Value) (n : Nat) (dd : Option Addr) (sl : Array (Option Value)) (u : Tok) :
    Meets (Builtin.«tuple.__mul__» ⟨[.ref l, .int 1 u], []⟩) (fun _ R s => s.heap.get? l = some { cls := .type "tuple", dict := dd, data := .seq items n, slots := sl } ∧
      R (.ok (.ret (Value.ref l))) s) :=
  .of_wp fun prog w A R s h => by
    obtain ⟨hp, g, d, tk, os⟩ := s
    obtain ⟨hl, h⟩ := h
    have f1 := AutoSeq1.idx_int
    wp_walk using wpAny_loadPart' hl
    exact ⟨_, rfl, h⟩
def rRep1 (K : PySem.W.Frag) : R2 := fun x y H Q => ∃ l xs, x = .ref l ∧ y = .int 1 ∧ SqT K H l xs ∧ Q (.ref l) H
theorem op_rep1 {X : Cx} : OpR X (binaryOp .Mult) (rRep1 X.K) := by
  intro pins s σ H x y v u Q I rx ry h
  obtain ⟨l, xs, rfl, rfl, hT, q⟩ := h
  cases rx
  obtain ⟨t, rfl⟩ := ry
  obtain ⟨its, r, ⟨⟨cls, dd, data, sl⟩, ho, hc, n, hd⟩, hs⟩ := I.tuple hT
  simp only at hc hd
  subst hc hd
  refine wpAny_binaryOp_repeat_ref (T := "tuple") (U := "int") (by decide) ⟨_, ho, rfl⟩ (fun s' => typeIs_int s' 1 t) noFill_tuple_mul F.fills_int_mul F.slot_int_rmul repeat_tuple F.slot_int_index.lookup
    (call_meets F.slot_int_rmul (typeIs_int s 1 t) F.entry_int_rmul (F.args_int_rmul_2 _ _) (int_rmul_tuple 1 t l its.toArray n dd sl)
      ⟨ho, rfl, ⟨_, ho, rfl⟩, call_meets F.slot_tuple_mul ⟨_, ho, rfl⟩ F.entry_tuple_mul (F.args_tuple_mul_2 _ _) (tuple_mul1 l its.toArray n dd sl t) ⟨ho, ?_⟩⟩)
  exact ⟨.ref l, H, I, rfl, q⟩
theorem op_rep {X : Cx} : OpR X (binaryOp .Mult) (fun x y H Q => rRepT X.K x y H Q ∨ rRep1 X.K x y H Q) := OpR.or op_repT op_rep1
/-! ### plainer readings -/
theorem opr_imp {X : Cx} {f : Value → Value → Sem Value} {r r' : R2} (h : OpR X f r) (w : ∀ x y H Q, r' x y H Q → r x y H Q) : OpR X f r' :=
  fun pins s σ H x y v u Q I rx ry q => h pins s σ H x y v u Q I rx ry (w x y H Q q)
/-- a tuple at r, all else as it was -/
def TupTo (H : Hp) (xs : List V) (Q : VK) : Prop := ∀ (r : Addr) (H' : Hp), Same H H' → H' r = some (.tup xs) → Q (.ref r) H'
theorem TupTo.new {H : Hp} {xs : List V} {Q : VK} (h : TupTo H xs Q) : ∀ p, H p = none → Q (.ref p) (upd H p (.tup xs)) := fun p hp => h p _ (same_newH hp) upd_same
def rCatS : R2 := fun x y H Q => ∃ a b xs ys, x = .ref a ∧ y = .ref b ∧ H a = some (.tup xs) ∧ H b = some (.tup ys) ∧ xs.length + ys.length ≤ 1000 ∧ TupTo H (xs ++ ys) Q
theorem op_catS {X : Cx} : OpR X (binaryOp .Add) rCatS := opr_imp op_catA fun x y H Q h => by
  obtain ⟨a, b, xs, ys, rfl, rfl, ha, hb, hl, q⟩ := h
  refine ⟨a, b, xs, ys, rfl, rfl, SqT.of ha, SqT.of hb, Nat.le_of_lt (small1000 hl), fun e => ?_, fun _ e => ?_, fun _ _ => q.new⟩
  · exact q b H (Same.refl H) (by rw [e, List.nil_append]; exact hb)
  · exact q a H (Same.refl H) (by rw [e, List.append_nil]; exact ha)
def rRepS : R2 := fun x y H Q => ∃ l k xs, x = .ref l ∧ y = .int k ∧ H l = some (.tup xs) ∧ xs ≠ [] ∧ 1 ≤ k ∧ k ≤ 1000 ∧ xs.length ≤ 1000 ∧ TupTo H (List.replicate k.toNat xs).flatten Q
theorem op_repS {X : Cx} : OpR X (binaryOp .Mult) rRepS := opr_imp op_rep fun x y H Q h => by
  obtain ⟨l, k, xs, rfl, rfl, hl, hx, h1, h2, h3, q⟩ := h
  by_cases e : k = 1
  · subst e
    exact .inr ⟨l, xs, rfl, rfl, SqT.of hl, q l H (Same.refl H) (by simpa using hl)⟩
  · exact .inl ⟨l, k, xs, rfl, rfl, SqT.of hl, hx, by omega, h2, h3, q.new⟩
def rSlS : V → Option Int → Option Int → Hp → VK → Prop := fun x lo hi H Q => ∃ a xs, x = .ref a ∧ H a = some (.tup xs) ∧ TupTo H (cutV xs lo hi) Q
theorem cut_whole {xs : List V} {lo hi : Option Int} (h : HT.sIx xs.length 0 lo = 0 ∧ HT.sIx xs.length xs.length hi = xs.length) : cutV xs lo hi = xs := by
  unfold cutV
  rw [h.1, h.2, List.drop_zero, Nat.sub_zero, List.take_length]
theorem sl_tupS {X : Cx} : SlR X rSlS := fun pins s σ H x v vl vu lo hi sl Q I rx e1 e2 e3 q => by
  obtain ⟨a, xs, rfl, ha, t⟩ := q
  exact sl_tupA pins s σ H (.ref a) v vl vu lo hi sl Q I rx e1 e2 e3 ⟨a, xs, rfl, SqT.of ha, fun e => t a H (Same.refl H) (by rw [cut_whole e]; exact ha), fun _ => t.new⟩
theorem cut_drop (xs : List V) (i : Nat) : cutV xs (some (i : Int)) none = xs.drop i := by
  unfold cutV
  rw [HT.sIx_none, HT.sIx_nat]
  rw [List.take_of_length_le (by rw [List.length_drop]; exact Nat.le_refl _)]
  rcases Nat.le_total i xs.length with h | h
  · rw [Nat.min_eq_left h]
  · rw [Nat.min_eq_right h, List.drop_length, List.drop_of_length_le h]
/-! ### methods and makers by name -/
structure CalM (P : Program) (w : World) (K : PySem.W.Frag) (mg : Str → Option Value) (base : Heap) (CX : CXT) (k : Nat) (C : Addr) (m : Str) (f : Addr) (fd : FuncData) (ps : List Str) (sp : Sp) : Prop where
  ok : FnOk P w K mg base CX k f fd ps sp
  mt : Meth K C m f
  b : Binds K fd ps []
structure CalI (P : Program) (w : World) (K : PySem.W.Frag) (mg : Str → Option Value) (base : Heap) (CX : CXT) (k : Nat) (x : Str) (C f : Addr) (fd : FuncData) (ps : List Str) (sp : Sp) : Prop where
  ok : FnOk P w K mg base CX k f fd ps sp
  mkr : Mk K C f
  at_ : mg x = some (.ref C)
  b : Binds K fd ps []
section
variable {X : Cx} {k : Nat} {x : Str} {C f : Addr} {fd : FuncData} {ps : List Str} {sp : Sp} {e : Expr} {es : List Expr} {t : TA} {p pos : Pos}
theorem pe_mkr (c : CalI X.prog X.w X.K X.mg X.base CX0 k x C f fd ps sp) (hr : Room (k + 1) X.A) (ha : PA X (e :: es) t)
    (hg : Gl X x := by rfl) (hdb : (x == ("__debug__" : Str)) = false := by decide) (he : starEach (e :: es) X.env = (false, eval e X.env) :: starEach es X.env := by rfl) (hpl : (backTo pos (starEach es X.env)).any (·.1) = false := by rfl) :
    PE X (.Call (.Name x p) (e :: es) [] pos) (tMake C sp [] E0 t) := pe_make c.mkr c.ok hr hg c.at_ c.b .nil pass0 ha hdb he hpl
theorem op_in_cal (c : CalM X.prog X.w X.K X.mg X.base CX0 k C "__contains__" f fd ps sp) (hr : Room k X.A) : OpR X (compareOp .In) (rInOwn C false sp E0) := op_in_own c.ok c.mt c.b pass0 hr
theorem op_notIn_cal (c : CalM X.prog X.w X.K X.mg X.base CX0 k C "__contains__" f fd ps sp) (hr : Room k X.A) : OpR X (compareOp .NotIn) (rInOwn C true sp E0) := op_notIn_own c.ok c.mt c.b pass0 hr
end
theorem Known.same {H H' : Hp} {v : V} (h : Known H v) (e : Same H H') : Known H' v := by
  obtain ⟨⟨t, ht⟩, hk⟩ := h
  refine ⟨⟨t, kd_same ht e⟩, fun a xs ev ha => ?_⟩
  subst ev
  rcases kdO_or (show kdO (H a) = some t from ht) with q | q <;> subst q
  · obtain ⟨ys, q⟩ := kdO_lst (show kdO (H a) = some .lst from ht)
    rw [e _ _ q] at ha
    cases ha
  · obtain ⟨ys, q⟩ := kdO_tup (show kdO (H a) = some .tup from ht)
    rw [e _ _ q] at ha
    cases ha
    obtain ⟨h1, h2⟩ := hk a _ rfl q
    exact ⟨h1, fun x hx => let ⟨t, ht⟩ := h2 x hx; ⟨t, kd_same ht e⟩⟩
theorem rowB_same {H H' : Hp} {v : V} {m : Int} (h : Known H v) (e : Same H H') : rowB H' v m = rowB H v m := by
  obtain ⟨⟨t, ht⟩, _⟩ := h
  by_cases q : t = .tup
  · subst q
    obtain ⟨a, xs, rfl, ha⟩ := kd_tuple ht
    rw [rowB_tup ha, rowB_tup (e _ _ ha)]
  · rw [rowB_not ht q, rowB_not (kd_same ht e) q]
theorem But.to_same {b : Addr} {H H1 H2 : Hp} (s : Same H H1) (x : But b H1 H2) (hb : H b = none) : Same H H2 := fun a o h => x a o (ne_of_none h hb) (s a o h)
theorem Bag.same {b : Addr} {H H' : Hp} (x : Bag H b) (e : Same H H') : Bag H' b := by
  obtain ⟨x, y, h, h0, h1⟩ := x
  exact ⟨x, y, e _ _ h, h0, h1⟩
theorem kd_flat {H : Hp} {v : V} (h : flatV v = true) : ∃ t, kd H v = some t := (known_flat h).1
theorem known_tupF {H : Hp} {a : Addr} {xs : List V} (h : H a = some (.tup xs)) (hl : xs.length ≤ 1000) (hx : ∀ x ∈ xs, flatV x = true) : Known H (.ref a) := known_tup h hl fun x q => kd_flat (hx x q)
theorem cut_len (xs : List V) (lo hi : Option Int) : (cutV xs lo hi).length ≤ xs.length := by
  unfold cutV
  rw [List.length_take, List.length_drop]
  omega
theorem rep_flat {x : V} (n : Nat) : (List.replicate n [x]).flatten = List.replicate n x := by
  induction n with
  | zero => rfl
  | succ n ih => rw [List.replicate_succ, List.flatten_cons, ih, List.replicate_succ] <;> rfl
theorem rowB_bad {H : Hp} {a : Addr} {xs : List V} {m : Int} (h : H a = some (.tup xs)) (hx : ∃ x ∈ xs, isIntV x = false) : rowB H (.ref a) m = false := by
  rw [rowB_tup h]
  obtain ⟨x, h1, h2⟩ := hx
  have e : xs.all isIntV = false := by
    rw [List.all_eq_false]
    exact ⟨x, h1, by rw [h2]; decide⟩
  rw [e, Bool.and_false]
theorem rowB_len {H : Hp} {a : Addr} {xs : List V} {m : Int} (h : H a = some (.tup xs)) (hx : (xs.length : Int) ≠ m) : rowB H (.ref a) m = false := by
  rw [rowB_tup h, decide_eq_false hx, Bool.false_and]
end Own

namespace Own
open PySem PySem.Spec PyProof.Rows L2
section
variable {X : Cx} {n : Nat} {CX : CXT} {C f : Addr} {fd : FuncData} {ps : List Str} {sp : Sp} {E : XK}
/-- the callee runs, some units deeper -/
theorem run_at {A : Around} (sb : Sub X n A) (F : FnOk X.prog X.w X.K X.mg X.base CX n f fd ps sp) (hb : Binds X.K fd ps []) (hx : Passes CX X E)
    {pins : List (Addr × Obj)} {s : Shared} {σ : L2.St} {H : Hp} {vs : List V} {us : List Value} {Q : V → Hp → Prop} (I : Inv X pins σ H s) (r : Vals vs us) (hsp : sp vs H Q E) :
    wpAny (model X.prog X.w) A (call (.ref f) us) (EP X pins σ Q) X.xe s := by
  have hl : (us ++ ([] : List Value)).length = ps.length := by
    rw [List.append_nil, ← r.length]
    exact F.len _ _ _ _ hsp
  have bt := hb s us I.kIn hl
  rw [List.append_nil] at bt
  obtain ⟨h0, h1, h2, h3, h4, h5, h6, h7⟩ := I.env0
  refine wpAny_call (codeAny_mono (F.run A X.stack s H ⟨us, []⟩ us vs Q E sb.room ⟨sb.fr.trans h0, h1, h2, h3, h4, h5, h6, h7⟩ bt r hsp) fun z s' hq => ?_)
  match z, hq with
  | .error e, hq => exact hx pins σ H s e s' I hq
  | .ok (.ret u), hq => exact I.after hq
theorem sub_of {A : Around} (hr : Room n X.A) : Sub X n X.A := ⟨hr, rfl⟩
/-- what stands at an instance -/
theorem inst_at {pins : List (Addr × Obj)} {s : Shared} {σ : L2.St} {H : Hp} {a dx : Addr} {fs : List (Str × V)} (I : Inv X pins σ H s) (ha : H a = some (.ins C dx fs)) : ∃ od, PySem.W.InstAt s.heap a (PySem.W.instObj C dx) C (some od) := by
  obtain ⟨mA, J, _⟩ := ins_get I.hok ha
  obtain ⟨od, J, _⟩ := J.look
  exact ⟨od, J⟩
def rLenOwn (C : Addr) (sp : Sp) (E : XK) : List V → Hp → VK → Prop := fun xs H Q => ∃ a dx fs, xs = [.ref a] ∧ H a = some (.ins C dx fs) ∧ sp [.ref a] H (fun v H' => ∃ k : Nat, v = .int k ∧ k < 1000000 ∧ Q (.int k) H') E
theorem call_len_own (Fn : FnOk X.prog X.w X.K X.mg X.base CX n f fd ps sp) (hm : Meth X.K C "__len__" f) (hb : Binds X.K fd ps []) (hx : Passes CX X E) (hr : Room (n + 1) X.A) : CallR X (.builtin "len") (rLenOwn C sp E) := by
  intro pins s σ H xs us Q I r h
  obtain ⟨a, dx, fs, rfl, ha, q⟩ := h
  obtain ⟨od, J⟩ := inst_at I ha
  obtain ⟨m, hF⟩ := I.fr
  match us, r with
  | [u], .cons ru .nil =>
    cases ru
    refine PySem.W.len_K hF I.ok.mod.kin J hm.at_ hm.fn ?_
    refine thn (run_at (A := X.A.in1) ⟨hr.in1, rfl⟩ Fn hb hx I (show Vals [V.ref a] [Value.ref a] from .cons rfl .nil) q) fun v s1 ⟨z, H1, I1, rz, k, ez, hk, q1⟩ => ?_
    subst ez
    obtain ⟨t, rfl⟩ := rz
    show (0 ≤ (k : Int) ∧ (k : Int) < 2 ^ 63) ∧ _
    exact ⟨⟨by omega, by omega⟩, .int k, H1, I1.tok _, ⟨_, rfl⟩, q1⟩
def rReprOwn (C : Addr) (sp : Sp) (E : XK) : List V → Hp → VK → Prop := fun xs H Q => ∃ a dx fs, xs = [.ref a] ∧ H a = some (.ins C dx fs) ∧ sp [.ref a] H (fun v H' => ∃ z : Str, v = .str z ∧ Q (.str z) H') E
theorem call_repr_own (Fn : FnOk X.prog X.w X.K X.mg X.base CX n f fd ps sp) (hm : Meth X.K C "__repr__" f) (hb : Binds X.K fd ps []) (hx : Passes CX X E) (hr : Room (n + 1) X.A) : CallR X (.builtin "repr") (rReprOwn C sp E) := by
  intro pins s σ H xs us Q I r h
  obtain ⟨a, dx, fs, rfl, ha, q⟩ := h
  obtain ⟨od, J⟩ := inst_at I ha
  obtain ⟨m, hF⟩ := I.fr
  match us, r with
  | [u], .cons ru .nil =>
    cases ru
    refine PySem.W.repr_K hr.in1.units0 hF I.ok.mod.kin J hm.at_ hm.fn ?_
    refine thn (run_at (A := X.A.in1) ⟨hr.in1, rfl⟩ Fn hb hx I (show Vals [V.ref a] [Value.ref a] from .cons rfl .nil) q) fun v s1 ⟨z, H1, I1, rz, k, ez, q1⟩ => ?_
    subst ez
    obtain ⟨t, rfl⟩ := rz
    exact ⟨.str k, H1, I1, ⟨_, rfl⟩, q1⟩
/-- x == y by x's own __eq__; y of a class that does not come first -/
def rEqOwn (K : PySem.W.Frag) (C : Addr) (neg : Bool) (sp : Sp) (E : XK) : R2 := fun x y H Q => ∃ a dx fs t, x = .ref a ∧ H a = some (.ins C dx fs) ∧ TyX K H y t ∧ PySem.W.notFirst K C t = true ∧
  sp [.ref a, y] H (fun v H' => ∃ b, v = .bl b ∧ Q (.bl (if neg then !b else b)) H') E
theorem op_eq_own (Fn : FnOk X.prog X.w X.K X.mg X.base CX n f fd ps sp) (hm : Meth X.K C "__eq__" f) (hb : Binds X.K fd ps []) (hx : Passes CX X E) (hr : Room n X.A) : OpR X (compareOp .Eq) (rEqOwn X.K C false sp E) := by
  intro pins s σ H x y v u Q I rx ry h
  obtain ⟨a, dx, fs, t, rfl, ha, ty, nf, q⟩ := h
  cases rx
  obtain ⟨od, J⟩ := inst_at I ha
  obtain ⟨m, hF⟩ := I.fr
  obtain ⟨Pd, Z, pz, _⟩ := kit_of I ry ty
  refine PySem.W.cmp_K (op := .Eq) hr.units0 hF I.ok.mod.kin J (Z.ty _ _ I.kIn pz) nf hm.at_ hm.fn ?_
  refine thn (run_at ⟨hr, rfl⟩ Fn hb hx I (show Vals [V.ref a, y] [Value.ref a, u] from .cons rfl (.cons ry .nil)) q) fun w s1 ⟨z, H1, I1, rz, k, ez, q1⟩ => ?_
  subst ez
  cases rz
  exact ⟨.bl k, H1, I1, rfl, q1⟩
open Builtin in
theorem op_ne_own (Fn : FnOk X.prog X.w X.K X.mg X.base CX n f fd ps sp) (hm : Meth X.K C "__eq__" f) (hn : PySem.W.findIn X.K (.ref C) "__ne__" = some (some (.builtin "object.__ne__"))) (ho : PySem.W.mroIn X.K C (.type "object") = some true)
    (hb : Binds X.K fd ps []) (hx : Passes CX X E) (hr : Room (n + 1) X.A) : OpR X (compareOp .NotEq) (rEqOwn X.K C true sp E) := by
  intro pins s σ H x y v u Q I rx ry h
  obtain ⟨a, dx, fs, t, rfl, ha, ty, nf, q⟩ := h
  cases rx
  obtain ⟨od, J⟩ := inst_at I ha
  obtain ⟨Pd, Z, pz, _⟩ := kit_of I ry ty
  have hK := I.kIn
  have core : wpAny (model X.prog X.w) X.A (tryCompare (.ref a) "__ne__" u) (fun r s' => ∃ w, r = some w ∧ EP X pins σ Q w s') X.xe s := by
    unfold tryCompare
    refine wpAny_bind ?_
    simp only [callSpecialIfBound?, bindSpecialIfBound?]
    refine wpAny_holding (wpAny_bind (wpAny_bind (wpAny_bind (J.type.here ((PySem.W.looks_findIn hK hn).here ?_)))))
    refine wpAny_bind (wpAny_askSetting (wpAny_ite ?_))
    have hbs : bindSpecial (.builtin "object.__ne__") (.ref a) = pure (.builtin "object.__ne__", [.ref a]) := F.cmp_object.ne.bind _
    have fin : wpAny (model X.prog X.w) X.A (call (.builtin "object.__ne__") [.ref a, u]) (fun v s' => ∃ b, v = .bool b ∧ EP X pins σ Q (.bool b) s') X.xe s := by
      refine wpAny_call (codeAny_call_builtin F.cmp_object.ne.plain F.cmpEntry_ne (PySem.W.check_slot (i := "object.__ne__") (owner := "object") (n := "__ne__") F.cmpKind_ne F.cmpSplit_ne (J.type.andThen (PySem.W.looks_mroIn hK ho)) (F.cmpArgs_ne _ _) ?_))
      unfold Builtin.«object.__ne__»
      refine wpAny_bind (m := slotArgs "__ne__" 1 _) (wpAny_pure ?_)
      refine wpAny_bind (m := cRoomFor _ _) (wpAny_cRoomFor hr.in1.units0 ?_)
      refine wpAny_bind (m := callSpecialIfBound? (.ref a) (Str.ofString "__eq__") _) (PySem.W.ifBound_K hK J hm.at_ hm.fn ?_)
      refine thn (run_at (A := X.A.in1) ⟨hr.in1, rfl⟩ Fn hb hx I (show Vals [V.ref a, y] [Value.ref a, u] from .cons rfl (.cons ry .nil)) q) fun w s1 ⟨z, H1, I1, rz, k, ez, q1⟩ => ?_
      subst ez
      cases rz
      show wpAny _ _ (do ret (.bool (!(← truthy (.bool k))))) _ _ _
      refine wpAny_bind (wpAny_pure ?_)
      exact wpAny_pure ⟨!k, rfl, .bl (!k), H1, I1, rfl, q1⟩
    have cont : ∀ (v : Value) (s' : Shared), (∃ b, v = .bool b ∧ EP X pins σ Q (.bool b) s') → wpAny (model X.prog X.w) X.A (match (some v : Option Value) with
        | some .notImplemented => pure none
        | none => pure none
        | some r => pure (some r) : Sem (Option Value)) (fun r s' => ∃ w, r = some w ∧ EP X pins σ Q w s') X.xe s' := fun v s' ⟨b, e, z⟩ => by
      subst e
      exact wpAny_pure ⟨_, rfl, z⟩
    split
    · refine wpAny_bind ((PySem.W.Looks.of_pure hbs).here (wpAny_pure ?_))
      exact wpAny_bind (wpAny_mono fin (fun v s' z => wpAny_pure (cont v s' z)) fun _ _ e => e)
    · refine wpAny_tryCatch (wpAny_bind ((PySem.W.Looks.of_pure hbs).here (wpAny_pure ?_)))
      exact wpAny_bind (wpAny_mono fin (fun v s' z => wpAny_pure (cont v s' z)) fun _ _ e => e)
  show wpAny (model X.prog X.w) X.A (richCompare .NotEq (.ref a) u) _ _ _
  unfold richCompare
  simp only [oneThing_ref]
  refine wpAny_holding (wpAny_bind (wpAny_cRoomFor hr.units0 ?_))
  refine wpAny_bind (J.type.here (wpAny_bind ((Z.ty _ _ hK pz).here ?_)))
  have last : wpAny (model X.prog X.w) X.A (tryCompare (.ref a) (cmpInfo CmpOp.NotEq).2.fst u) (fun r s' => ∃ w, r = some w ∧ EP X pins σ Q w s') X.xe s := core
  have key : (Value.ref C != t) = true → PySem.W.subIn X.K t (.ref C) = some false := fun z => by
    rcases Bool.or_eq_true_iff.mp nf with g | g
    · have g1 := eq_of_beq g
      rw [g1, bne_self_eq_false] at z
      cases z
    · exact eq_of_beq g
  by_cases z : (Value.ref C != t) = true
  · rw [if_pos z]
    refine wpAny_bind ((PySem.W.looks_subIn hK (key z)).here ?_)
    simp only [Bool.false_eq_true, if_false]
    refine wpAny_bind (thn last fun r s2 ⟨w, e, g⟩ => ?_)
    subst e
    exact wpAny_pure g
  · rw [if_neg z]
    refine wpAny_bind (wpAny_pure ?_)
    simp only [Bool.false_eq_true, if_false]
    refine wpAny_bind (thn last fun r s2 ⟨w, e, g⟩ => ?_)
    subst e
    exact wpAny_pure g
end
/-! ### enumerate of a tuple -/
/-- the tuple at a, its items in new pairs -/
def IteT (K : PySem.W.Frag) (a : Addr) : It where
  go := fun i H => ∃ (xs : List V) (x : V), SqT K H a xs ∧ xs[i]? = some x
  yld := fun i H v H' => ∃ T x, v = .ref T ∧ H T = none ∧ H' = upd H T (.tup [.int (i : Nat), x]) ∧ ∀ xs, SqT K H a xs → xs[i]? = some x
  stop := fun i H => ∃ xs : List V, SqT K H a xs ∧ xs.length = i
theorem apart_iter {h : Heap} {a it : Addr} {i : Nat} {its : Array Value} (t : h.IsTuple a its) (x : h.IsTupleIter it a i) : a ≠ it := by
  intro e
  subst e
  obtain ⟨o, h1, _, n, h2⟩ := t
  obtain ⟨o', h3, _, h4⟩ := x
  rw [h1] at h3
  cases h3
  rw [h2] at h4
  cases h4
theorem turn_enumT {P : Program} {w : World} {K : PySem.W.Frag} {elts : List Expr} {kk : Nat} {tpos : Pos} (a e it : Addr) :
    Turn P w K (.Tuple elts kk tpos) (IteT K a) [e, it] e (fun i h => (∃ old, IsEnum h e it ((i : Nat) : Int) old) ∧ h.IsTupleIter it a i ∧ e ≠ it ∧ e ≠ a) where
  mem := List.mem_cons_self ..
  obj := fun i h ⟨⟨old, he⟩, ⟨o, ho, hc, hd⟩, _⟩ b hb => by
    rcases List.mem_cons.mp hb with z | z
    · subst z
      exact ⟨_, he, nofun⟩
    · rw [List.mem_singleton.mp z]
      exact ⟨o, ho, fun v q => by rw [hd] at q; cases q⟩
  keep := fun i h h' ⟨⟨old, he⟩, hi, hne⟩ k => ⟨⟨old, k e (List.mem_cons_self ..) _ he⟩, hi.at fun o q => k it (List.mem_cons_of_mem _ (List.mem_singleton.mpr rfl)) o q, hne⟩
  item := by
    intro X hP hw hK hc i pins s σ H E I hf st hg
    subst hP hw hK
    obtain ⟨⟨old, he⟩, hit, hne, hna⟩ := st
    obtain ⟨xs, x, hq, hx⟩ := hg
    obtain ⟨its, rv, p, hz⟩ := I.tuple hq
    obtain ⟨u, hu, ru⟩ := rv.get hx
    have hT : s.heap.IsTuple a its.toArray := p
    have hlt : i < its.toArray.size := by
      have z := (List.getElem?_eq_some_iff.mp hu).1
      simpa using z
    have D := Draws.tuple (prog := X.prog) (w := X.w) (A := X.A.in1) (I.ok.hd hc) it a (apart_iter hT hit) its.toArray
    have hel : e < s.heap.objs.size := Heap.lt_size he
    have hil : it < s.heap.objs.size := by
      obtain ⟨_, q, _⟩ := hit
      exact Heap.lt_size q
    refine wpAny_pyNext_enum_itemD D he ⟨hit, hT⟩ hlt hne (by intro z; rcases List.mem_cons.mp z with z | z; exact hne z; exact hna (List.mem_singleton.mp z)) fun y h' tk hy ho st' hT' hsz hk => ?_
    have ey : y = u := by
      have z : its[i]? = some y := by simpa using hy
      rw [hu] at z
      exact (Option.some.inj z).symm
    subst ey
    refine ⟨_, rfl, wpAny_letOwnedTupleGo_enum (s := { s with heap := h', toks := tk + 1 }) ho fun h2 he2 sb => ?_⟩
    have e2 : h2.get? s.heap.objs.size = some { cls := .type "tuple", data := .seq #[.int i tk, y] } := (sb.2 _ (Nat.ne_of_gt hel)).trans hT'
    have new : ObjOk X.prog X.w (upd H s.heap.objs.size (.tup [.int (i : Nat), x])) h2 s.heap.objs.size (.tup [.int (i : Nat), x]) :=
      ⟨(by show 2 ≤ sizeLine; decide), [.int i tk, y], .cons ⟨_, rfl⟩ (.cons ru .nil), ⟨_, e2, rfl, _, rfl⟩⟩
    have I1 : Inv X pins σ (upd H s.heap.objs.size (.tup [.int (i : Nat), x])) { s with heap := h2, toks := tk + 1 } :=
      I.turnedNew (ch := [e, it]) (fun b ob hb q => by
        have n1 : b ≠ e := fun z => hb (z ▸ List.mem_cons_self ..)
        have n2 : b ≠ it := fun z => hb (z ▸ List.mem_cons_of_mem _ (List.mem_singleton.mpr rfl))
        exact (sb.2 b n1).trans (hk b ob n1 n2 q)) hf (Nat.le_refl _) new
    have e1 : ((i + 1 : Nat) : Int) = (i : Int) + 1 := by omega
    refine ⟨.ref s.heap.objs.size, _, I1, rfl, ⟨_, x, rfl, I.hok.fresh (Nat.le_refl _), rfl, fun ys hy => by rw [I.tuple_inj hy hq]; exact hx⟩, ⟨⟨y, by rw [e1]; exact he2⟩, st'.1.at fun o q => (sb.2 it (Ne.symm hne)).trans q, hne, hna⟩, fun b hb => ?_⟩
    have hbl : b < s.heap.objs.size := by
      rcases List.mem_cons.mp hb with z | z
      · rw [z]; exact hel
      · rw [List.mem_singleton.mp z]; exact hil
    rw [upd_ne (Nat.ne_of_lt hbl)]
    exact (hf b hb).1
  done := by
    intro X hP hw hK hc i pins s σ H E I hf st hg
    subst hP hw hK
    obtain ⟨⟨old, he⟩, hit, hne, hna⟩ := st
    obtain ⟨xs, hq, hx⟩ := hg
    obtain ⟨its, rv, p, hz⟩ := I.tuple hq
    obtain ⟨f0, f1, f2, f3, f4, f5⟩ := hf it (List.mem_cons_of_mem _ (List.mem_singleton.mpr rfl))
    have hT : s.heap.IsTuple a its.toArray := p
    have hn : its.toArray.size = i := by rw [List.size_toArray, ← rv.length, hx]
    have D := Draws.tuple (prog := X.prog) (w := X.w) (A := X.A.in1) (I.ok.hd hc) it a (apart_iter hT hit) its.toArray
    rw [hn] at D
    exact wpAny_pyNext_enum_endD D he ⟨hit, hT⟩ fun h' eb => ⟨rfl, I.turned (t' := s.toks) (fun b o hb q => eb b o hb q) f0 f1 f3 f4 f5⟩
  self := fun A i s Q E ⟨⟨_, he⟩, _⟩ h => wpAny_pyIter_enum he h
set_option maxHeartbeats 4000000 in
theorem enum_new1 {v : Value} {o : Obj} {G : Heap → Prop} (B : Begins v o G) :
    Meets (Builtin.«enumerate.__new__» ⟨[.type "enumerate", v], []⟩) (fun _ R s => G s.heap ∧
      R (.ok (.ret (.ref (s.heap.push o).objs.size))) { s with heap := (s.heap.push o).push { cls := .type "enumerate", data := .fields #[.none, .bool false, .ref s.heap.objs.size, rawInt 0, .none, .none] } }) :=
  .of_wp fun prog w A R s h => by
    obtain ⟨hp, g, d, tk, os⟩ := s
    obtain ⟨h1, h⟩ := h
    have hsub := sub_enumerate
    have q1 : ∀ {A' : Around} {E : Value → Shared → Prop} {Q : Value → Shared → Prop}, Q (.ref hp.objs.size) ⟨hp.push o, g, d, tk, os⟩ → wpAny (model prog w) A' (pyIter v) Q E ⟨hp, g, d, tk, os⟩ :=
      fun z => B.iter _ _ _ _ ⟨hp, g, d, tk, os⟩ _ h1 z
    wp_walk using q1
    refine wpAny_stack_any fun st => wpAny_pure ?_
    split
    · rename_i c _ _ _ _ _
      by_cases z : (c == Value.type "enumerate") = true
      · rw [z]
        wp_walk using q1
        exact ⟨_, rfl, h⟩
      · rw [Bool.not_eq_true] at z
        rw [z]
        wp_walk using q1
        exact ⟨_, rfl, h⟩
    · wp_walk using q1
      exact ⟨_, rfl, h⟩
theorem enum_made {prog : Program} {w : World} {A : Around} {E : Value → Shared → Prop} {s : Shared} {v : Value} {o : Obj} {G : Heap → Prop} {Q : Value → Shared → Prop} (B : Begins v o G) (h1 : G s.heap)
    (h : ∀ h', IsEnum h' (s.heap.objs.size + 1) s.heap.objs.size 0 .none → h'.get? s.heap.objs.size = some o → (∀ b o', s.heap.get? b = some o' → h'.get? b = some o') → Q (.ref (s.heap.objs.size + 1)) { s with heap := h' }) :
    wpAny (model prog w) A (call (.type "enumerate") [v]) Q E s := by
  refine callType_new F.called_enumerate (by decide) (F.typeCall_enumerate_1 _) (F.newCall_enumerate_1 _) (fun obj => F.args_object_init_2 obj _) F.entry_enumerate_new (enum_new1 B) ⟨h1, ?_⟩
  have hz : (s.heap.push o).objs.size = s.heap.objs.size + 1 := Heap.size_push ..
  show _ ∧ _
  rw [hz]
  have he : IsEnum ((s.heap.push o).push { cls := .type "enumerate", data := .fields #[.none, .bool false, .ref s.heap.objs.size, rawInt 0, .none, .none] }) (s.heap.objs.size + 1) s.heap.objs.size 0 .none := by
    have q := Heap.get?_push_size (s.heap.push o) (o := { cls := .type "enumerate", data := .fields #[.none, .bool false, .ref s.heap.objs.size, rawInt 0, .none, .none] }) rfl
    rw [hz] at q
    exact q
  exact ⟨⟨_, he, rfl⟩, h _ he (Heap.get?_push_of_some _ (Heap.get?_push_size _ B.free)) fun b o' x => Heap.get?_push_of_some _ (Heap.get?_push_of_some _ x)⟩
theorem walk_enumT {K : PySem.W.Frag} {a : Addr} {xs : List V} : Walk (IteT K a) xs.length (fun H => SqT K H a xs) (YPair (fun i => some (.int (i : Nat))) (fun i => xs[i]?)) := by
  refine ⟨fun i _ hi q => ⟨xs, xs[i], q, by simp [hi]⟩, fun _ q => ⟨xs, q, rfl⟩, fun i H v H' _ q y => ?_⟩
  obtain ⟨T, x, h1, h2, h3, h4⟩ := y
  exact ⟨T, .int (i : Nat), x, h1, h2, h3, rfl, h4 xs q⟩
/-- a list or a tuple -/
def SqA (K : PySem.W.Frag) (H : Hp) (a : Addr) (xs : List V) : Prop := SqL K H a xs ∨ SqT K H a xs
theorem tup_same {K : PySem.W.Frag} {a : Addr} {H H1 : Hp} {xs : List V} (x : Same H H1) (h : SqT K H a xs) : SqT K H1 a xs := by
  rcases h with (h | ⟨o, h⟩) | h
  · exact .inl (.inl (x _ _ h))
  · exact .inl (.inr ⟨o, x _ _ h⟩)
  · exact .inr h
theorem SqA.same {K : PySem.W.Frag} {a : Addr} {H H1 : Hp} {xs : List V} (h : SqA K H a xs) (x : Same H H1) : SqA K H1 a xs := h.elim (fun h => .inl (x.seq h)) fun h => .inr (tup_same x h)
/-- enumerate of a list or a tuple: for whatever walk it is -/
def iEnumA (K : PySem.W.Frag) (ta : TA) : TI := fun σ H R => ta σ H fun vs H1 => ∃ a xs, vs = [.ref a] ∧ SqA K H1 a xs ∧ ∀ J G, Walk J xs.length G (YPair (fun i => some (.int (i : Nat))) (fun i => xs[i]?)) → (∀ H', Same H1 H' → G H') → R J H1
set_option maxHeartbeats 400000 in
theorem pi_enumA {X : Cx} {e : Expr} {ta : TA} {p pos tpos : Pos} {elts : List Expr} {kk : Nat} (hg : Gl X "enumerate") (hm : X.mg "enumerate" = none) (ha : PA X [e] ta) (hs : starEach [e] X.env = [(false, eval e X.env)] := by rfl) :
    PI X (.Tuple elts kk tpos) (.Call (.Name "enumerate" p) [e] [] pos) (iEnumA X.K ta) := by
  refine ⟨fun pins s σ H R I h => ?_⟩
  refine Call_ (ld_blt I hg hm boot_enumerate (PyProof.Rows.callWith_type1 (thn (ha.run pos pins s σ H _ I h) fun us s1 ⟨vs, H1, I1, r1, q1⟩ => ?_) hs rfl))
  obtain ⟨a, xs, ex, hq⟩ := q1
  subst ex
  have fp : ∀ b ∈ [s1.heap.objs.size + 1, s1.heap.objs.size], FpOk X pins H1 b := fun b hb => by
    have hle : s1.heap.objs.size ≤ b := by
      rcases List.mem_cons.mp hb with z | z
      · rw [z]
        exact Nat.le_succ _
      · rw [List.mem_singleton.mp z]
        exact Nat.le_refl _
    exact I1.fpOk hle (I1.hok.fresh hle)
  cases r1 with
  | cons r rr =>
    cases rr
    cases r
    obtain ⟨hs, q0⟩ := hq
    rcases hs with hq | hq
    · have q := q0 (Ite X.K a) _ walk_enum (fun H' e => e.seq hq)
      obtain ⟨its, rv, p', hz⟩ := I1.list hq
      refine enum_made (begins_list a its.toArray) p'.isList fun h' he hit hk => wpAny_pyIter_enum he ?_
      exact ⟨s1.heap.objs.size + 1, [s1.heap.objs.size + 1, s1.heap.objs.size], _, _, H1, rfl, I1.kept (t' := s1.toks) hk, turn_enum a (s1.heap.objs.size + 1) s1.heap.objs.size, ⟨⟨.none, he⟩, ⟨_, hit, rfl, rfl⟩, Nat.succ_ne_self _⟩, fp, q⟩
    · have q := q0 (IteT X.K a) _ walk_enumT (fun H' e => tup_same e hq)
      obtain ⟨its, rv, p', hz⟩ := I1.tuple hq
      have hlt : a < s1.heap.objs.size := by
        obtain ⟨o, ho, _⟩ := p'
        exact Heap.lt_size ho
      have hne : s1.heap.objs.size + 1 ≠ a := Nat.ne_of_gt (Nat.lt_succ_of_lt hlt)
      refine enum_made (begins_tuple a its.toArray) p' fun h' he hit hk => wpAny_pyIter_enum he ?_
      exact ⟨s1.heap.objs.size + 1, [s1.heap.objs.size + 1, s1.heap.objs.size], _, _, H1, rfl, I1.kept (t' := s1.toks) hk, turn_enumT a (s1.heap.objs.size + 1) s1.heap.objs.size, ⟨⟨.none, he⟩, ⟨_, hit, rfl, rfl⟩, Nat.succ_ne_self _, hne⟩, fp, q⟩
end Own

namespace Own
open PySem PySem.Spec PyProof.Rows L2
section
variable {prog : Program} {w : World} {A : Around} {E : Value → Shared → Prop} {s : Shared}
/-- a list of a text: its signs -/
theorem list_str_init {R : Result → Shared → Prop} (hh : A.handled = none) (x : Str) (t : Tok) (hn : x.cps.size ≤ sizeLine) (S : Addr) (hS : s.heap.get? S = some { cls := .type "list", data := .seq #[] })
    (hR : ∀ (s' : Shared) acc' c', (∀ b o, b ≠ S → s.heap.get? b = some o → s'.heap.get? b = some o) → s'.gens = s.gens → s'.drawn = s.drawn → s'.os = s.os → s'.heap.get? S = some { cls := .type "list", dict := none, data := .seq acc' c', slots := #[] } →
      ItemsOf (SignAt x) acc' x.cps.size → R (.ok (.ret .none)) s') :
    wpAny (model prog w) A.in1 (Builtin.«list.__init__» ⟨[.ref S, .str x t], []⟩)
      (fun fin s' => match fin with | .done f => R (.ok f) s' | .again c' => c'.quiet = true ∧ codeAny (model prog w) A c' R s') (fun e s' => R (.error e) s') s := by
  show wpAny _ _ (do let old ← Builtin.List.listItems (.ref S); Builtin.List.listUpdate (.ref S) (fun _ => #[]); letGo old.toList.reverse; Builtin.List.listExtendWith (.ref S) (.str x t) .none) _ _ s
  refine wpAny_bind ?_
  unfold Builtin.List.listItems
  refine wpAny_bind (wpAny_seqItems hS rfl (wpAny_pure ?_))
  show wpAny _ _ (updateSeq S (fun _ => #[]) >>= fun _ => letGo (#[] : Array Value).toList.reverse >>= fun _ => Builtin.List.listExtendWith (.ref S) (.str x t) .none) _ _ s
  refine wpAny_bind (wpAny_updateSeq hS rfl ?_)
  have hS2 := Heap.get?_update_self (Obj.mapSeq (fun _ => (#[] : Array Value))) hS rfl
  have oth : ∀ b o, b ≠ S → s.heap.get? b = some o → (s.heap.update S (Obj.mapSeq (fun _ => (#[] : Array Value)))).get? b = some o := fun b o hb e => (Heap.get?_update_other _ _ (Ne.symm hb)).trans e
  have hlt : S < s.heap.objs.size := Heap.lt_size hS
  have hsz : (s.heap.update S (Obj.mapSeq (fun _ => (#[] : Array Value)))).objs.size = s.heap.objs.size := by first | exact Heap.size_update .. | simp
  refine wpAny_bind (wpAny_letGo ?_)
  unfold Builtin.List.listExtendWith
  refine wpAny_bind (wpAny_typeOf (T := "str") (v := .str x t) rfl ?_)
  have h1 : Builtin.List.listSameRef (.ref S) (.str x t) = false := rfl
  have h2 : (Value.type "str" == Value.type "list") = false := by decide
  have h3 : (Value.type "str" == Value.type "tuple") = false := by decide
  simp only [h1, h2, h3, Bool.or_false, Bool.false_eq_true, if_false]
  refine wpAny_bind (wpAny_pyIter_str fun o St W hst => ?_)
  refine wpAny_bind (wpAny_holding ?_)
  unfold Builtin.List.listLengthHint
  refine wpAny_bind (wpAny_specialOf (T := "str") (v := .str x t) rfl F.str_len ?_)
  wp_delta
  refine wpAny_bind (wpAny_isInstance (T := "str") (v := .str x t) (b := true) rfl (by rw [isSubtype_type]; kernel_rfl) ?_)
  show wpAny _ A.in1 (typeOf (Value.str x t) >>= _) _ _ _
  refine wpAny_bind (wpAny_typeOf (T := "str") (v := .str x t) rfl ?_)
  refine wpAny_pure ?_
  rw [if_neg (by decide)]
  generalize hH : s.heap.update S (Obj.mapSeq (fun _ => (#[] : Array Value))) = H at W hst hS2 oth hsz ⊢
  have hSf : S ∉ [H.objs.size] := fun hm => by
    have e := List.mem_singleton.mp hm
    rw [hsz] at e
    exact absurd hlt (by rw [e]; exact Nat.lt_irrefl _)
  have hS3 : (H.push o).get? S = _ := Heap.get?_push_of_some _ hS2
  refine wpAny_pure ⟨plainId_quiet F.plain_extend_loop _, codeAny_extend_loopS (W A.in1 hh).toS hn _ hSf _ x.cps.size 0 _ _ _ rfl (Nat.zero_le _) hst hS3 (ItemsOf.nil _) fun s' acc' c' hm hS' hacc => ?_⟩
  refine hR s' acc' c' (fun b ob hb e => hm.heap b ob (fun hmem => ?_) (Heap.get?_push_of_some _ (oth b ob hb e))) hm.gens hm.drawn hm.os hS' hacc
  rcases List.mem_cons.mp hmem with z | z
  · exact hb z
  · have e2 := List.mem_singleton.mp z
    rw [hsz] at e2
    exact absurd (Heap.lt_size e) (by rw [e2]; exact Nat.lt_irrefl _)
theorem list_str {Q : Value → Shared → Prop} (hh : A.handled = none) (x : Str) (t : Tok) (hn : x.cps.size ≤ sizeLine)
    (hQ : ∀ (s' : Shared) acc' c', (∀ b o, s.heap.get? b = some o → s'.heap.get? b = some o) → s'.gens = s.gens → s'.drawn = s.drawn → s'.os = s.os → s'.heap.get? s.heap.objs.size = some { cls := .type "list", dict := none, data := .seq acc' c', slots := #[] } →
      ItemsOf (SignAt x) acc' x.cps.size → Q (.ref s.heap.objs.size) s') : wpAny (model prog w) A (call (.type "list") [.str x t]) Q E s := by
  refine callType_codes (Q₁ := fun obj s₁ => obj = .ref s.heap.objs.size ∧ s₁ = { s with heap := s.heap.push { cls := .type "list", data := .seq #[] } }) F.called_list (F.typeCall_list_1 _) F.entry_list_init (code_list_new _ ⟨rfl, rfl⟩) fun obj s1 h1 => ?_
  obtain ⟨rfl, rfl⟩ := h1
  have hS : (s.heap.push { cls := .type "list", data := .seq #[] }).get? s.heap.objs.size = some { cls := .type "list", data := .seq #[] } := Heap.get?_push_size _ rfl
  refine ⟨⟨_, hS, rfl⟩, F.args_list_init_2 _ _, list_str_init (A := A.in1) hh x t hn _ hS fun s' acc' c' hk hg hd ho hS' hacc => ?_⟩
  exact ⟨rfl, hQ s' acc' c' (fun b o e => hk b o (Nat.ne_of_lt (Heap.lt_size e)) (Heap.get?_push_of_some _ e)) hg hd ho hS' hacc⟩
end
def signsV (z : Str) : List V := z.cps.toList.map fun c => V.str ⟨#[c]⟩
theorem vals_of_get : ∀ (xs : List V) (us : List Value), xs.length = us.length → (∀ (i : Nat) (x : V) (u : Value), xs[i]? = some x → us[i]? = some u → RelV x u) → Vals xs us
  | [], [], _, _ => .nil
  | [], _ :: _, e, _ => by cases e
  | _ :: _, [], e, _ => by cases e
  | x :: xs, u :: us, e, h => .cons (h 0 x u rfl rfl) (vals_of_get xs us (Nat.succ.inj e) fun i y v h1 h2 => h (i + 1) y v h1 h2)
theorem signs_vals {x : Str} {acc : Array Value} (h : ItemsOf (SignAt x) acc x.cps.size) : Vals (signsV x) acc.toList := by
  refine vals_of_get _ _ (by unfold signsV; rw [List.length_map, Array.length_toList, Array.length_toList, h.1]) fun i y v h1 h2 => ?_
  rw [Array.getElem?_toList] at h2
  obtain ⟨c, u, hc, rfl⟩ := h.2 i v h2
  unfold signsV at h1
  rw [List.getElem?_map, Array.getElem?_toList, hc] at h1
  cases h1
  exact ⟨u, rfl⟩
theorem call_list_str {X : Cx} (hc : X.calm = true) : CallR X (.type "list") (fun xs H Q => ∃ z, xs = [.str z] ∧ z.length ≤ 1000 ∧ ∀ l, H l = none → Q (.ref l) (upd H l (.lst (signsV z)))) := by
  intro pins s σ H xs us Q I r h
  obtain ⟨z, rfl, hz, q⟩ := h
  obtain ⟨u, rfl, t, rfl⟩ := vals1 r
  have hn : z.cps.size ≤ sizeLine := Nat.le_of_lt (small1000 hz)
  refine list_str (I.ok.hd hc) z t hn fun s' acc' c' hk hg hd ho hS' hacc => ?_
  obtain ⟨hp, g, d, tk, os⟩ := s'
  obtain rfl : g = s.gens := hg
  obtain rfl : d = s.drawn := hd
  obtain rfl : os = s.os := ho
  refine ⟨.ref s.heap.objs.size, _, I.laid (t' := tk) hk (Nat.le_refl _) (show ObjOk X.prog X.w _ hp _ (.lst (signsV z)) from ⟨?_, acc'.toList, c', signs_vals hacc, hS'⟩), rfl, q _ (I.hok.fresh (Nat.le_refl _))⟩
  unfold signsV
  rw [List.length_map, Array.length_toList]
  exact hn
/-! ### a slice of a list or a tuple -/
def rSlA2 (K : PySem.W.Frag) : V → Option Int → Option Int → Hp → VK → Prop := fun x lo hi H Q => ∃ a xs, x = .ref a ∧ SqA K H a xs ∧ ∀ (r : Addr) (H' : Hp), Same H H' → SqA K H' r (cutV xs lo hi) → Q (.ref r) H'
theorem sl_A {X : Cx} : SlR X (rSlA2 X.K) := fun pins s σ H x v vl vu lo hi sl Q I rx e1 e2 e3 h => by
  obtain ⟨a, xs, rfl, ha, q⟩ := h
  rcases ha with ha | ha
  · exact sl_list pins s σ H (.ref a) v vl vu lo hi sl Q I rx e1 e2 e3 ⟨a, xs, rfl, ha, fun p np => q p _ (same_newH np) (.inl (SqL.of upd_same))⟩
  · refine sl_tupA pins s σ H (.ref a) v vl vu lo hi sl Q I rx e1 e2 e3 ⟨a, xs, rfl, ha, fun e => ?_, fun _ p np => q p _ (same_newH np) (.inr (SqT.of upd_same))⟩
    exact q a H (Same.refl H) (.inr (by rw [cut_whole e]; exact ha))
def SqB (K : PySem.W.Frag) (H : Hp) (a : Addr) (xs : List V) : Prop := SqL K H a xs ∨ H a = some (.tup xs)
theorem SqB.seqA {K : PySem.W.Frag} {H : Hp} {a : Addr} {xs : List V} (h : SqB K H a xs) : SqA K H a xs := h.elim .inl fun h => .inr (SqT.of h)
theorem SqB.same {K : PySem.W.Frag} {a : Addr} {H H1 : Hp} {xs : List V} (h : SqB K H a xs) (x : Same H H1) : SqB K H1 a xs := h.elim (fun h => .inl (x.seq h)) fun h => .inr (x _ _ h)
def spFirstBadA (K : PySem.W.Frag) : Sp := fun vs H Q _ => ∃ (a : Addr) (xs : List V), vs = [.ref a] ∧ SqB K H a xs ∧ xs.length ≤ 1000 ∧ (∀ x ∈ xs, Ent H x) ∧ ∀ H', Same H H' → Q (dueV xs) H'
def spTableA (K : PySem.W.Frag) (C : Addr) : Sp := fun vs H Q _ => ∃ (p a dx : Addr) (xs : List V), vs = [.ref p, .ref a] ∧ H p = some (.ins C dx []) ∧ SqB K H a xs ∧ xs.length ≤ 1000 ∧ (∀ x ∈ xs, Ent H x) ∧ dueV xs = .non ∧
  ∀ H', But p H H' → TabAt H' C p xs → Q .non H'
end Own

namespace Own
open PySem PySem.Spec PyProof.Rows L2
/-! ### len, repr, ==, != of an own class, by name -/
/-- what of a class no def of it says: no __ne__ of its own, and so on -/
structure NeAt (K : PySem.W.Frag) (C : Addr) : Prop where
  cl : Cls K C
  ha : PySem.W.findIn K (.ref C) "__class__" = some (some (.builtin "object.__class__"))
  hn : PySem.W.specialIn K (.builtin "object.__class__") "__get__" = some (some (.builtin "getset_descriptor.__get__"))
  htk : PySem.W.takesIn K (.builtin "object.__class__") = some true
  hm : PySem.W.mroIn K C (.type "object") = some true
  ne : PySem.W.findIn K (.ref C) "__ne__" = some (some (.builtin "object.__ne__"))
  kL : PySem.W.kitOne K (.type "list") (.ref C) = some false
  kT : PySem.W.kitOne K (.type "tuple") (.ref C) = some false
  kS : PySem.W.kitOne K (.type "str") (.ref C) = some false
  fL : PySem.W.notFirst K C (.type "list") = true
  fT : PySem.W.notFirst K C (.type "tuple") = true
  fS : PySem.W.notFirst K C (.type "str") = true
section
variable {X : Cx} {k : Nat} {C f : Addr} {fd : FuncData} {ps : List Str} {sp : Sp}
theorem call_len_cal (c : CalM X.prog X.w X.K X.mg X.base CX0 k C "__len__" f fd ps sp) (hr : Room (k + 1) X.A) : CallR X (.builtin "len") (rLenOwn C sp E0) := call_len_own c.ok c.mt c.b pass0 hr
theorem call_repr_cal (c : CalM X.prog X.w X.K X.mg X.base CX0 k C "__repr__" f fd ps sp) (hr : Room (k + 1) X.A) : CallR X (.builtin "repr") (rReprOwn C sp E0) := call_repr_own c.ok c.mt c.b pass0 hr
theorem op_eq_cal (c : CalM X.prog X.w X.K X.mg X.base CX0 k C "__eq__" f fd ps sp) (hr : Room k X.A) : OpR X (compareOp .Eq) (rEqOwn X.K C false sp E0) := op_eq_own c.ok c.mt c.b pass0 hr
theorem op_ne_cal (n : NeAt X.K C) (c : CalM X.prog X.w X.K X.mg X.base CX0 k C "__eq__" f fd ps sp) (hr : Room (k + 1) X.A) : OpR X (compareOp .NotEq) (rEqOwn X.K C true sp E0) := op_ne_own c.ok c.mt n.ne n.hm c.b pass0 hr
end
theorem NeAt.self {K : PySem.W.Frag} {C : Addr} (n : NeAt K C) : PySem.W.notFirst K C (.ref C) = true := by
  unfold PySem.W.notFirst
  rw [beq_self_eq_true, Bool.true_or]
theorem NeAt.ty {K : PySem.W.Frag} {C : Addr} (n : NeAt K C) {H : Hp} {a dx : Addr} {fs : List (Str × V)} (h : H a = some (.ins C dx fs)) : TyX K H (.ref a) (.ref C) :=
  .base (.ins h n.cl n.ha n.hn n.htk n.hm)
/-! ### texts as data -/
theorem dp_strs {K : PySem.W.Frag} {H : Hp} : ∀ (ys : List Str), DpAll K H (ys.map V.str) (ys.map PyData.str)
  | [] => .nil
  | n :: r => .cons (.str n) (dp_strs r)
theorem eqvAll_strs : ∀ (ys zs : List Str), PyData.eqvAll (ys.map PyData.str) (zs.map PyData.str) = decide (ys = zs)
  | [], [] => by simp [PyData.eqvAll]
  | [], _ :: _ => by simp [PyData.eqvAll]
  | _ :: _, [] => by simp [PyData.eqvAll]
  | y :: ys, z :: zs => by
    have ih := eqvAll_strs ys zs
    simp only [List.map_cons, PyData.eqvAll, PyData.eqv, ih]
    rw [Bool.eq_iff_iff]
    simp
theorem eqv_tups (ys zs : List Str) : PyData.eqv (.tuple (ys.map PyData.str)) (.tuple (zs.map PyData.str)) = decide (ys = zs) := by
  rw [← eqvAll_strs]
  simp only [PyData.eqv]
theorem eqv_lsts (ys zs : List Str) : PyData.eqv (.list (ys.map PyData.str)) (.list (zs.map PyData.str)) = decide (ys = zs) := by
  rw [← eqvAll_strs]
  simp only [PyData.eqv]
/-! ### words -/
/-- a text of one to eight small letters -/
def lowS (z : Str) : Prop := 1 ≤ z.length ∧ z.length ≤ 8 ∧ ∀ c ∈ z.cps.toList, lowB c = true
theorem low_of {z : Str} (h : wordB z = true) : lowS z := by
  unfold wordB at h
  simp only [Bool.and_eq_true, decide_eq_true_eq] at h
  obtain ⟨_, ⟨h1, h2⟩, h3⟩ := h
  exact ⟨by omega, by omega, fun c hc => List.all_eq_true.mp h3 c hc⟩
theorem strOk_low {z : Str} (h : ∀ c ∈ z.cps.toList, lowB c = true) : PyData.canLay0 (.str z) = true := by
  unfold PyData.canLay0 PyData.strOk
  rw [← Array.all_toList, List.all_eq_true]
  intro c hc
  have q := h c hc
  unfold lowB at q
  simp only [Bool.and_eq_true, decide_eq_true_eq] at q
  exact decide_eq_true (by omega)
def Words (ws : List Str) : Prop := ∀ z ∈ ws, wordB z = true
theorem flat_word {z : Str} (h : wordB z = true) : (PyData.str z).canLay0 = true ∧ (PyData.str z).depth = 0 := ⟨strOk_low (low_of h).2.2, by simp only [PyData.depth]⟩
theorem shaped_tupW {ws : List Str} (h : Words ws) : SeqAt.shaped (.tuple (ws.map PyData.str)) = true := shaped_tup fun d hd => by
  obtain ⟨z, hz, rfl⟩ := List.mem_map.mp hd
  exact flat_word (h z hz)
theorem shaped_lstW {ws : List Str} (h : Words ws) : SeqAt.shaped (.list (ws.map PyData.str)) = true := shaped_lst fun d hd => by
  obtain ⟨z, hz, rfl⟩ := List.mem_map.mp hd
  exact flat_word (h z hz)
theorem inV_str (z : Str) : ∀ (l : List Str), inV (.str z) (l.map V.str) = decide (z ∈ l)
  | [] => by rfl
  | y :: l => by
    have ih := inV_str z l
    unfold inV at ih ⊢
    rw [List.map_cons, List.any_cons, ih]
    show ((y == z) || decide (z ∈ l)) = decide (z ∈ y :: l)
    rw [Bool.eq_iff_iff]
    simp only [Bool.or_eq_true, beq_iff_eq, decide_eq_true_eq, List.mem_cons]
    constructor
    · rintro (e | e)
      · exact .inl e.symm
      · exact .inr e
    · rintro (e | e)
      · exact .inl e.symm
      · exact .inr e
theorem inV_mem {x : V} {xs ys : List V} (h : ∀ y, y ∈ xs ↔ y ∈ ys) : inV x xs = inV x ys := by
  unfold inV
  rw [Bool.eq_iff_iff, List.any_eq_true, List.any_eq_true]
  constructor
  · rintro ⟨y, hy, e⟩
    exact ⟨y, (h y).mp hy, e⟩
  · rintro ⟨y, hy, e⟩
    exact ⟨y, (h y).mpr hy, e⟩
theorem badFrom_words : ∀ (ws pre : List Str), Words ws → (∀ z ∈ ws, z ∉ pre) → ws.Nodup → badFrom (pre.map V.str) (ws.map V.str) = none
  | [], _, _, _, _ => rfl
  | z :: ws, pre, hw, hp, hn => by
    obtain ⟨n1, n2⟩ := List.nodup_cons.mp hn
    have h1 : wordV (.str z) = true := hw z (List.mem_cons_self ..)
    have h2 : inV (.str z) (pre.map V.str) = false := by
      rw [inV_str]
      exact decide_eq_false (hp z (List.mem_cons_self ..))
    have ih := badFrom_words ws (pre ++ [z]) (fun y hy => hw y (List.mem_cons_of_mem _ hy)) (fun y hy hm => by
      rcases List.mem_append.mp hm with hm | hm
      · exact hp y (List.mem_cons_of_mem _ hy) hm
      · rw [List.mem_singleton.mp hm] at hy
        exact n1 hy) n2
    show (if (!(wordV (.str z)) || inV (.str z) (pre.map V.str)) = true then some _ else badFrom (pre.map V.str ++ [.str z]) (ws.map V.str)) = none
    rw [h1, h2, if_neg (by decide)]
    rw [List.map_append] at ih
    exact ih
/-- one to three different words -/
structure Cols (ws : List Str) : Prop where
  w : Words ws
  nd : ws.Nodup
  l1 : 1 ≤ ws.length
  l3 : ws.length ≤ 3
theorem due_cols {ws : List Str} (c : Cols ws) : dueV (ws.map V.str) = .non := by
  have q := badFrom_words ws [] c.w (fun _ _ h => by cases h) c.nd
  unfold dueV
  have h1 := c.l1
  have h3 := c.l3
  rw [List.length_map, decide_eq_true (by omega : (1 : Int) ≤ (ws.length : Nat)), decide_eq_true (by omega : ((ws.length : Nat) : Int) ≤ 3), if_pos (by rfl)]
  rw [show badFrom [] (ws.map V.str) = none from q]
theorem ent_word {H : Hp} {ws : List Str} (h : Words ws) : ∀ x ∈ ws.map V.str, Ent H x := fun x hx => by
  obtain ⟨z, hz, rfl⟩ := List.mem_map.mp hx
  refine ⟨_, rfl, fun y e => ?_⟩
  cases e
  have := (low_of (h z hz)).2.1
  omega
/-! ### len, repr and == of a table -/
def spLenT (C : Addr) : Sp := fun vs H Q _ => ∃ (p : Addr) (xs : List V), vs = [.ref p] ∧ TabAt H C p xs ∧ Q (.int (xs.length : Nat)) H
def reprT (ys : List Str) : Str := ((Str.empty ++ "Table(") ++ Txt.join ", " ys) ++ ")"
def spReprT (C : Addr) : Sp := fun vs H Q _ => ∃ (p : Addr) (ys : List Str), vs = [.ref p] ∧ TabAt H C p (ys.map V.str) ∧ Cols ys ∧ Q (.str (reprT ys)) H
def spEqT (C : Addr) : Sp := fun vs H Q _ => ∃ (p : Addr) (y : V) (ys : List Str), vs = [.ref p, y] ∧ TabAt H C p (ys.map V.str) ∧ Words ys ∧
  ((∃ q zs, y = .ref q ∧ TabAt H C q (zs.map V.str) ∧ Words zs ∧ Q (.bl (decide (ys = zs))) H) ∨ (∃ t, kd H y = some t ∧ (t = .lst ∨ t = .tup ∨ t = .str) ∧ Q (.bl false) H))
theorem join_len (S : Str) (ys : List Str) : (Txt.join S ys).length ≤ (ys.map (·.length)).sum + ys.length * S.length := by
  show (Builtin.Str.glued S ys).length ≤ _
  rw [StrLaws.glued_eq_join]
  exact StrLaws.join_length_le S ys
theorem sum_words : ∀ {ws : List Str}, Words ws → (ws.map (·.length)).sum ≤ ws.length * 8
  | [], _ => Nat.zero_le _
  | z :: r, h => by
    have ih := sum_words (ws := r) fun y hy => h y (List.mem_cons_of_mem _ hy)
    have := (low_of (h z (List.mem_cons_self ..))).2.1
    simp only [List.map_cons, List.sum_cons, List.length_cons]
    omega
end Own

namespace Own
open PySem PySem.Spec PyProof.Rows L2
def abcL : List Str := ["a", "b", "c", "d", "e", "f", "g", "h", "i", "j", "k", "l", "m", "n", "o", "p", "q", "r", "s", "t", "u", "v", "w", "x", "y", "z"]
theorem abc_signs : signsV "abcdefghijklmnopqrstuvwxyz" = abcL.map V.str := by decide +kernel
theorem abc_low : ∀ z ∈ abcL, z.length = 1 ∧ ∀ c ∈ z.cps.toList, lowB c = true := by decide +kernel
theorem abc_nd : abcL.Nodup := by decide +kernel
theorem abc_kept : ∀ z ∈ abcL, z ∉ keptL := by decide +kernel
theorem cps_app (a b : Str) : (a ++ b).cps.toList = a.cps.toList ++ b.cps.toList := by
  show (a.cps ++ b.cps).toList = _
  exact Array.toList_append
theorem len_cps (a : Str) : a.cps.toList.length = a.length := Array.length_toList
theorem low_app {a b : Str} (ha : ∀ c ∈ a.cps.toList, lowB c = true) (hb : ∀ c ∈ b.cps.toList, lowB c = true) : ∀ c ∈ (a ++ b).cps.toList, lowB c = true := fun c hc => by
  rw [cps_app] at hc
  rcases List.mem_append.mp hc with hc | hc
  · exact ha c hc
  · exact hb c hc
theorem low_cut {z : Str} {lo hi : Option Int} (h : ∀ c ∈ z.cps.toList, lowB c = true) : ∀ c ∈ (cutS z lo hi).cps.toList, lowB c = true := fun c hc => by
  unfold cutS at hc
  exact h c (List.mem_of_mem_drop (List.mem_of_mem_take hc))
theorem len_cutS (z : Str) (lo hi : Option Int) : (cutS z lo hi).length = min (HT.sIx z.length z.length hi - HT.sIx z.length 0 lo) (z.length - HT.sIx z.length 0 lo) := by
  show (((z.cps.toList.drop (HT.sIx z.length 0 lo)).take (HT.sIx z.length z.length hi - HT.sIx z.length 0 lo)).toArray).size = _
  rw [List.size_toArray, List.length_take, List.length_drop, Array.length_toList] <;> rfl
theorem len_takeS {z : Str} {i : Nat} (h : i ≤ z.length) : (cutS z none (some (i : Int))).length = i := by
  rw [len_cutS, HT.sIx_none, HT.sIx_nat]
  omega
theorem len_dropS {z : Str} {i : Nat} (h : i ≤ z.length) : (cutS z (some (i : Int)) none).length = z.length - i := by
  rw [len_cutS, HT.sIx_none, HT.sIx_nat]
  omega
theorem low_swap {z x : Str} {d : Int} (hz : lowS z) (hx : x.length = 1) (hl : ∀ c ∈ x.cps.toList, lowB c = true) (d0 : 0 ≤ d) (d1 : d < z.length) : lowS (cutS z none (some d) ++ x ++ cutS z (some (d + 1)) none) := by
  obtain ⟨j, rfl⟩ : ∃ j : Nat, d = j := ⟨d.toNat, by omega⟩
  have e1 : (cutS z none (some (j : Int))).length = j := len_takeS (by omega)
  have e2 : (cutS z (some ((j : Int) + 1)) none).length = z.length - (j + 1) := by
    have q := len_dropS (z := z) (i := j + 1) (by omega)
    exact q
  obtain ⟨h1, h2, h3⟩ := hz
  refine ⟨?_, ?_, low_app (low_app (low_cut h3) hl) (low_cut h3)⟩
  · rw [Str.length_append, Str.length_append]
    omega
  · rw [Str.length_append, Str.length_append]
    omega
theorem word_of {z : Str} (h : lowS z) (hk : z ∉ keptL) : wordB z = true := by
  obtain ⟨h1, h2, h3⟩ := h
  unfold wordB
  rw [inV_str, decide_eq_false hk]
  simp only [Bool.not_false, Bool.true_and, Bool.and_eq_true, decide_eq_true_eq]
  exact ⟨⟨by omega, by omega⟩, List.all_eq_true.mpr h3⟩
theorem not_kept {z : Str} (h : wordB z = true) : z ∉ keptL := fun hm => by
  unfold wordB at h
  rw [inV_str, decide_eq_true hm] at h
  simp at h
theorem nodup_sub : ∀ (l m : List Str), l.Nodup → (∀ x ∈ l, x ∈ m) → l.length ≤ m.length
  | [], _, _, _ => Nat.zero_le _
  | x :: l, m, hn, h => by
    obtain ⟨n1, n2⟩ := List.nodup_cons.mp hn
    have hx := h x (List.mem_cons_self ..)
    have ih := nodup_sub l (m.erase x) n2 fun y hy => (List.mem_erase_of_ne (fun e : y = x => n1 (by rw [← e]; exact hy))).mpr (h y (List.mem_cons_of_mem _ hy))
    rw [List.length_erase_of_mem hx] at ih
    have := List.length_pos_of_mem hx
    rw [List.length_cons]
    omega
/-- a letter that is not among three -/
theorem abc_free {us : List Str} (h : us.length ≤ 3) : ∃ z ∈ abcL, z ∉ us := by
  by_cases q : ∃ z ∈ abcL, z ∉ us
  · exact q
  · have q2 : ∀ x ∈ abcL, x ∈ us := fun x hx => Classical.byContradiction fun n => q ⟨x, hx, n⟩
    have := nodup_sub abcL us abc_nd q2
    have e : abcL.length = 26 := rfl
    omega
theorem filter_snoc {α : Type} {xs : List α} {i : Nat} {x : α} (p : α → Bool) (h : xs[i]? = some x) : (xs.take (i + 1)).filter p = (xs.take i).filter p ++ if p x = true then [x] else [] := by
  rw [take_snoc h, List.filter_append, List.filter_cons, List.filter_nil]
theorem atI_last {α : Type} {xs : List α} {v : α} (h : xs[xs.length - 1]? = some v) : atI xs (-1) = some v := by
  have hj : xs.length - 1 < xs.length := (List.getElem?_eq_some_iff.mp h).1
  have e : ixN xs.length (-1) = some (xs.length - 1) := by
    unfold ixN
    rw [if_neg (by omega), if_pos (by omega)]
    congr 1
    omega
  unfold atI
  rw [e]
  exact h
/-- a new word -/
def spWord (K : PySem.W.Frag) : Sp := fun vs H Q _ => ∃ (b u : Addr) (us : List Str), vs = [.ref b, .ref u] ∧ Bag H b ∧ u ≠ b ∧ SqL K H u (us.map V.str) ∧ Words us ∧ us.length ≤ 3 ∧
  ∀ (z : Str) (H' : Hp), wordB z = true → z ∉ us → But b H H' → Bag H' b → Q (.str z) H'
end Own

namespace Own
open PySem PySem.Spec PyProof.Rows L2
section
variable {X : Cx} {x : Str} {B : Addr} {e : Expr} {es : List Expr} {ta : TA} {p1 p2 pos : Pos} {pl : Sem Bool}
/-- the base class at B says no __init__ of its own: the built-in's is found -/
structure BaseI (K : PySem.W.Frag) (B : Addr) : Prop where
  rd : ClX.CRead K B (.type "type")
  ini : PySem.W.findCls K (.ref B) (.type "type") "__init__" = some (.val (.builtin "ValueError.__init__"))
/-- B.__init__(self, ..) -/
theorem pe_binit (b : BaseI X.K B) (hg : Gl X x) (hm : X.mg x = some (.ref B)) (ha : PA X (e :: es) ta)
    (hc : eval (.Call (.Attribute (.Name x p1) "__init__" p2) (e :: es) [] pos) X.env = (do
      let ov ← eval (.Name x p1) X.env
      standAt p2.atName
      let (f, first) ← holding [ov] (getMethod ov "__init__" pl)
      callWith pos f first (backTo pos (starEach (e :: es) X.env)) (backToKw pos (keywordEach [] X.env))) := by rfl)
    (hdb : (x == ("__debug__" : Str)) = false := by decide)
    (he : starEach (e :: es) X.env = (false, eval e X.env) :: starEach es X.env := by rfl) (hpl : (backTo pos (starEach es X.env)).any (·.1) = false := by rfl) :
    PE X (.Call (.Attribute (.Name x p1) "__init__" p2) (e :: es) [] pos) (tVeI X.K ta) := by
  refine ⟨fun pins s σ H Q I h => ?_⟩
  refine PySem.W.methodCall_KW (ld_glob I hg hm ?_ hdb) hc
  refine PySem.W.method_cls I.kIn b.rd.ga (PySem.W.cls_value I.kIn b.rd.rd b.ini (by decide +kernel) ?_)
  show wpAny _ _ (callWith pos (Value.builtin "ValueError.__init__") [] (backTo pos (starEach (e :: es) X.env)) []) _ _ _
  refine PyProof.Rows.callWith_method1 (thn (ha.run pos pins _ σ H _ (I.tok _) h) fun us s1 ⟨vs, H1, I1, r1, a, C, ws, ev, hl, T, ea, q⟩ => ?_) he hpl
  subst ev
  cases r1 with
  | @cons _ u0 _ ur ra rw' =>
    obtain rfl : u0 = Value.ref a := ra
    have hlen : ur.length ≤ sizeLine := by
      rw [← Paired.length rw', sizeLine_eq]
      omega
    exact oinit_ok T I1 ea hlen fun s' J => ⟨.non, H1, J, rfl, q⟩
end
/-! ### isinstance of the exception that the suite holds -/
def rIsX (K : PySem.W.Frag) (a : Addr) (cls : Value) (d : Option Addr) : List V → Hp → VK → Prop := fun xs H Q => ∃ (D dd : Addr) (fs : List (Str × V)) (c : V) (u : Value) (b : Bool), cls = .ref D ∧ d = some dd ∧ H dd = some (.xd fs) ∧ ExcC K D ∧ xs = [.ref a, c] ∧ ClsV c u ∧ PySem.W.kitOne K (.ref D) u = some b ∧ Q (.bl b) H
def rIsXT (K : PySem.W.Frag) (a : Addr) (cls : Value) (d : Option Addr) : List V → Hp → VK → Prop := fun xs H Q => ∃ (D dd : Addr) (fs : List (Str × V)) (tp : Addr) (cs : List V) (us : List Value) (b : Bool), cls = .ref D ∧ d = some dd ∧ H dd = some (.xd fs) ∧ ExcC K D ∧ xs = [.ref a, .ref tp] ∧ H tp = some (.tup cs) ∧ Paired ClsV cs us ∧ PySem.W.kitAny K (.ref D) us = some b ∧ Q (.bl b) H
section
variable {X : Cx} {a : Addr} {oe : Obj} {cls : Value} {d : Option Addr} {pn : List (Addr × Obj)}
theorem held_at {pins : List (Addr × Obj)} {σ : L2.St} {H : Hp} {s : Shared} {D dd : Addr} {fs : List (Str × V)} (I : Inv (X.suite a ((a, oe) :: pn)) pins σ H s) (hz : Zc (.ref D) (some dd) oe) (hf : ∃ vs, oe.data = .fields vs) (ea : H dd = some (.xd fs)) :
    ∃ od, PySem.W.InstAt s.heap a oe D (some od) := by
  obtain ⟨ha, _⟩ := I.pin (a, oe) (List.mem_append_left _ List.mem_cons_self)
  obtain ⟨vs, hd⟩ := hf
  have hx : ObjOk X.prog X.w H s.heap dd (.xd fs) := I.hok dd _ ea
  obtain ⟨mA, hns, hr⟩ := hx
  obtain ⟨od, ho, hl⟩ := lookIn_ns hns
  exact ⟨od, ha, hz.1, by unfold PySem.W.notCls; rw [hd] <;> rfl, by rw [hz.2]; exact ho⟩
theorem kit_held {K : PySem.W.Frag} {D x : Addr} {ox : Obj} {od : Option Obj} (c : ExcC K D) : PySem.W.KitX K (.ref x) (.ref D) (fun h => PySem.W.InstAt h x ox D od) :=
  PySem.W.kitx_exc (by obtain ⟨cd, hc, _⟩ := PySem.W.any_some c.hd; rw [hc]; rfl) c.hg c.hk c.hs c.ha c.hn c.ht c.hm
theorem call_isX (hz : Zc cls d oe) (hf : ∃ vs, oe.data = .fields vs) : CallR (X.suite a ((a, oe) :: pn)) (.builtin "isinstance") (rIsX X.K a cls d) := by
  intro pins s σ H xs us Q I r h
  obtain ⟨D, dd, fs, c, u, b, rfl, rfl, ea, E, rfl, k, e, q⟩ := h
  obtain ⟨od, J⟩ := held_at I hz hf ea
  obtain ⟨u1, u2, rfl, r1, r2⟩ := vals2 r
  cases r1
  have e2 := k.eq r2
  subst e2
  exact PySem.W.kia_one (kit_held E) I.kIn J e (fun z => nomatch z) fun tk => ⟨.bl b, H, I.tok tk, rfl, q⟩
theorem call_isXT (hz : Zc cls d oe) (hf : ∃ vs, oe.data = .fields vs) : CallR (X.suite a ((a, oe) :: pn)) (.builtin "isinstance") (rIsXT X.K a cls d) := by
  intro pins s σ H xs us Q I r h
  obtain ⟨D, dd, fs, tp, cs, ws, b, rfl, rfl, ea, E, rfl, hT, k, e, q⟩ := h
  obtain ⟨od, J⟩ := held_at I hz hf ea
  obtain ⟨u1, u2, rfl, r1, r2⟩ := vals2 r
  cases r1
  cases (show u2 = Value.ref tp from r2)
  obtain ⟨_, its, rv, o, h1, h2, n, h3⟩ := (show ObjOk X.prog X.w H s.heap tp (.tup cs) from I.hok tp _ hT)
  have e3 := ClsV.all k rv
  subst e3
  obtain ⟨oc, oda, dt, sl⟩ := o
  simp only at h2 h3
  subst h2 h3
  exact PySem.W.kia_tup (kit_held E) I.kIn J h1 e (fun z => nomatch z) fun tk => ⟨.bl b, H, I.tok tk, rfl, q⟩
end
/-! ### own exception classes, by name -/
structure CalE (P : Program) (w : World) (K : PySem.W.Frag) (mg : Str → Option Value) (base : Heap) (CX : CXT) (k : Nat) (x : Str) (C f : Addr) (fd : FuncData) (ps : List Str) (sp : Sp) : Prop where
  ok : FnOk P w K mg base CX k f fd ps sp
  cls : OexC K C
  ini : PySem.W.findIn K (.ref C) "__init__" = some (some (.ref f))
  fn : PySem.W.typeIn K (.ref f) = some (.type "function")
  at_ : mg x = some (.ref C)
  b : Binds K fd ps []
section
variable {X : Cx} {k : Nat} {x : Str} {C f : Addr} {fd : FuncData} {ps : List Str} {sp : Sp} {e : Expr} {es : List Expr} {t : TA} {p pos pos2 : Pos} {W : WX}
theorem ps_raiseE (c : CalE X.prog X.w X.K X.mg X.base CX0 k x C f fd ps sp) (hr : Room (k + 1) X.A) (hc : X.calm = true) (tk : Takes X W) (ha : PA X (e :: es) t)
    (hg : Gl X x := by rfl) (hdb : (x == ("__debug__" : Str)) = false := by decide) (he : starEach (e :: es) X.env = (false, eval e X.env) :: starEach es X.env := by rfl) (hpl : (backTo pos (starEach es X.env)).any (·.1) = false := by rfl) :
    PS X (.Raise (some (.Call (.Name x p) (e :: es) [] pos)) none pos2) (fun _ σ H => tMkO C sp [] t σ H fun cls d H' => W cls d σ H') :=
  ps_raise hc tk (pmk_oex c.cls c.ini c.fn c.ok hr c.b .nil pass0 hg c.at_ ha hdb he hpl)
/-- C(..), C's __init__ may raise; the wish of it at these locals -/
def tMakeS (C : Addr) (sp : Sp) (E : L2.St → XK) (t : TA) : TE := fun σ H Q => t σ H fun vs H1 => ∀ x dx, H1 x = none → H1 dx = none → dx ≠ x → sp (.ref x :: vs) (upd (upd H1 dx (.own x)) x (.ins C dx [])) (fun v H2 => v = .non ∧ Q (.ref x) H2) (E σ)
theorem pe_mkrX (c : CalI X.prog X.w X.K X.mg X.base (L2.CX X.prog X.w) k x C f fd ps sp) (hr : Room (k + 1) X.A) (tk : Takes X W) (ha : PA X (e :: es) t)
    (hg : Gl X x := by rfl) (hdb : (x == ("__debug__" : Str)) = false := by decide) (he : starEach (e :: es) X.env = (false, eval e X.env) :: starEach es X.env := by rfl) (hpl : (backTo pos (starEach es X.env)).any (·.1) = false := by rfl) :
    PE X (.Call (.Name x p) (e :: es) [] pos) (tMakeS C sp (fun σ cls d H => W cls d σ H) t) := by
  refine ⟨fun pins s σ H Q I h => wpAny_Call_Name_kw (ld_glob I hg c.at_ ?_ hdb)⟩
  refine PySem.W.callWith_K (h₀ := X.base) I.ok.mod.kin c.mkr.kp (thn (ha.run pos pins s σ H _ I h) fun us s1 ⟨vs, H1, I1, r, q⟩ => ⟨I1.kIn, ?_⟩) he hpl
  have q1 := q (s1.heap.objs.size + 1) s1.heap.objs.size (I1.hok.fresh (Nat.le_succ _)) (I1.hok.fresh (Nat.le_refl _)) (Nat.ne_of_lt (Nat.lt_succ_self _))
  have I2 := Inv.made (C := C) I1
  have r2 : Vals (V.ref (s1.heap.objs.size + 1) :: vs) (Value.ref (s1.heap.objs.size + 1) :: us) := .cons rfl r
  have hl : (Value.ref (s1.heap.objs.size + 1) :: us ++ []).length = ps.length := by
    rw [List.append_nil, ← r2.length]
    exact c.ok.len _ _ _ _ q1
  have bt := c.b _ (Value.ref (s1.heap.objs.size + 1) :: us) I2.kIn hl
  rw [List.append_nil] at bt
  show wpAny _ _ (call (.ref C) us) _ _ _
  refine wpAny_call (make_map (f := f) I1.kIn c.mkr.makes c.mkr.init (beq_iff_eq.mp c.mkr.fn) (codeAny_mono (c.ok.run _ X.stack _ _ ⟨Value.ref (s1.heap.objs.size + 1) :: us, []⟩ _ _ _ _ (hr.make C us []) (I2.env0.make C us []) bt r2 q1) fun z s' hz => ?_))
  match z, hz with
  | .error er, hz => exact tk er s' (XE.of_call I2 (fun _ _ _ h => h) hz)
  | .ok (.ret u), hz =>
    obtain ⟨v, H', I3, rv, ev, q3⟩ := I2.after hz
    subst ev
    exact ⟨rv, V.ref (s1.heap.objs.size + 1), H', I3, rfl, q3⟩
end
end Own
namespace Own
open PySem PySem.Spec PyProof.Rows L2
theorem pe_cal0 {X : Cx} {k : Nat} {x : Str} {f : Addr} {fd : FuncData} {ps : List Str} {sp : Sp} {p pos : Pos} (c : Cal X.prog X.w X.K X.mg X.base CX0 k x f fd ps sp) (hr : Room k X.A) (hg : Gl X x := by rfl) (hdb : (x == ("__debug__" : Str)) = false := by decide) :
    PE X (.Call (.Name x p) [] [] pos) (tCall sp [] E0 tNil) := pe_call0 c.ok hr hg c.at_ c.kp c.b .nil pass0 hdb
/-! ### the errors' own promises -/
/-- copied(v), v no list, no tuple -/
def spCopied : Sp := fun vs H Q _ => ∃ (v : V) (t : Kd), vs = [v] ∧ kd H v = some t ∧ t ≠ .lst ∧ t ≠ .tup ∧ Q v H
/-- self.at = a small number -/
def spErrAt (C : Addr) : Sp := fun vs H Q _ => ∃ (a : Addr) (i : Int), vs = [.ref a, .int i] ∧ H a = some (exo a C none) ∧ -1 ≤ i ∧ i ≤ 2 ∧ ∀ d, H d = none → d ≠ a → Q .non (upd (upd H d (exd d [("at", .int i)])) a (exo a C (some d)))
/-- Table(columns), or the error -/
def spTableX (K : PySem.W.Frag) (C CB : Addr) : Sp := fun vs H Q E => ∃ (p a dx : Addr) (xs : List V), vs = [.ref p, .ref a] ∧ H p = some (.ins C dx []) ∧ SqB K H a xs ∧ xs.length ≤ 1000 ∧ (∀ x ∈ xs, Ent H x) ∧
  (dueV xs = .non → ∀ H', But p H H' → TabAt H' C p xs → Q .non H') ∧ (∀ i, dueV xs = .int i → ∀ d H', Same H H' → H' d = some (.xd [("at", .int i)]) → E (.ref CB) (some d) H')
theorem badFrom_le : ∀ (xs pre : List V) (i : Nat), badFrom pre xs = some i → i < pre.length + xs.length
  | [], _, _, h => by cases h
  | x :: r, pre, i, h => by
    unfold badFrom at h
    split at h
    · cases h
      rw [List.length_cons]
      omega
    · have := badFrom_le r (pre ++ [x]) i h
      rw [List.length_append, List.length_singleton] at this
      rw [List.length_cons]
      omega
theorem due_cases (xs : List V) : dueV xs = .non ∨ ∃ i : Int, dueV xs = .int i ∧ -1 ≤ i ∧ i ≤ 2 := by
  unfold dueV
  split
  · rename_i h
    simp only [Bool.and_eq_true, decide_eq_true_eq] at h
    cases e : badFrom [] xs with
    | none => exact .inl rfl
    | some i =>
      have q := badFrom_le xs [] i e
      rw [List.length_nil] at q
      exact .inr ⟨i, rfl, by omega, by omega⟩
  · exact .inr ⟨-1, rfl, by decide, by decide⟩
end Own
namespace Own
open PySem PySem.Spec PyProof.Rows L2
theorem put_same {H H1 : Hp} {g : Addr} {o : HO} (s : Same H H1) (hg : H g = none) : Same H (upd H1 g o) := fun x u e => by
  rw [upd_ne (ne_of_none e hg)]
  exact s x u e
theorem made_same {H H1 : Hp} {p dx C : Addr} (np : H p = none) (ndx : H dx = none) (B : But p (upd (upd H dx (.own p)) p (.ins C dx [])) H1) : Same H H1 := fun q o e => by
  refine B q o (ne_of_none e np) ?_
  rw [upd_ne (ne_of_none e np), upd_ne (ne_of_none e ndx)]
  exact e
end Own

namespace Own
open PySem PySem.Spec PyProof.Rows L2
/-! ### the law's def, asked where nothing is being shown: repr of data -/
/-- as FnOk, at the place where laws are called -/
def Asked (P : Program) (w : World) (K : PySem.W.Frag) (mg : Str → Option Value) (base : Heap) (f : Addr) (fd : FuncData) (ps : List Str) (sp : Sp) : Prop :=
  ∀ (s : Shared) (H : Hp) (us : List Value) (vs : List V) (Q : VK), Env0 P w K mg base callerA [] s H → BindsTo s fd ⟨us, []⟩ (ps.zip us) → Vals vs us → sp vs H Q E0 →
    codeAny (model P w) callerA (.call (.ref f) ⟨us, []⟩) (CR CX0 [] P w H s Q E0) s
theorem asked_of {P : Program} {w : World} {K : PySem.W.Frag} {mg : Str → Option Value} {base : Heap} {x qual : Str} {params : Arguments} {body : List Stmt} {scope : Scope} {f : Addr} {fd : FuncData} {N ps : List Str} {k : Nat} {sp : Sp}
    (F : FunD K x qual params body scope [] [] f fd) (S : FnScope N ps scope) (hr : Room (k + 1) callerA) (len : ∀ vs H Q E, sp vs H Q E → vs.length = ps.length)
    (hbody : ∀ (cdv : Value) (s : Shared) (H : Hp) (vs : List V) (Q : VK), Room k (callerA.deeper (envOfC qual scope s.heap.objs.size f cdv)) → (callerA.deeper (envOfC qual scope s.heap.objs.size f cdv)).guards = some [] → sp vs H Q E0 →
      ∃ t, PSs (cxOf CX0 P w K mg base N qual scope f cdv callerA [] s H E0) body t ∧ t { nx := fun _ H' => Q .non H', rt := Q } (L2.start N vs) H) : Asked P w K mg base f fd ps sp := by
  obtain ⟨oc, od, dV, kV, doc, pm, an, cdv, ct, osl, rfl, lk, hcd, _, _⟩ := F.ex
  intro s H us vs Q e0 hb r hsp
  have X0 : K.In s.heap := e0.mod.kin.keeps fun b o e => (e0.bs b o e).1
  have nl : s.heap.NoLimit := e0.mod.nolimit.keeps fun b o e => (e0.bs b o e).1
  refine codeAny_call_function hr.depth (X0 _ _ lk) rfl S.co S.gen rfl (PySem.W.codeRec_of X0 hcd) (hb _ _ _ _ ?_)
  refine wpAny_newFunctionEnv_cells S.kind (fun y hy => ?_) fun env he s1 ic => ?_
  · obtain ⟨n, v⟩ := y
    exact (S.par n (List.of_mem_zip hy).1).imp id fun q => ⟨q, PySem.W.cellsFrom_some _ _ _ (.inl q)⟩
  subst he
  refine ⟨nl.keeps ic.toInCall.keep, codeAny_func ?_⟩
  obtain ⟨t, ht, hq⟩ := hbody cdv s H vs Q (hr.deeper _) rfl hsp
  refine wpAny_mono (ht.run [] s1 (L2.start N vs) H _ (inv_start S hr.hd e0 (len _ _ _ _ hsp) r ic) hq) (fun fl s' hs => ?_) fun e s' hs => hs
  match fl, hs with
  | .ret u, ⟨v, σ', H', J, rv, q⟩ => exact ⟨v, H', J.os, J.bare, J.base, J.hok, rv, q⟩
  | .next, ⟨σ', H', J, q⟩ => exact ⟨V.non, H', J.os, J.bare, J.base, J.hok, rfl, q⟩
  | .brk, ⟨_, _, _, q⟩ => exact q.elim
  | .cont, ⟨_, _, _, q⟩ => exact q.elim
/-- repr of a list or a tuple of data -/
def rReprD (K : PySem.W.Frag) : List V → Hp → VK → Prop := fun xs H Q => ∃ (a : Addr) (d : PyData), xs = [.ref a] ∧ Dp K H (.ref a) d ∧ d.showable = true ∧ d.hasDict = false ∧ d.depth ≤ 60 ∧ d.shown.length ≤ sizeLine ∧ Q (.str d.shown) H
theorem call_repr_data {X : Cx} (hu : X.A.units + 64 < cLine) (hg : X.A.guards = some []) : CallR X (.builtin "repr") (rReprD X.K) := by
  intro pins s σ H xs us Q I r h
  obtain ⟨a, d, rfl, hd, h1, h2, h3, h4, q⟩ := h
  obtain ⟨u, rfl, ru⟩ := vals1 r
  cases ru
  obtain ⟨as, rd⟩ := Dp.reads I d (.ref a) (.ref a) hd rfl
  refine repr_of_reads' rd h1 (fun e => by rw [h2] at e; cases e) hg (by omega) (fun _ _ e => e) (fun h' u tk hk => ?_) h4
  exact ⟨.str d.shown, H, I.kept (t' := tk) hk, ⟨_, rfl⟩, q⟩
/-! ### the end of a law whose def is asked so -/
theorem asked_call {P : Program} {w : World} {K : PySem.W.Frag} {mg mb : Str → Option Value} {fa a : Addr} {fd : FuncData} {x : Str} {sp : Sp} {s1 : Shared} {vs : List Value} {ns : List Int}
    (KX : K.In s1.heap) (hns : s1.heap.Ns mainGlobals mg) (hb : s1.heap.Ns builtinsNs mb) (hbb : ∀ x : Str, x ≠ "__name__" → mb x = bootBuiltins x) (hlim : s1.heap.NoLimit) (hg : s1.gens = #[])
    (ha : s1.heap.get? a = some { cls := .type "list", data := .seq vs.toArray }) (hi : IntsAre vs ns) (hl : ns.length ≤ sizeLine)
    (F : ∀ base : Heap, K.In base → base.Ns mainGlobals mg → Asked P w K mg base fa fd [x] sp) (hbind : ∀ (s : Shared) (u : Value), BindsTo s fd ⟨[u], []⟩ [(x, u)])
    (hsp : ∀ H : Hp, SqL K H a (ns.map V.int) → sp [.ref a] H (fun v _ => v = .bl true) E0) :
    codeAny (model P w) callerA (.call (.ref fa) ⟨[.ref a], []⟩) (fun r s' => r = .ok (.ret (.bool true)) ∧ OldK s1.heap s'.heap ∧ s'.os = s1.os ∧ AllBare s'.gens) s1 := by
  have rv := vals_ints hi
  have go : ∀ H : Hp, (∀ b, H b = none ∨ (b = a ∧ K.lookup a = none ∧ H b = some (.frz { cls := .type "list", data := .seq vs.toArray } (.lst (ns.map V.int))))) → SqL K H a (ns.map V.int) →
      codeAny (model P w) callerA (.call (.ref fa) ⟨[.ref a], []⟩) (fun r s' => r = .ok (.ret (.bool true)) ∧ OldK s1.heap s'.heap ∧ s'.os = s1.os ∧ AllBare s'.gens) s1 := by
    intro H hH hS
    have hok : HOk P w H s1.heap := fun b u z => by
      rcases hH b with q | ⟨rfl, _, q⟩
      · rw [q] at z
        cases z
      · rw [q] at z
        cases z
        exact ⟨ha, by rw [List.length_map]; exact hl, vs, _, rv, ha⟩
    have at_ : ∀ {b : Addr} {o : Obj}, s1.heap.get? b = some o → (b = a → K.lookup a = none → False) → (hidT s1.heap H).get? b = some o := fun {b o} e n => hidT_get e (by
      rcases hH b with q | ⟨q1, q2, _⟩
      · exact q
      · exact (n q1 q2).elim)
    have inK : K.In (hidT s1.heap H) := fun b o e => at_ (KX b o e) fun q1 q2 => by
      subst q1
      rw [q2] at e
      cases e
    have dic : ∀ {b : Addr} {m : Str → Option Value}, s1.heap.Ns b m → (hidT s1.heap H).Ns b m := fun {b m} ⟨o, es, ep, e, dd, r⟩ => ⟨o, es, ep, at_ e (fun q1 _ => by
      subst q1
      rw [ha] at e
      cases e
      cases dd), dd, r⟩
    have M : Mod K mg (hidT s1.heap H) := ⟨inK, dic hns, ⟨mb, dic hb, hbb⟩, let ⟨mc, h1, h2⟩ := hlim; ⟨mc, dic h1, h2⟩⟩
    have e0 : Env0 P w K mg (hidT s1.heap H) callerA [] s1 H := ⟨rfl, M, fun b o e => of_hidT e, Nat.le_of_eq (hidT_size _ _), trivial, (fun b z => by cases z), hok, .of_eq hg⟩
    refine codeAny_mono (F _ inK (dic hns) s1 H [.ref a] [.ref a] _ e0 (hbind s1 (.ref a)) (.cons rfl .nil) (hsp H hS)) fun r s' h => ?_
    match r, h with
    | .error e, h => exact h.elim
    | .ok (.ret u), ⟨v, H', os, bare, un, hok', r', q⟩ =>
      have q' : v = .bl true := q
      subst q'
      obtain rfl : u = Value.bool true := r'
      refine ⟨rfl, OldK.of_keep fun b o e => ?_, os, bare⟩
      rcases hH b with z | ⟨rfl, _, z⟩
      · exact un.keep b o e z (fun z => by cases z) (by simp)
      · obtain ⟨e2, _⟩ := hok' b _ (un.frzs b _ _ z)
        rw [ha] at e
        cases e
        exact e2
  cases hk : K.lookup a with
  | some o =>
    have e := KX a o hk
    rw [ha] at e
    cases e
    exact go (fun _ => none) (fun _ => .inl rfl) (.inr ⟨_, vs.toArray, _, hk, rfl, rfl, rfl, by rw [List.size_toArray, hi.length]; exact hl, by simpa using rv⟩)
  | none =>
    refine go (fun b => if b = a then some (.frz { cls := .type "list", data := .seq vs.toArray } (.lst (ns.map V.int))) else none) (fun b => ?_) (.inl (.inr ⟨{ cls := .type "list", data := .seq vs.toArray }, if_pos rfl⟩))
    by_cases q : b = a
    · exact .inr ⟨q, hk, if_pos q⟩
    · exact .inl (if_neg q)
theorem asked_walk {l : PySem.W.OpenLaw} {n : Nat} {q : Program} {loose : List Str} {XP : (Str → Option Value) → Heap → Prop} {YP : World → Heap → Prop} {d : DefRec} {x : Str}
    (hn : l.most = some n) (hn2 : n ≤ sizeLine) (hdf : d.params.defaults = [])
    (F : ∀ (w : World) (mg : Str → Option Value) (fa : Addr) (h : Heap), YP w h → h.Ns mainGlobals mg → mg d.name = some (.ref fa) →
      ∃ (K : PySem.W.Frag) (fd : FuncData) (sp : Sp), K.In h ∧ (∀ (s : Shared) (u : Value), BindsTo s fd ⟨[u], []⟩ [(x, u)]) ∧
        (∀ (H : Hp) (a : Addr) (ns : List Int), ns.length ≤ n → SqL K H a (ns.map V.int) → sp [.ref a] H (fun v _ => v = .bl true) E0) ∧
        ∀ base : Heap, K.In base → base.Ns mainGlobals mg → Asked l.prog w K mg base fa fd [x] sp) :
    PySem.W.WalkO q loose XP YP l.row.toRowW d [] (fun f vs => PySem.call f vs) := by
  refine Att.attach_call hn hdf fun w s0 s1 mg mb fa o pm cd doc a vs ns G Y ho hd hcd hmg hobj hints hlen hg => ?_
  obtain ⟨K, fd, sp, KX, hb, hsp, hF⟩ := F w mg fa _ Y G.T.g hmg
  exact asked_call KX G.T.g G.T.b G.T.builtins G.T.nolimit hg hobj hints (Nat.le_trans hlen hn2) hF hb (fun H hS => hsp H a ns hlen hS)
end Own

namespace Own
open PySem PySem.Spec PyProof.Rows L2
/-- all but these stays -/
def Buts (bs : List Addr) (H H' : Hp) : Prop := ∀ a o, a ∉ bs → H a = some o → H' a = some o
theorem Buts.of_same {bs : List Addr} {H H' : Hp} (s : Same H H') : Buts bs H H' := fun a o _ h => s a o h
theorem Buts.of_but {bs : List Addr} {b : Addr} {H H' : Hp} (s : But b H H') (hb : b ∈ bs) : Buts bs H H' := fun a o n h => s a o (fun e => n (e ▸ hb)) h
theorem Buts.put {bs : List Addr} {l : Addr} {H : Hp} {o : HO} (hl : l ∈ bs) : Buts bs H (upd H l o) := fun a u n h => by
  rw [upd_ne (fun e : a = l => n (by rw [e]; exact hl))]
  exact h
mutual
/-- v stands for the data, on objects that are none of bs -/
def Dq (H : Hp) (bs : List Addr) : PyData → V → Prop
  | .none, v => v = .non
  | .bool x, v => v = .bl x
  | .int i, v => v = .int i
  | .str z, v => v = .str z ∧ z.length ≤ 100
  | .list ds, v => ∃ a xs, v = .ref a ∧ a ∉ bs ∧ H a = some (.lst xs) ∧ DqA H bs ds xs
  | .tuple ds, v => ∃ a xs, v = .ref a ∧ a ∉ bs ∧ H a = some (.tup xs) ∧ DqA H bs ds xs
  | .dict _, _ => False
def DqA (H : Hp) (bs : List Addr) : List PyData → List V → Prop
  | [], xs => xs = []
  | d :: ds, xs => ∃ y ys, xs = y :: ys ∧ Dq H bs d y ∧ DqA H bs ds ys
end
mutual
theorem Dq.dp {K : PySem.W.Frag} {H : Hp} {bs : List Addr} : ∀ (d : PyData) (v : V), Dq H bs d v → Dp K H v d
  | .none, v, h => by
    obtain rfl : v = .non := by simpa only [Dq] using h
    exact .non
  | .bool x, v, h => by
    obtain rfl : v = .bl x := by simpa only [Dq] using h
    exact .bl x
  | .int i, v, h => by
    obtain rfl : v = .int i := by simpa only [Dq] using h
    exact .int i
  | .str z, v, h => by
    obtain ⟨rfl, _⟩ : v = .str z ∧ z.length ≤ 100 := by simpa only [Dq] using h
    exact .str z
  | .list ds, v, h => by
    obtain ⟨a, xs, rfl, _, ha, hx⟩ : ∃ a xs, v = .ref a ∧ a ∉ bs ∧ H a = some (.lst xs) ∧ DqA H bs ds xs := by simpa only [Dq] using h
    exact .lst (SqL.of ha) (DqA.dp ds xs hx)
  | .tuple ds, v, h => by
    obtain ⟨a, xs, rfl, _, ha, hx⟩ : ∃ a xs, v = .ref a ∧ a ∉ bs ∧ H a = some (.tup xs) ∧ DqA H bs ds xs := by simpa only [Dq] using h
    exact .tup (SqT.of ha) (DqA.dp ds xs hx)
  | .dict _, v, h => by
    have h : False := by simpa only [Dq] using h
    exact h.elim
theorem DqA.dp {K : PySem.W.Frag} {H : Hp} {bs : List Addr} : ∀ (ds : List PyData) (xs : List V), DqA H bs ds xs → DpAll K H xs ds
  | [], xs, h => by
    obtain rfl : xs = [] := by simpa only [DqA] using h
    exact .nil
  | d :: ds, xs, h => by
    obtain ⟨y, ys, rfl, h1, h2⟩ : ∃ y ys, xs = y :: ys ∧ Dq H bs d y ∧ DqA H bs ds ys := by simpa only [DqA] using h
    exact .cons (Dq.dp d y h1) (DqA.dp ds ys h2)
end
mutual
theorem Dq.buts {H H' : Hp} {bs : List Addr} (B : Buts bs H H') : ∀ (d : PyData) (v : V), Dq H bs d v → Dq H' bs d v
  | .none, v, h => by simpa only [Dq] using h
  | .bool x, v, h => by simpa only [Dq] using h
  | .int i, v, h => by simpa only [Dq] using h
  | .str z, v, h => by simpa only [Dq] using h
  | .list ds, v, h => by
    obtain ⟨a, xs, rfl, n, ha, hx⟩ : ∃ a xs, v = .ref a ∧ a ∉ bs ∧ H a = some (.lst xs) ∧ DqA H bs ds xs := by simpa only [Dq] using h
    simp only [Dq]
    exact ⟨a, xs, rfl, n, B _ _ n ha, DqA.buts B ds xs hx⟩
  | .tuple ds, v, h => by
    obtain ⟨a, xs, rfl, n, ha, hx⟩ : ∃ a xs, v = .ref a ∧ a ∉ bs ∧ H a = some (.tup xs) ∧ DqA H bs ds xs := by simpa only [Dq] using h
    simp only [Dq]
    exact ⟨a, xs, rfl, n, B _ _ n ha, DqA.buts B ds xs hx⟩
  | .dict _, v, h => by
    have h : False := by simpa only [Dq] using h
    exact h.elim
theorem DqA.buts {H H' : Hp} {bs : List Addr} (B : Buts bs H H') : ∀ (ds : List PyData) (xs : List V), DqA H bs ds xs → DqA H' bs ds xs
  | [], xs, h => by simpa only [DqA] using h
  | d :: ds, xs, h => by
    obtain ⟨y, ys, rfl, h1, h2⟩ : ∃ y ys, xs = y :: ys ∧ Dq H bs d y ∧ DqA H bs ds ys := by simpa only [DqA] using h
    simp only [DqA]
    exact ⟨y, ys, rfl, Dq.buts B d y h1, DqA.buts B ds ys h2⟩
end
theorem Dq.ent {H : Hp} {bs : List Addr} : ∀ {d : PyData} {v : V}, Dq H bs d v → Ent H v
  | .none, v, h => by
    obtain rfl : v = .non := by simpa only [Dq] using h
    exact ⟨_, rfl, nofun⟩
  | .bool x, v, h => by
    obtain rfl : v = .bl x := by simpa only [Dq] using h
    exact ⟨_, rfl, nofun⟩
  | .int i, v, h => by
    obtain rfl : v = .int i := by simpa only [Dq] using h
    exact ⟨_, rfl, nofun⟩
  | .str z, v, h => by
    obtain ⟨rfl, q⟩ : v = .str z ∧ z.length ≤ 100 := by simpa only [Dq] using h
    exact ⟨_, rfl, fun y e => by cases e; omega⟩
  | .list ds, v, h => by
    obtain ⟨a, xs, rfl, n, ha, hx⟩ : ∃ a xs, v = .ref a ∧ a ∉ bs ∧ H a = some (.lst xs) ∧ DqA H bs ds xs := by simpa only [Dq] using h
    exact ⟨_, kd_lst ha, nofun⟩
  | .tuple ds, v, h => by
    obtain ⟨a, xs, rfl, n, ha, hx⟩ : ∃ a xs, v = .ref a ∧ a ∉ bs ∧ H a = some (.tup xs) ∧ DqA H bs ds xs := by simpa only [Dq] using h
    exact ⟨_, kd_tup ha, nofun⟩
  | .dict _, v, h => by
    have h : False := by simpa only [Dq] using h
    exact h.elim
/-! ### small data -/
structure Nice (d : PyData) : Prop where
  lay : d.canLay0 = true
  dep : d.depth ≤ 3
  sh : d.showable = true
  nd : d.hasDict = false
  sz : d.shown.length ≤ 200
theorem nice_word {z : Str} (h : wordB z = true) : Nice (.str z) := by
  obtain ⟨h1, h2, h3⟩ := low_of h
  refine ⟨strOk_low h3, by simp only [PyData.depth]; omega, by simp only [PyData.showable], by simp only [PyData.hasDict], ?_⟩
  have q := StrLaws.reprText_len z fun c hc => by
    have q := h3 c hc
    unfold lowB at q
    simp only [Bool.and_eq_true, decide_eq_true_eq] at q
    omega
  simp only [PyData.shown]
  omega
theorem nice_all : ∀ {ds : List PyData}, (∀ d ∈ ds, Nice d) → PyData.canLayAll0 ds = true ∧ PyData.depthAll ds ≤ 3 ∧ PyData.showableAll ds = true ∧ PyData.hasDictAll ds = false ∧ ((PyData.shownAll ds).map (·.length)).sum ≤ 200 * ds.length ∧ (PyData.shownAll ds).length = ds.length
  | [], _ => ⟨by simp only [PyData.canLayAll0], by simp only [PyData.depthAll]; omega, by simp only [PyData.showableAll], by simp only [PyData.hasDictAll], by simp [PyData.shownAll], by simp [PyData.shownAll]⟩
  | d :: r, h => by
    obtain ⟨h1, h2, h3, h4, h5⟩ := h d (List.mem_cons_self ..)
    obtain ⟨g1, g2, g3, g4, g5, g6⟩ := nice_all (ds := r) fun x hx => h x (List.mem_cons_of_mem _ hx)
    refine ⟨by simp only [PyData.canLayAll0, h1, g1, Bool.and_self], ?_, by simp only [PyData.showableAll, h3, g3, Bool.and_self], by simp only [PyData.hasDictAll, h4, g4, Bool.or_self], ?_, ?_⟩
    · simp only [PyData.depthAll]
      omega
    · simp only [PyData.shownAll, List.map_cons, List.sum_cons, List.length_cons]
      omega
    · simp only [PyData.shownAll, List.length_cons, g6]
theorem nice_list {ds : List PyData} (h : ∀ d ∈ ds, Nice d) (hl : ds.length ≤ 100) : SeqAt.shaped (.list ds) = true ∧ (PyData.list ds).showable = true ∧ (PyData.list ds).hasDict = false ∧ (PyData.list ds).depth ≤ 60 ∧ (PyData.list ds).shown.length ≤ sizeLine := by
  obtain ⟨g1, g2, g3, g4, g5, g6⟩ := nice_all h
  refine ⟨?_, by simp only [PyData.showable, g3], by simp only [PyData.hasDict, g4], by simp only [PyData.depth]; omega, ?_⟩
  · unfold SeqAt.shaped
    simp only [PyData.canLay0, PyData.depth, g1, Bool.true_and]
    exact decide_eq_true (by omega)
  · simp only [PyData.shown]
    have q := listText_len_le (PyData.shownAll ds)
    refine Nat.le_trans q ?_
    rw [sizeLine_eq, g6]
    omega
theorem dqA_len : ∀ {H : Hp} {bs : List Addr} {ds : List PyData} {xs : List V}, DqA H bs ds xs → ds.length = xs.length
  | H, bs, [], xs, h => by
    obtain rfl : xs = [] := by simpa only [DqA] using h
    rfl
  | H, bs, d :: ds, xs, h => by
    obtain ⟨y, ys, rfl, _, h2⟩ : ∃ y ys, xs = y :: ys ∧ Dq H bs d y ∧ DqA H bs ds ys := by simpa only [DqA] using h
    rw [List.length_cons, List.length_cons, dqA_len h2]
end Own
namespace Own
open PySem PySem.Spec PyProof.Rows L2
def fdV : V → PyData
  | .bl b => .bool b
  | .int i => .int i
  | .str z => .str z
  | _ => .none
def niceB (d : PyData) : Bool := d.canLay0 && decide (d.depth ≤ 3) && d.showable && !d.hasDict && decide (d.shown.length ≤ 200)
theorem niceB_ok {d : PyData} (h : niceB d = true) : Nice d := by
  unfold niceB at h
  simp only [Bool.and_eq_true, decide_eq_true_eq, Bool.not_eq_true'] at h
  obtain ⟨⟨⟨⟨h1, h2⟩, h3⟩, h4⟩, h5⟩ := h
  exact ⟨h1, h2, h3, h4, h5⟩
def okV (v : V) : Bool := flatV v && (match v with
  | .str z => decide (z.length ≤ 100)
  | _ => true) && niceB (fdV v)
theorem okV_nice {v : V} (h : okV v = true) : Nice (fdV v) := niceB_ok (Bool.and_eq_true_iff.mp h).2
theorem okV_dq {v : V} {H : Hp} {bs : List Addr} (h : okV v = true) : Dq H bs (fdV v) v := by
  obtain ⟨h1, _⟩ := Bool.and_eq_true_iff.mp h
  obtain ⟨h1, h2⟩ := Bool.and_eq_true_iff.mp h1
  cases v with
  | non => simp only [fdV, Dq]
  | bl b => simp only [fdV, Dq]
  | int b => simp only [fdV, Dq]
  | str z =>
    simp only [fdV, Dq]
    exact ⟨trivial, of_decide_eq_true h2⟩
  | _ => cases h1
example : okV (.int (10 ^ 30)) = true := by decide +kernel
example : okV (.str "a\n") = true := by decide +kernel
example : niceB (.tuple [.tuple [.str "a"], .int 1]) = true := by decide +kernel
end Own

namespace Own
/-! ### integers beside a row, among numbers: the plain mathematics -/
/-- the integers between lo and hi -/
def between (lo hi : Int) : List Int := (List.range (hi - lo - 1).toNat).map fun i : Nat => lo + 1 + (i : Int)
theorem mem_between {lo hi x : Int} : x ∈ between lo hi ↔ lo < x ∧ x < hi := by
  unfold between
  rw [List.mem_map]
  constructor
  · rintro ⟨i, hi', rfl⟩
    have := List.mem_range.mp hi'
    omega
  · rintro ⟨h1, h2⟩
    exact ⟨(x - lo - 1).toNat, List.mem_range.mpr (by omega), by omega⟩
theorem between_nodup (lo hi : Int) : (between lo hi).Nodup := by
  unfold between
  refine List.pairwise_map.mpr (List.Pairwise.imp ?_ List.nodup_range)
  intro a b h e
  exact h (by omega)
/-- the first integer between lo and hi that is not in the row -/
def freeIn (lo hi : Int) (r : List Int) : Option Int := (between lo hi).find? fun x => !(decide (x ∈ r))
theorem freeIn_some {lo hi x : Int} {r : List Int} (h : freeIn lo hi r = some x) : lo < x ∧ x < hi ∧ x ∉ r := by
  unfold freeIn at h
  have h1 := List.find?_some h
  have h2 := List.mem_of_find?_eq_some h
  simp only [Bool.not_eq_true', decide_eq_false_iff_not] at h1
  obtain ⟨h3, h4⟩ := mem_between.mp h2
  exact ⟨h3, h4, h1⟩
theorem freeIn_ex {lo hi v : Int} {r : List Int} (h1 : lo < v) (h2 : v < hi) (h3 : v ∉ r) : ∃ x, freeIn lo hi r = some x := by
  cases e : freeIn lo hi r with
  | some x => exact ⟨x, rfl⟩
  | none =>
    unfold freeIn at e
    have q := List.find?_eq_none.mp e v (mem_between.mpr ⟨h1, h2⟩)
    simp only [Bool.not_eq_true', decide_eq_false_iff_not, Decidable.not_not] at q
    exact absurd q h3
/-- the ends of the stretches: pairs of neighbours -/
def pairsOf : List Int → List (Int × Int)
  | a :: b :: r => (a, b) :: pairsOf (b :: r)
  | _ => []
def stretchL (ns : List Int) (room : Int) : List (Int × Int) := match ns with
  | [] => [(0, room + 1)]
  | n :: r => pairsOf ((n - room - 1) :: (n :: r) ++ [(n :: r).getLast (List.cons_ne_nil _ _) + room + 1])
/-- strictly ascending -/
def Asc (l : List Int) : Prop := l.Pairwise (· < ·)
theorem pairs_asc : ∀ {l : List Int} {a b : Int}, Asc l → (a, b) ∈ pairsOf l → a < b ∧ a ∈ l ∧ b ∈ l ∧ ∀ x ∈ l, x ≤ a ∨ b ≤ x
  | [], a, b, _, h => by simp [pairsOf] at h
  | [_], a, b, _, h => by simp [pairsOf] at h
  | c :: d :: r, a, b, hs, h => by
    unfold pairsOf at h
    have hs' := List.pairwise_cons.mp hs
    rcases List.mem_cons.mp h with e | h
    · cases e
      have hcd := hs'.1 d (List.mem_cons_self ..)
      refine ⟨hcd, List.mem_cons_self .., List.mem_cons_of_mem _ (List.mem_cons_self ..), fun x hx => ?_⟩
      rcases List.mem_cons.mp hx with rfl | hx
      · exact .inl (Int.le_refl _)
      · rcases List.mem_cons.mp hx with rfl | hx
        · exact .inr (Int.le_refl _)
        · exact .inr (Int.le_of_lt ((List.pairwise_cons.mp hs'.2).1 x hx))
    · obtain ⟨h1, h2, h3, h4⟩ := pairs_asc hs'.2 h
      refine ⟨h1, List.mem_cons_of_mem _ h2, List.mem_cons_of_mem _ h3, fun x hx => ?_⟩
      rcases List.mem_cons.mp hx with rfl | hx
      · exact .inl (Int.le_of_lt (hs'.1 a h2))
      · exact h4 x hx
/-- an integer between the first and the last of them, none of them, is in a stretch -/
theorem pairs_find : ∀ {l : List Int} {v f : Int}, Asc (f :: l) → f < v → (∃ x ∈ l, v < x) → v ∉ l → ∃ a b, (a, b) ∈ pairsOf (f :: l) ∧ a < v ∧ v < b
  | [], v, f, _, _, ⟨x, hx, _⟩, _ => by cases hx
  | d :: r, v, f, hs, h1, ⟨x, hx, h2⟩, hn => by
    have hs' := List.pairwise_cons.mp hs
    have hvd : v ≠ d := fun e => hn (by rw [e]; exact List.mem_cons_self ..)
    by_cases q : v < d
    · exact ⟨f, d, by unfold pairsOf; exact List.mem_cons_self .., h1, q⟩
    · have hx' : x ∈ r := by
        rcases List.mem_cons.mp hx with rfl | hx
        · exact absurd h2 q
        · exact hx
      obtain ⟨a, b, h3, h4, h5⟩ := pairs_find (l := r) (v := v) (f := d) hs'.2 (by omega) ⟨x, hx', h2⟩ (fun hm => hn (List.mem_cons_of_mem _ hm))
      exact ⟨a, b, by unfold pairsOf; exact List.mem_cons_of_mem _ h3, h4, h5⟩
theorem pairs_app : ∀ {l m : List Int} {p : Int × Int}, p ∈ pairsOf l → p ∈ pairsOf (l ++ m)
  | [], m, p, h => by simp [pairsOf] at h
  | [_], m, p, h => by simp [pairsOf] at h
  | c :: d :: r, m, p, h => by
    unfold pairsOf at h
    show p ∈ pairsOf (c :: d :: (r ++ m))
    unfold pairsOf
    rcases List.mem_cons.mp h with e | h
    · exact List.mem_cons.mpr (.inl e)
    · exact List.mem_cons_of_mem _ (pairs_app (l := d :: r) h)
theorem pairs_cons {c d : Int} {r : List Int} {p : Int × Int} (h : p ∈ pairsOf (d :: r)) : p ∈ pairsOf (c :: d :: r) := by
  unfold pairsOf
  exact List.mem_cons_of_mem _ h
theorem pairs_last : ∀ (n : Int) (l : List Int) (d : Int), ((n :: l).getLast (List.cons_ne_nil _ _), d) ∈ pairsOf ((n :: l) ++ [d])
  | n, [], d => by
    show (n, d) ∈ pairsOf [n, d]
    unfold pairsOf
    exact List.mem_cons_self ..
  | n, m :: l, d => by
    have ih := pairs_last m l d
    rw [List.getLast_cons (List.cons_ne_nil _ _)]
    exact pairs_cons ih
/-! ### alike -/
def Alike (ns r : List Int) (x y : Int) : Prop := (∀ n ∈ ns, (x < n ↔ y < n) ∧ (x = n ↔ y = n)) ∧ ∀ p ∈ r, (x = p ↔ y = p)
theorem Alike.refl {ns r : List Int} {x : Int} : Alike ns r x x := ⟨fun _ _ => ⟨Iff.rfl, Iff.rfl⟩, fun _ _ => Iff.rfl⟩
/-- what stands beside a row -/
def Spot (ns r : List Int) (x : Int) : Prop := x ∈ ns ∨ x ∈ r ∨ ∃ a b, (a, b) ∈ stretchL ns ((r.length : Int) + 1) ∧ freeIn a b r = some x
theorem asc_ends {n : Int} {l : List Int} {k : Int} (h : Asc (n :: l)) (hk : 0 < k) : Asc ((n - k) :: (n :: l) ++ [(n :: l).getLast (List.cons_ne_nil _ _) + k]) := by
  have hle : ∀ x ∈ n :: l, x ≤ (n :: l).getLast (List.cons_ne_nil _ _) := fun x hx => by
    have e := List.dropLast_concat_getLast (List.cons_ne_nil n l)
    have h2 : Asc ((n :: l).dropLast ++ [(n :: l).getLast (List.cons_ne_nil _ _)]) := by rw [e]; exact h
    rw [← e] at hx
    rcases List.mem_append.mp hx with hx | hx
    · exact Int.le_of_lt ((List.pairwise_append.mp h2).2.2 x hx _ (List.mem_singleton.mpr rfl))
    · rw [List.mem_singleton.mp hx]
      exact Int.le_refl _
  have hge : ∀ x ∈ n :: l, n ≤ x := fun x hx => by
    rcases List.mem_cons.mp hx with rfl | hx
    · exact Int.le_refl _
    · exact Int.le_of_lt ((List.pairwise_cons.mp h).1 x hx)
  refine List.pairwise_append.mpr ⟨List.pairwise_cons.mpr ⟨fun x hx => ?_, h⟩, List.pairwise_singleton _ _, fun x hx y hy => ?_⟩
  · have := hge x hx
    omega
  · rw [List.mem_singleton.mp hy]
    rcases List.mem_cons.mp hx with rfl | hx
    · have := hle n (List.mem_cons_self ..)
      omega
    · have := hle x hx
      omega
/-- every integer that is no number lies beyond the numbers or in a stretch: a stretch whose integers are alike to it -/
theorem stretch_of {ns : List Int} {room v : Int} (h : Asc ns) (hr : 0 < room) (hv : v ∉ ns) :
    ∃ a b, (a, b) ∈ stretchL ns room ∧ (∀ x, a < x → x < b → ∀ n ∈ ns, (v < n ↔ x < n) ∧ x ≠ n) ∧ ((a < v ∧ v < b ∧ a ∈ ns ∧ b ∈ ns) ∨ room ≤ b - a - 1) := by
  cases ns with
  | nil => exact ⟨0, room + 1, by unfold stretchL; exact List.mem_singleton.mpr rfl, fun _ _ _ n hn => (by cases hn), .inr (by omega)⟩
  | cons n l =>
    have ha := asc_ends h (k := room + 1) (by omega)
    have e1 : n - room - 1 = n - (room + 1) := by omega
    have e2 : (n :: l).getLast (List.cons_ne_nil _ _) + room + 1 = (n :: l).getLast (List.cons_ne_nil _ _) + (room + 1) := by omega
    have pick : ∀ {a b : Int}, (a, b) ∈ stretchL (n :: l) room → a < b ∧ ∀ x ∈ n :: l, x ≤ a ∨ b ≤ x := fun {a b} hm => by
      unfold stretchL at hm
      dsimp only at hm
      rw [e1, e2] at hm
      obtain ⟨h1, _, _, h4⟩ := pairs_asc ha hm
      exact ⟨h1, fun x hx => h4 x (List.mem_append_left _ (List.mem_cons_of_mem _ hx))⟩
    generalize hL : (n :: l).getLast (List.cons_ne_nil _ _) = L at *
    by_cases q1 : v < n
    · refine ⟨n - room - 1, n, by unfold stretchL; exact List.mem_cons_self .., fun x h1 h2 m hm => ?_, .inr (by omega)⟩
      have : n ≤ m := by
        rcases List.mem_cons.mp hm with rfl | hm
        · exact Int.le_refl _
        · exact Int.le_of_lt ((List.pairwise_cons.mp h).1 m hm)
      exact ⟨⟨fun _ => by omega, fun _ => by omega⟩, by omega⟩
    · by_cases q2 : ∃ x ∈ l, v < x
      · have hnv : n ≠ v := fun e => hv (by rw [← e]; exact List.mem_cons_self ..)
        obtain ⟨a, b, h1, h2, h3⟩ := pairs_find h (by omega) q2 (fun hm => hv (List.mem_cons_of_mem _ hm))
        obtain ⟨p1, p2, p3, p4⟩ := pairs_asc h h1
        refine ⟨a, b, ?_, fun x hx1 hx2 m hm => ?_, .inl ⟨h2, h3, p2, p3⟩⟩
        · unfold stretchL
          exact pairs_app (l := (n - room - 1) :: n :: l) (pairs_cons h1)
        · rcases p4 m hm with q | q
          · exact ⟨⟨fun _ => by omega, fun _ => by omega⟩, by omega⟩
          · exact ⟨⟨fun _ => by omega, fun _ => by omega⟩, by omega⟩
      · have hall : ∀ m ∈ n :: l, m < v := fun m hm => by
          have hne : m ≠ v := fun e => hv (by rw [← e]; exact hm)
          rcases List.mem_cons.mp hm with rfl | hm
          · omega
          · have : ¬ v < m := fun z => q2 ⟨m, hm, z⟩
            omega
        have hmax : ∀ m ∈ n :: l, m ≤ L := fun m hm => by
          have e := List.dropLast_concat_getLast (List.cons_ne_nil n l)
          have h2 : Asc ((n :: l).dropLast ++ [(n :: l).getLast (List.cons_ne_nil _ _)]) := by rw [e]; exact h
          rw [← e] at hm
          rcases List.mem_append.mp hm with hm | hm
          · rw [← hL]
            exact Int.le_of_lt ((List.pairwise_append.mp h2).2.2 m hm _ (List.mem_singleton.mpr rfl))
          · rw [List.mem_singleton.mp hm, hL]
            exact Int.le_refl _
        refine ⟨L, L + room + 1, ?_, fun x h1 h2 m hm => ?_, .inr (by omega)⟩
        · unfold stretchL
          dsimp only
          have q := pairs_cons (c := n - room - 1) (pairs_last n l ((n :: l).getLast (List.cons_ne_nil _ _) + room + 1))
          rw [hL] at q ⊢
          exact q
        · have g1 := hall m hm
          have g2 := hmax m hm
          exact ⟨⟨fun _ => by omega, fun _ => by omega⟩, by omega⟩
theorem pairs_tri {l : List Int} {a b c d : Int} (h : Asc l) (h1 : (a, b) ∈ pairsOf l) (h2 : (c, d) ∈ pairsOf l) : (a = c ∧ b = d) ∨ b ≤ c ∨ d ≤ a := by
  obtain ⟨p1, p2, p3, p4⟩ := pairs_asc h h1
  obtain ⟨q1, q2, q3, q4⟩ := pairs_asc h h2
  have g1 := p4 c q2
  have g2 := q4 a p2
  have g3 := p4 d q3
  have g4 := q4 b p3
  omega
/-- two stretches are the same, or a number parts them -/
theorem stretch_two {ns : List Int} {room a b c d : Int} (h : Asc ns) (hr : 0 < room) (h1 : (a, b) ∈ stretchL ns room) (h2 : (c, d) ∈ stretchL ns room) :
    (a = c ∧ b = d) ∨ (b ∈ ns ∧ b ≤ c) ∨ (d ∈ ns ∧ d ≤ a) := by
  cases ns with
  | nil =>
    unfold stretchL at h1 h2
    have e1 := List.mem_singleton.mp h1
    have e2 := List.mem_singleton.mp h2
    cases e1
    cases e2
    exact .inl ⟨rfl, rfl⟩
  | cons n l =>
    have ha := asc_ends h (k := room + 1) (by omega)
    unfold stretchL at h1 h2
    dsimp only at h1 h2
    have e1 : n - room - 1 = n - (room + 1) := by omega
    have e2 : (n :: l).getLast (List.cons_ne_nil _ _) + room + 1 = (n :: l).getLast (List.cons_ne_nil _ _) + (room + 1) := by omega
    rw [e1, e2] at h1 h2
    have key : ∀ {a b c d : Int}, (a, b) ∈ pairsOf ((n - (room + 1)) :: (n :: l) ++ [(n :: l).getLast (List.cons_ne_nil _ _) + (room + 1)]) → (c, d) ∈ pairsOf ((n - (room + 1)) :: (n :: l) ++ [(n :: l).getLast (List.cons_ne_nil _ _) + (room + 1)]) → b ≤ c → b ∈ n :: l := fun {a b c d} h1 h2 hbc => by
      obtain ⟨p1, p2, p3, p4⟩ := pairs_asc ha h1
      obtain ⟨q1, q2, q3, q4⟩ := pairs_asc ha h2
      generalize (n :: l).getLast (List.cons_ne_nil _ _) + (room + 1) = g at *
      have hlast : ∀ x ∈ (n - (room + 1)) :: (n :: l) ++ [g], x ≤ g := fun x hx => by
        rcases List.mem_append.mp hx with hx | hx
        · exact Int.le_of_lt ((List.pairwise_append.mp ha).2.2 x hx g (List.mem_singleton.mpr rfl))
        · rw [List.mem_singleton.mp hx]
          exact Int.le_refl _
      have hfirst : ∀ x ∈ (n - (room + 1)) :: (n :: l) ++ [g], n - (room + 1) ≤ x := fun x hx => by
        rcases List.mem_cons.mp hx with rfl | hx
        · exact Int.le_refl _
        · exact Int.le_of_lt ((List.pairwise_cons.mp ha).1 x hx)
      have g1 := hlast d q3
      have g2 := hfirst a p2
      rcases List.mem_append.mp p3 with hb | hb
      · rcases List.mem_cons.mp hb with hb | hb
        · omega
        · exact hb
      · have := List.mem_singleton.mp hb
        omega
    rcases pairs_tri ha h1 h2 with q | q | q
    · exact .inl q
    · exact .inr (.inl ⟨key h1 h2 q, q⟩)
    · exact .inr (.inr ⟨key h2 h1 q, q⟩)
theorem nodup_le : ∀ (l m : List Int), l.Nodup → (∀ x ∈ l, x ∈ m) → l.length ≤ m.length
  | [], _, _, _ => Nat.zero_le _
  | x :: l, m, hn, h => by
    obtain ⟨n1, n2⟩ := List.nodup_cons.mp hn
    have hx := h x (List.mem_cons_self ..)
    have ih := nodup_le l (m.erase x) n2 fun y hy => (List.mem_erase_of_ne (fun e : y = x => n1 (by rw [← e]; exact hy))).mpr (h y (List.mem_cons_of_mem _ hy))
    rw [List.length_erase_of_mem hx] at ih
    have := List.length_pos_of_mem hx
    rw [List.length_cons]
    omega
theorem between_length (lo hi : Int) : (between lo hi).length = (hi - lo - 1).toNat := by
  unfold between
  rw [List.length_map, List.length_range]
/-- where there is room for more than the row, an integer is free -/
theorem free_room {a b : Int} {r : List Int} (h : (r.length : Int) < b - a - 1) : ∃ x, freeIn a b r = some x := by
  by_cases q : ∃ x, a < x ∧ x < b ∧ x ∉ r
  · obtain ⟨x, h1, h2, h3⟩ := q
    exact freeIn_ex h1 h2 h3
  · have := nodup_le (between a b) r (between_nodup a b) fun x hx => by
      obtain ⟨h1, h2⟩ := mem_between.mp hx
      exact Classical.byContradiction fun n => q ⟨x, h1, h2, n⟩
    rw [between_length] at this
    omega
/-- beside a row each integer is alike to exactly one spot -/
theorem spot_one {ns r : List Int} (h : Asc ns) (v : Int) : ∃ s, Spot ns r s ∧ Alike ns r v s ∧ ∀ s', Spot ns r s' → Alike ns r v s' → s' = s := by
  by_cases h1 : v ∈ ns
  · exact ⟨v, .inl h1, Alike.refl, fun s' _ q => ((q.1 v h1).2.mp rfl)⟩
  by_cases h2 : v ∈ r
  · exact ⟨v, .inr (.inl h2), Alike.refl, fun s' _ q => ((q.2 v h2).mp rfl)⟩
  have hr : (0 : Int) < (r.length : Int) + 1 := by omega
  obtain ⟨a, b, hab, hal, hor⟩ := stretch_of h hr h1
  obtain ⟨s, hs⟩ : ∃ s, freeIn a b r = some s := by
    rcases hor with ⟨g1, g2, _, _⟩ | g
    · exact freeIn_ex g1 g2 h2
    · exact free_room (by omega)
  obtain ⟨s1, s2, s3⟩ := freeIn_some hs
  have as : Alike ns r v s := ⟨fun n hn => ⟨(hal s s1 s2 n hn).1, fun e => absurd (by rw [e]; exact hn) h1, fun e => absurd e (hal s s1 s2 n hn).2⟩, fun p hp => ⟨fun e => absurd (by rw [e]; exact hp) h2, fun e => absurd (by rw [e]; exact hp) s3⟩⟩
  refine ⟨s, .inr (.inr ⟨a, b, hab, hs⟩), as, fun s' hs' q => ?_⟩
  rcases hs' with hm | hm | ⟨c, d, hcd, hs'⟩
  · exact absurd (by rw [(q.1 s' hm).2.mpr rfl]; exact hm) h1
  · exact absurd (by rw [(q.2 s' hm).mpr rfl]; exact hm) h2
  · obtain ⟨t1, t2, t3⟩ := freeIn_some hs'
    rcases stretch_two h hr hab hcd with ⟨rfl, rfl⟩ | ⟨m1, m2⟩ | ⟨m1, m2⟩
    · rw [hs] at hs'
      exact (Option.some.inj hs').symm
    · have g1 := (as.1 b m1).1.mpr s2
      have g2 := (q.1 b m1).1.mp g1
      omega
    · have g1 := (q.1 d m1).1.mpr t2
      have g2 := (as.1 d m1).1.mp g1
      omega
/-! ### rows -/
/-- two integers lie alike among the numbers -/
def Side (ns : List Int) (x y : Int) : Prop := ∀ n ∈ ns, (x < n ↔ y < n) ∧ (x = n ↔ y = n)
/-- two rows of one kind -/
structure SameKind (ns r t : List Int) : Prop where
  len : r.length = t.length
  side : ∀ p ∈ r.zip t, Side ns p.1 p.2
  eqs : ∀ p ∈ r.zip t, ∀ q ∈ r.zip t, (p.1 = q.1 ↔ p.2 = q.2)
theorem zip_left {r t : List Int} (h : r.length = t.length) {x : Int} (hx : x ∈ r) : ∃ y, (x, y) ∈ r.zip t := by
  obtain ⟨i, hi, e⟩ := List.mem_iff_getElem.mp hx
  have hi2 : i < t.length := by omega
  refine ⟨t[i], ?_⟩
  have hz : i < (r.zip t).length := by rw [List.length_zip]; omega
  have q : (r.zip t)[i] = (r[i], t[i]) := List.getElem_zip
  rw [e] at q
  rw [← q]
  exact List.getElem_mem hz
theorem zip_right {r t : List Int} (h : r.length = t.length) {y : Int} (hy : y ∈ t) : ∃ x, (x, y) ∈ r.zip t := by
  obtain ⟨i, hi, e⟩ := List.mem_iff_getElem.mp hy
  have hi2 : i < r.length := by omega
  refine ⟨r[i], ?_⟩
  have hz : i < (r.zip t).length := by rw [List.length_zip]; omega
  have q : (r.zip t)[i] = (r[i], t[i]) := List.getElem_zip
  rw [e] at q
  rw [← q]
  exact List.getElem_mem hz
theorem zip_mem {r t : List Int} {p : Int × Int} (h : p ∈ r.zip t) : p.1 ∈ r ∧ p.2 ∈ t := by
  obtain ⟨a, b⟩ := p
  exact ⟨(List.of_mem_zip h).1, (List.of_mem_zip h).2⟩
theorem SameKind.nil {ns : List Int} : SameKind ns [] [] := ⟨rfl, fun p h => by simp at h, fun p h => by simp at h⟩
theorem SameKind.snoc {ns r t : List Int} {x y : Int} (h : SameKind ns r t) (s : Side ns x y) (e : ∀ p ∈ r.zip t, (x = p.1 ↔ y = p.2)) : SameKind ns (r ++ [x]) (t ++ [y]) := by
  have z : (r ++ [x]).zip (t ++ [y]) = r.zip t ++ [(x, y)] := by
    rw [List.zip_append h.len]
    rfl
  refine ⟨by rw [List.length_append, List.length_append, h.len]; rfl, fun p hp => ?_, fun p hp q hq => ?_⟩
  · rw [z] at hp
    rcases List.mem_append.mp hp with hp | hp
    · exact h.side p hp
    · rw [List.mem_singleton.mp hp]
      exact s
  · rw [z] at hp hq
    rcases List.mem_append.mp hp with hp | hp
    · rcases List.mem_append.mp hq with hq | hq
      · exact h.eqs p hp q hq
      · rw [List.mem_singleton.mp hq]
        have := e p hp
        exact ⟨fun z => (this.mp z.symm).symm, fun z => (this.mpr z.symm).symm⟩
    · rw [List.mem_singleton.mp hp]
      rcases List.mem_append.mp hq with hq | hq
      · exact e q hq
      · rw [List.mem_singleton.mp hq]
        exact ⟨fun _ => rfl, fun _ => rfl⟩
theorem SameKind.unsnoc {ns r t : List Int} {x y : Int} (h : SameKind ns (r ++ [x]) (t ++ [y])) : SameKind ns r t ∧ Side ns x y ∧ ∀ p ∈ r.zip t, (x = p.1 ↔ y = p.2) := by
  have hl : r.length = t.length := by
    have := h.len
    rw [List.length_append, List.length_append] at this
    simpa using this
  have z : (r ++ [x]).zip (t ++ [y]) = r.zip t ++ [(x, y)] := by
    rw [List.zip_append hl]
    rfl
  have hm : (x, y) ∈ (r ++ [x]).zip (t ++ [y]) := by rw [z]; exact List.mem_append_right _ (List.mem_singleton.mpr rfl)
  have hin : ∀ {p}, p ∈ r.zip t → p ∈ (r ++ [x]).zip (t ++ [y]) := fun hp => by rw [z]; exact List.mem_append_left _ hp
  exact ⟨⟨hl, fun p hp => h.side p (hin hp), fun p hp q hq => h.eqs p (hin hp) q (hin hq)⟩, h.side _ hm, fun p hp => h.eqs _ hm p (hin hp)⟩
theorem back_list {ns r t : List Int} (k : SameKind ns r t) : ∀ (l : List Int), l.Nodup → (∀ x ∈ l, x ∈ t) → ∃ l' : List Int, l'.length = l.length ∧ l'.Nodup ∧ ∀ y ∈ l', ∃ x ∈ l, (y, x) ∈ r.zip t
  | [], _, _ => ⟨[], rfl, List.nodup_nil, fun _ h => by cases h⟩
  | x :: l, hn, h => by
    obtain ⟨n1, n2⟩ := List.nodup_cons.mp hn
    obtain ⟨l', h1, h2, h3⟩ := back_list k l n2 fun y hy => h y (List.mem_cons_of_mem _ hy)
    obtain ⟨y, hy⟩ := zip_right k.len (h x (List.mem_cons_self ..))
    refine ⟨y :: l', by rw [List.length_cons, List.length_cons, h1], List.nodup_cons.mpr ⟨fun hm => ?_, h2⟩, fun z hz => ?_⟩
    · obtain ⟨x', hx', hz⟩ := h3 y hm
      have e : x = x' := (k.eqs _ hy _ hz).mp rfl
      exact n1 (by rw [e]; exact hx')
    · rcases List.mem_cons.mp hz with rfl | hz
      · exact ⟨x, List.mem_cons_self .., hy⟩
      · obtain ⟨x', hx', q⟩ := h3 z hz
        exact ⟨x', List.mem_cons_of_mem _ hx', q⟩
/-- beside a row's like each integer has its one spot -/
theorem spot_like {ns r t : List Int} (h : Asc ns) (k : SameKind ns r t) (v : Int) :
    ∃ s, Spot ns t s ∧ (Side ns v s ∧ ∀ p ∈ r.zip t, (v = p.1 ↔ s = p.2)) ∧ ∀ s', Spot ns t s' → Side ns v s' → (∀ p ∈ r.zip t, (v = p.1 ↔ s' = p.2)) → s' = s := by
  by_cases h1 : v ∈ ns
  · refine ⟨v, .inl h1, ⟨fun _ _ => ⟨Iff.rfl, Iff.rfl⟩, fun p hp => ?_⟩, fun s' _ q _ => (q v h1).2.mp rfl⟩
    have := (k.side p hp v h1).2
    exact ⟨fun e => (this.mp e.symm).symm, fun e => (this.mpr e.symm).symm⟩
  by_cases h2 : v ∈ r
  · obtain ⟨y, hy⟩ := zip_left k.len h2
    refine ⟨y, .inr (.inl (zip_mem hy).2), ⟨k.side _ hy, fun p hp => k.eqs _ hy p hp⟩, fun s' _ _ q => (q _ hy).mp rfl⟩
  have hr : (0 : Int) < (t.length : Int) + 1 := by omega
  obtain ⟨a, b, hab, hal, hor⟩ := stretch_of h hr h1
  by_cases hfree : ∃ s, freeIn a b t = some s
  · obtain ⟨s, hs⟩ := hfree
    obtain ⟨s1, s2, s3⟩ := freeIn_some hs
    have as : Side ns v s := fun n hn => ⟨(hal s s1 s2 n hn).1, fun e => absurd (by rw [e]; exact hn) h1, fun e => absurd e (hal s s1 s2 n hn).2⟩
    refine ⟨s, .inr (.inr ⟨a, b, hab, hs⟩), ⟨as, fun p hp => ⟨fun e => absurd (by rw [e]; exact (zip_mem hp).1) h2, fun e => absurd (by rw [e]; exact (zip_mem hp).2) s3⟩⟩, fun s' hs' q qz => ?_⟩
    rcases hs' with hm | hm | ⟨c, d, hcd, hs'⟩
    · exact absurd (by rw [(q s' hm).2.mpr rfl]; exact hm) h1
    · obtain ⟨x, hx⟩ := zip_right k.len hm
      exact absurd (by rw [(qz _ hx).mpr rfl]; exact (zip_mem hx).1) h2
    · obtain ⟨t1, t2, t3⟩ := freeIn_some hs'
      rcases stretch_two h hr hab hcd with ⟨rfl, rfl⟩ | ⟨m1, m2⟩ | ⟨m1, m2⟩
      · rw [hs] at hs'
        exact (Option.some.inj hs').symm
      · have g1 := (as b m1).1.mpr s2
        have g2 := (q b m1).1.mp g1
        omega
      · have g1 := (q d m1).1.mpr t2
        have g2 := (as d m1).1.mp g1
        omega
  · have hall : ∀ x ∈ between a b, x ∈ t := fun x hx => by
      obtain ⟨g1, g2⟩ := mem_between.mp hx
      exact Classical.byContradiction fun n => hfree (freeIn_ex g1 g2 n)
    rcases hor with ⟨g1, g2, ga, gb⟩ | g
    · obtain ⟨l', q1, q2, q3⟩ := back_list k (between a b) (between_nodup a b) hall
      have := nodup_le (v :: l') (between a b) (List.nodup_cons.mpr ⟨fun hm => by
          obtain ⟨x, _, hx⟩ := q3 v hm
          exact h2 (zip_mem hx).1, q2⟩) fun y hy => by
        rcases List.mem_cons.mp hy with rfl | hy
        · exact mem_between.mpr ⟨g1, g2⟩
        · obtain ⟨x, hx, hz⟩ := q3 y hy
          obtain ⟨e1, e2⟩ := mem_between.mp hx
          have sa := k.side _ hz a ga
          have sb := k.side _ hz b gb
          refine mem_between.mpr ⟨?_, sb.1.mpr e2⟩
          have n1 : ¬ y < a := fun z => by have := sa.1.mp z; omega
          have n2 : y ≠ a := fun z => by have := sa.2.mp z; omega
          omega
      rw [List.length_cons, q1] at this
      omega
    · have := free_room (r := t) (a := a) (b := b) (by omega)
      exact absurd this hfree
/-! ### all kinds -/
/-- the rows of k columns that stand for their kinds; sp says the spots beside a row, in some order -/
def rowsOf (sp : List Int → List Int) : Nat → List (List Int)
  | 0 => [[]]
  | k + 1 => (rowsOf sp k).flatMap fun r => (sp r).map fun s => r ++ [s]
theorem rows_len {sp : List Int → List Int} : ∀ {k : Nat} {r : List Int}, r ∈ rowsOf sp k → r.length = k
  | 0, r, h => by
    unfold rowsOf at h
    rw [List.mem_singleton.mp h]
    rfl
  | k + 1, r, h => by
    unfold rowsOf at h
    obtain ⟨t, ht, h⟩ := List.mem_flatMap.mp h
    obtain ⟨s, hs, rfl⟩ := List.mem_map.mp h
    rw [List.length_append, rows_len ht]
    rfl
/-- each row is of one kind with exactly one of them -/
theorem kind_one {ns : List Int} {sp : List Int → List Int} (h : Asc ns) (hsp : ∀ r s, s ∈ sp r ↔ Spot ns r s) : ∀ (k : Nat) (v : List Int), v.length = k → ∃ t ∈ rowsOf sp k, SameKind ns v t ∧ ∀ t' ∈ rowsOf sp k, SameKind ns v t' → t' = t
  | 0, v, hv => by
    obtain rfl : v = [] := List.length_eq_zero_iff.mp hv
    refine ⟨[], by unfold rowsOf; exact List.mem_singleton.mpr rfl, SameKind.nil, fun t' ht' _ => ?_⟩
    unfold rowsOf at ht'
    exact List.mem_singleton.mp ht'
  | k + 1, v, hv => by
    obtain ⟨w, x, rfl⟩ : ∃ w x, v = w ++ [x] := ⟨v.dropLast, v.getLast (fun e => by rw [e] at hv; cases hv), (List.dropLast_concat_getLast _).symm⟩
    have hw : w.length = k := by
      rw [List.length_append] at hv
      simpa using hv
    obtain ⟨t, ht, kt, ut⟩ := kind_one h hsp k w hw
    obtain ⟨s, hs, ⟨s1, s2⟩, us⟩ := spot_like h kt x
    refine ⟨t ++ [s], ?_, kt.snoc s1 s2, fun t' ht' kt' => ?_⟩
    · unfold rowsOf
      exact List.mem_flatMap.mpr ⟨t, ht, List.mem_map.mpr ⟨s, (hsp t s).mpr hs, rfl⟩⟩
    · unfold rowsOf at ht'
      obtain ⟨u, hu, ht'⟩ := List.mem_flatMap.mp ht'
      obtain ⟨z, hz, rfl⟩ := List.mem_map.mp ht'
      obtain ⟨ku, sz, ez⟩ := kt'.unsnoc
      obtain rfl := ut u hu ku
      rw [us z ((hsp u z).mp hz) sz ez]
/-- and they are all different -/
theorem rows_nodup {sp : List Int → List Int} (hn : ∀ r, (sp r).Nodup) : ∀ k, (rowsOf sp k).Nodup
  | 0 => by unfold rowsOf; exact List.nodup_cons.mpr ⟨by simp, List.nodup_nil⟩
  | k + 1 => by
    unfold rowsOf
    have ih := rows_nodup hn k
    have gen : ∀ l : List (List Int), l.Nodup → (l.flatMap fun r => (sp r).map fun s => r ++ [s]).Nodup := by
      intro l
      induction l with
      | nil => intro _; exact List.nodup_nil
      | cons r l ih =>
        intro hl
        obtain ⟨n1, n2⟩ := List.nodup_cons.mp hl
        rw [List.flatMap_cons]
        have m1 : ((sp r).map fun s => r ++ [s]).Nodup := by
          refine List.pairwise_map.mpr (List.Pairwise.imp ?_ (hn r))
          intro a b hab e
          have e2 : [a] = [b] := List.append_cancel_left e
          cases e2
          exact hab rfl
        refine List.nodup_append.mpr ⟨m1, ih n2, ?_⟩
        intro x hx y hy e
        obtain ⟨s, hs, e1⟩ := List.mem_map.mp hx
        obtain ⟨t, ht, hy⟩ := List.mem_flatMap.mp hy
        obtain ⟨z, hz, e2⟩ := List.mem_map.mp hy
        have q : r = t := by
          have := congrArg List.dropLast (e1.trans (e.trans e2.symm))
          rwa [List.dropLast_concat, List.dropLast_concat] at this
        exact n1 (by rw [q]; exact ht)
    exact gen _ ih
theorem between_split {lo x hi : Int} (h1 : lo < x) (h2 : x < hi) : between lo hi = between lo x ++ x :: between x hi := by
  obtain ⟨a, ha⟩ : ∃ a : Nat, (x - lo - 1) = a := ⟨(x - lo - 1).toNat, by omega⟩
  obtain ⟨b, hb⟩ : ∃ b : Nat, (hi - x - 1) = b := ⟨(hi - x - 1).toNat, by omega⟩
  have e : (hi - lo - 1).toNat = a + (b + 1) := by omega
  unfold between
  rw [e, show (x - lo - 1).toNat = a by omega, show (hi - x - 1).toNat = b by omega, List.range_add, List.map_append]
  congr 1
  rw [List.map_map, List.range_succ_eq_map, List.map_cons, List.map_map]
  congr 1
  · show lo + 1 + ((a + 0 : Nat) : Int) = x
    omega
  · refine List.map_congr_left fun i _ => ?_
    show lo + 1 + ((a + (i + 1) : Nat) : Int) = x + 1 + (i : Int)
    omega
theorem freeIn_first {lo hi x : Int} {r : List Int} (h1 : lo < x) (h2 : x < hi) (h3 : x ∉ r) (h4 : ∀ y, lo < y → y < x → y ∈ r) : freeIn lo hi r = some x := by
  unfold freeIn
  rw [between_split h1 h2, List.find?_append]
  have e1 : (between lo x).find? (fun x => !(decide (x ∈ r))) = none := List.find?_eq_none.mpr fun y hy => by
    obtain ⟨g1, g2⟩ := mem_between.mp hy
    rw [decide_eq_true (h4 y g1 g2)]
    decide
  rw [e1, List.find?_cons, decide_eq_false h3]
  rfl
theorem freeIn_none {lo hi : Int} {r : List Int} (h : ∀ y, lo < y → y < hi → y ∈ r) : freeIn lo hi r = none := by
  unfold freeIn
  refine List.find?_eq_none.mpr fun y hy => ?_
  obtain ⟨g1, g2⟩ := mem_between.mp hy
  rw [decide_eq_true (h y g1 g2)]
  decide
def freeL (ns r : List Int) : List Int := (stretchL ns ((r.length : Int) + 1)).filterMap fun p => freeIn p.1 p.2 r
end Own

namespace Own
open PySem PySem.Spec PyProof.Rows L2
theorem nice_low {z : Str} (h : lowS z) : Nice (.str z) := by
  obtain ⟨h1, h2, h3⟩ := h
  refine ⟨strOk_low h3, by simp only [PyData.depth]; omega, by simp only [PyData.showable], by simp only [PyData.hasDict], ?_⟩
  have q := StrLaws.reprText_len z fun c hc => by
    have q := h3 c hc
    unfold lowB at q
    simp only [Bool.and_eq_true, decide_eq_true_eq] at q
    omega
  simp only [PyData.shown]
  omega
theorem dqA_low {H : Hp} {bs : List Addr} : ∀ {ws : List Str}, (∀ z ∈ ws, lowS z) → DqA H bs (ws.map PyData.str) (ws.map V.str)
  | [], _ => by simp only [List.map_nil, DqA]
  | z :: r, h => by
    have ih := dqA_low (H := H) (bs := bs) (ws := r) fun y hy => h y (List.mem_cons_of_mem _ hy)
    have hz := (h z (List.mem_cons_self ..)).2.1
    rw [List.map_cons, List.map_cons]
    unfold DqA
    refine ⟨_, _, rfl, ?_, ih⟩
    unfold Dq
    exact ⟨rfl, by omega⟩
theorem dqA_mem {H : Hp} {bs : List Addr} {v : V} : ∀ {ds : List PyData} {xs : List V}, DqA H bs ds xs → v ∈ xs → ∃ d ∈ ds, Dq H bs d v
  | [], xs, h, hm => by
    obtain rfl : xs = [] := by simpa only [DqA] using h
    cases hm
  | d :: ds, xs, h, hm => by
    obtain ⟨y, ys, rfl, h1, h2⟩ : ∃ y ys, xs = y :: ys ∧ Dq H bs d y ∧ DqA H bs ds ys := by simpa only [DqA] using h
    rcases List.mem_cons.mp hm with rfl | hm
    · exact ⟨d, List.mem_cons_self .., h1⟩
    · obtain ⟨e, he, q⟩ := dqA_mem h2 hm
      exact ⟨e, List.mem_cons_of_mem _ he, q⟩
theorem dqA_set {H : Hp} {bs : List Addr} {v : V} {d : PyData} (hv : Dq H bs d v) : ∀ {ds : List PyData} {xs : List V} (j : Nat), DqA H bs ds xs → DqA H bs (ds.set j d) (xs.set j v)
  | [], xs, j, h => by
    obtain rfl : xs = [] := by simpa only [DqA] using h
    simp only [List.set_nil, DqA]
  | e :: ds, xs, 0, h => by
    obtain ⟨y, ys, rfl, h1, h2⟩ : ∃ y ys, xs = y :: ys ∧ Dq H bs e y ∧ DqA H bs ds ys := by simpa only [DqA] using h
    simp only [List.set_cons_zero, DqA]
    exact ⟨_, _, rfl, hv, h2⟩
  | e :: ds, xs, j + 1, h => by
    obtain ⟨y, ys, rfl, h1, h2⟩ : ∃ y ys, xs = y :: ys ∧ Dq H bs e y ∧ DqA H bs ds ys := by simpa only [DqA] using h
    have ih := dqA_set hv j h2
    simp only [List.set_cons_succ, DqA]
    exact ⟨_, _, rfl, h1, ih⟩
theorem dqA_ent {H : Hp} {bs : List Addr} {ds : List PyData} {xs : List V} (h : DqA H bs ds xs) : ∀ x ∈ xs, Ent H x := fun x hx => let ⟨_, _, q⟩ := dqA_mem h hx; Dq.ent q
theorem pickIH {P : Int → Hp → Prop} (R : Int → Hp → Prop) {G : Prop} (main : (∀ o H, R o H → P o H) → G) (rest : ∀ o H, R o H → P o H) : G := main rest
theorem pickVH {P : V → Hp → Prop} (R : V → Hp → Prop) {G : Prop} (main : (∀ o H, R o H → P o H) → G) (rest : ∀ o H, R o H → P o H) : G := main rest
def spEntries : Sp := fun vs H Q _ => ∃ b, vs = [.ref b] ∧ Bag H b ∧ ∀ (l : Addr) (xs : List V) (ds : List PyData) (H' : Hp), H l = none → l ≠ b → H' l = some (.lst xs) → DqA H' [b, l] ds xs → (∀ d ∈ ds, Nice d) → xs.length ≤ 6 → But b H H' → Bag H' b → Q (.ref l) H'
end Own
namespace Own
open PySem PySem.Spec PyProof.Rows L2
def placeD (x n : Int) : PyData := .tuple [.bool (decide (x < n)), .bool (decide (x = n))]
def spPlace (K : PySem.W.Frag) : Sp := fun vs H Q _ => ∃ (a : Addr) (ns : List Int) (x : Int), vs = [.ref a, .int x] ∧ SqT K H a (ns.map V.int) ∧ ns.length ≤ 100 ∧
  ∀ (l : Addr) (acc : List V) (H' : Hp), Same H H' → H' l = some (.lst acc) → DqA H' [l] (ns.map (placeD x)) acc → Q (.ref l) H'
def spEquals (K : PySem.W.Frag) : Sp := fun vs H Q _ => ∃ (a : Addr) (ns : List Int) (x : Int), vs = [.ref a, .int x] ∧ SqT K H a (ns.map V.int) ∧ ns.length ≤ 100 ∧
  ∀ (l : Addr) (H' : Hp), Same H H' → H' l = some (.lst (ns.map fun n => V.bl (decide (x = n)))) → Q (.ref l) H'
theorem dqA_snoc {H : Hp} {bs : List Addr} {v : V} {d : PyData} (hv : Dq H bs d v) : ∀ {ds : List PyData} {xs : List V}, DqA H bs ds xs → DqA H bs (ds ++ [d]) (xs ++ [v])
  | [], xs, h => by
    obtain rfl : xs = [] := by simpa only [DqA] using h
    simp only [List.nil_append, DqA]
    exact ⟨_, _, rfl, hv, rfl⟩
  | e :: ds, xs, h => by
    obtain ⟨y, ys, rfl, h1, h2⟩ : ∃ y ys, xs = y :: ys ∧ Dq H bs e y ∧ DqA H bs ds ys := by simpa only [DqA] using h
    have ih := dqA_snoc hv h2
    simp only [List.cons_append, DqA]
    exact ⟨_, _, rfl, h1, ih⟩
end Own
namespace Own
open PySem PySem.Spec PyProof.Rows L2
def pairDt (p : Int × Int) : PyData := .tuple [.int p.1, .int p.2]
end Own
namespace Own
open PySem PySem.Spec PyProof.Rows L2
def spStretches (K : PySem.W.Frag) : Sp := fun vs H Q _ => ∃ (a : Addr) (ns : List Int) (room : Int), vs = [.ref a, .int room] ∧ SqT K H a (ns.map V.int) ∧ ns.length ≤ 100 ∧
  ∀ (l : Addr) (acc : List V) (H' : Hp), Same H H' → H l = none → H' l = some (.lst acc) → DqA H' [l] ((stretchL ns room).map pairDt) acc → Q (.ref l) H'
theorem pairsOf_len : ∀ (l : List Int), (pairsOf l).length = l.length - 1
  | [] => rfl
  | [_] => rfl
  | a :: b :: r => by
    unfold pairsOf
    rw [List.length_cons, pairsOf_len (b :: r)]
    rfl
theorem pairsOf_get : ∀ {l : List Int} {i : Nat} {a b : Int}, l[i]? = some a → l[i + 1]? = some b → (pairsOf l)[i]? = some (a, b)
  | [], i, a, b, h, _ => by cases h
  | [x], i, a, b, _, h => by
    rw [List.getElem?_cons_succ] at h
    cases h
  | x :: y :: r, 0, a, b, h1, h2 => by
    rw [List.getElem?_cons_zero] at h1
    rw [List.getElem?_cons_succ, List.getElem?_cons_zero] at h2
    cases h1
    cases h2
    unfold pairsOf
    rfl
  | x :: y :: r, i + 1, a, b, h1, h2 => by
    rw [List.getElem?_cons_succ] at h1
    rw [List.getElem?_cons_succ] at h2
    unfold pairsOf
    rw [List.getElem?_cons_succ]
    exact pairsOf_get h1 h2
def spFree (K : PySem.W.Frag) : Sp := fun vs H Q _ => ∃ (a b : Addr) (ns r : List Int), vs = [.ref a, .ref b] ∧ SqT K H a (ns.map V.int) ∧ ns.length ≤ 100 ∧ SqT K H b (r.map V.int) ∧ r.length ≤ 100 ∧
  ∀ (l : Addr) (H' : Hp), Same H H' → H' l = some (.lst ((freeL ns r).map V.int)) → Q (.ref l) H'
theorem inV_int (z : Int) : ∀ (l : List Int), inV (.int z) (l.map V.int) = decide (z ∈ l)
  | [] => by rfl
  | y :: l => by
    have ih := inV_int z l
    unfold inV at ih ⊢
    rw [List.map_cons, List.any_cons, ih]
    show ((y == z) || decide (z ∈ l)) = decide (z ∈ y :: l)
    rw [Bool.eq_iff_iff]
    simp only [Bool.or_eq_true, beq_iff_eq, decide_eq_true_eq, List.mem_cons]
    exact ⟨fun h => h.imp Eq.symm id, fun h => h.imp Eq.symm id⟩
theorem flat_ints (l : List Int) : (l.map V.int).all flatV = true := by
  rw [List.all_map]
  exact List.all_eq_true.mpr fun _ _ => rfl
theorem upd_id {H : Hp} {a : Addr} {o : HO} (h : H a = some o) : upd H a o = H := by
  funext b
  by_cases e : b = a
  · rw [e, upd_same, h]
  · rw [upd_ne e]
theorem dqA_get {H : Hp} {bs : List Addr} {v : V} : ∀ {ds : List PyData} {xs : List V} {i : Nat}, DqA H bs ds xs → xs[i]? = some v → ∃ d, ds[i]? = some d ∧ Dq H bs d v
  | [], xs, i, h, hm => by
    obtain rfl : xs = [] := by simpa only [DqA] using h
    cases hm
  | d :: ds, xs, i, h, hm => by
    obtain ⟨y, ys, rfl, h1, h2⟩ : ∃ y ys, xs = y :: ys ∧ Dq H bs d y ∧ DqA H bs ds ys := by simpa only [DqA] using h
    cases i with
    | zero =>
      rw [List.getElem?_cons_zero] at hm
      cases hm
      exact ⟨d, rfl, h1⟩
    | succ i =>
      rw [List.getElem?_cons_succ] at hm
      obtain ⟨e, he, q⟩ := dqA_get h2 hm
      exact ⟨e, by rw [List.getElem?_cons_succ]; exact he, q⟩
theorem pairDt_at {H : Hp} {bs : List Addr} {p : Int × Int} {v : V} (h : Dq H bs (pairDt p) v) : ∃ t, v = .ref t ∧ t ∉ bs ∧ H t = some (.tup [.int p.1, .int p.2]) := by
  unfold pairDt Dq at h
  obtain ⟨t, xs, rfl, n, ht, hx⟩ := h
  simp only [DqA, Dq] at hx
  obtain ⟨y, ys, rfl, rfl, z, zs, rfl, rfl, rfl⟩ := hx
  exact ⟨t, rfl, n, ht⟩
end Own

namespace Own
open PySem PySem.Spec PyProof.Rows L2
/-! ### what is no list stays -/
def Lsts (H H' : Hp) : Prop := ∀ a o, H a = some o → (∀ xs, o ≠ .lst xs) → H' a = some o
theorem Lsts.refl {H : Hp} : Lsts H H := fun _ _ h _ => h
theorem Lsts.trans {H H1 H2 : Hp} (x : Lsts H H1) (y : Lsts H1 H2) : Lsts H H2 := fun a o h n => y a o (x a o h n) n
theorem Lsts.same {H H' : Hp} (x : Same H H') : Lsts H H' := fun a o h _ => x a o h
theorem Lsts.but {b : Addr} {H H' : Hp} (hb : Bag H b) (x : But b H H') : Lsts H H' := fun a o h n => x a o (fun e => by
  obtain ⟨u, v, hb, _⟩ := hb
  rw [e, hb] at h
  cases h
  exact n _ rfl) h
theorem Lsts.put {l : Addr} {H : Hp} {xs : List V} {o : HO} (hl : H l = some (.lst xs)) : Lsts H (upd H l o) := fun a u h n => by
  rw [upd_ne (fun e => by
    rw [e, hl] at h
    cases h
    exact n _ rfl)]
  exact h
theorem TabAt.lsts {H H' : Hp} {C p : Addr} {xs : List V} (h : TabAt H C p xs) (e : Lsts H H') : TabAt H' C p xs := by
  obtain ⟨dx, t, hp, ht⟩ := h
  exact ⟨dx, t, e _ _ hp nofun, e _ _ ht nofun⟩
/-! ### rows of integers -/
def rowDt (r : List Int) : PyData := .tuple (r.map PyData.int)
def IntT (H : Hp) (v : V) (r : List Int) : Prop := ∃ t, v = .ref t ∧ H t = some (.tup (r.map V.int))
theorem IntT.lsts {H H' : Hp} {v : V} {r : List Int} (h : IntT H v r) (e : Lsts H H') : IntT H' v r := by
  obtain ⟨t, hv, ht⟩ := h
  exact ⟨t, hv, e _ _ ht nofun⟩
def Rws (H : Hp) : List (List Int) → List V → Prop
  | [], xs => xs = []
  | r :: rs, xs => ∃ y ys, xs = y :: ys ∧ IntT H y r ∧ Rws H rs ys
theorem Rws.lsts {H H' : Hp} (e : Lsts H H') : ∀ {rs : List (List Int)} {xs : List V}, Rws H rs xs → Rws H' rs xs
  | [], _, h => h
  | _ :: _, _, ⟨y, ys, h, h1, h2⟩ => ⟨y, ys, h, h1.lsts e, Rws.lsts e h2⟩
theorem Rws.len {H : Hp} : ∀ {rs : List (List Int)} {xs : List V}, Rws H rs xs → rs.length = xs.length
  | [], _, h => by rw [show _ = [] from h]; rfl
  | _ :: _, _, ⟨y, ys, h, h1, h2⟩ => by rw [h, List.length_cons, List.length_cons, Rws.len h2]
theorem Rws.snoc {H : Hp} {v : V} {r : List Int} (hv : IntT H v r) : ∀ {rs : List (List Int)} {xs : List V}, Rws H rs xs → Rws H (rs ++ [r]) (xs ++ [v])
  | [], _, h => by
    rw [show _ = [] from h]
    exact ⟨v, [], rfl, hv, rfl⟩
  | _ :: _, _, ⟨y, ys, h, h1, h2⟩ => by
    rw [h]
    exact ⟨y, _, rfl, h1, Rws.snoc hv h2⟩
theorem Rws.get {H : Hp} {v : V} : ∀ {rs : List (List Int)} {xs : List V} {i : Nat}, Rws H rs xs → xs[i]? = some v → ∃ r, rs[i]? = some r ∧ IntT H v r
  | [], _, _, h, e => by
    rw [show _ = [] from h] at e
    cases e
  | r :: _, _, 0, ⟨y, ys, h, h1, h2⟩, e => by
    rw [h] at e
    cases e
    exact ⟨r, rfl, h1⟩
  | _ :: _, _, i + 1, ⟨y, ys, h, h1, h2⟩, e => by
    rw [h, List.getElem?_cons_succ] at e
    rw [List.getElem?_cons_succ]
    exact Rws.get h2 e
theorem Rws.mem {H : Hp} {v : V} {rs : List (List Int)} {xs : List V} (h : Rws H rs xs) (hv : v ∈ xs) : ∃ r ∈ rs, IntT H v r := by
  obtain ⟨i, e⟩ := List.getElem?_of_mem hv
  obtain ⟨r, h1, h2⟩ := h.get e
  exact ⟨r, List.mem_of_getElem? h1, h2⟩
theorem Rws.app {H : Hp} {ss : List (List Int)} {ys : List V} (h2 : Rws H ss ys) : ∀ {rs : List (List Int)} {xs : List V}, Rws H rs xs → Rws H (rs ++ ss) (xs ++ ys)
  | [], _, h => by
    rw [show _ = [] from h]
    exact h2
  | _ :: _, _, ⟨y, ys, h, h1, h3⟩ => by
    rw [h]
    exact ⟨y, _, rfl, h1, Rws.app h2 h3⟩
theorem Rws.rev {H : Hp} : ∀ {rs : List (List Int)} {xs : List V}, Rws H rs xs → Rws H rs.reverse xs.reverse
  | [], _, h => by
    rw [show _ = [] from h]
    rfl
  | _ :: _, _, ⟨y, ys, h, h1, h3⟩ => by
    rw [h, List.reverse_cons, List.reverse_cons]
    exact Rws.snoc h1 (Rws.rev h3)
theorem Rws.take {H : Hp} (n : Nat) : ∀ {rs : List (List Int)} {xs : List V}, Rws H rs xs → Rws H (rs.take n) (xs.take n) := by
  induction n with
  | zero => intro rs xs _; exact rfl
  | succ n ih =>
    intro rs xs h
    cases rs with
    | nil =>
      rw [show xs = [] from h]
      rfl
    | cons r rs =>
      obtain ⟨y, ys, e, h1, h2⟩ := h
      rw [e, List.take_succ_cons, List.take_succ_cons]
      exact ⟨y, _, rfl, h1, ih h2⟩
theorem Rws.dp {K : PySem.W.Frag} {H : Hp} : ∀ {rs : List (List Int)} {xs : List V}, Rws H rs xs → DpAll K H xs (rs.map rowDt)
  | [], _, h => by
    rw [show _ = [] from h]
    exact .nil
  | _ :: _, _, ⟨y, ys, h, ⟨t, hy, ht⟩, h2⟩ => by
    rw [h, hy]
    exact .cons (.tup (SqT.of ht) (dp_ints _)) (Rws.dp h2)
theorem rowDt_lay (r : List Int) : (rowDt r).canLay0 = true ∧ (rowDt r).depth = 1 := by
  obtain ⟨h1, h2⟩ := canAll_of (ds := r.map PyData.int) fun d hd => by
    obtain ⟨n, _, rfl⟩ := List.mem_map.mp hd
    exact int_flatD n
  unfold rowDt
  simp only [PyData.canLay0, PyData.depth, h1, h2]
  exact ⟨trivial, trivial⟩
theorem rows_lay : ∀ rs : List (List Int), PyData.canLayAll0 (rs.map rowDt) = true ∧ PyData.depthAll (rs.map rowDt) ≤ 1
  | [] => by simp [PyData.canLayAll0, PyData.depthAll]
  | r :: rs => by
    obtain ⟨h1, h2⟩ := rows_lay rs
    obtain ⟨h3, h4⟩ := rowDt_lay r
    simp only [List.map_cons, PyData.canLayAll0, PyData.depthAll, h1, h3, h4]
    exact ⟨rfl, by omega⟩
theorem rowDt_shaped (r : List Int) : SeqAt.shaped (rowDt r) = true := by
  obtain ⟨h1, h2⟩ := rowDt_lay r
  unfold SeqAt.shaped
  rw [h1, h2]
  rfl
theorem rows_shaped (rs : List (List Int)) : SeqAt.shaped (.list (rs.map rowDt)) = true := by
  obtain ⟨h1, h2⟩ := rows_lay rs
  unfold SeqAt.shaped
  rw [show PyData.canLay0 _ = true by simp only [PyData.canLay0]; exact h1, Bool.true_and, decide_eq_true_eq]
  simp only [PyData.depth]
  omega
theorem rows_shapedT (rs : List (List Int)) : SeqAt.shaped (.tuple (rs.map rowDt)) = true := by
  obtain ⟨h1, h2⟩ := rows_lay rs
  unfold SeqAt.shaped
  rw [show PyData.canLay0 _ = true by simp only [PyData.canLay0]; exact h1, Bool.true_and, decide_eq_true_eq]
  simp only [PyData.depth]
  omega
theorem eqvAll_ints : ∀ (ys zs : List Int), PyData.eqvAll (ys.map PyData.int) (zs.map PyData.int) = decide (ys = zs)
  | [], [] => by simp [PyData.eqvAll]
  | [], _ :: _ => by simp [PyData.eqvAll]
  | _ :: _, [] => by simp [PyData.eqvAll]
  | y :: ys, z :: zs => by
    have ih := eqvAll_ints ys zs
    simp only [List.map_cons, PyData.eqvAll, PyData.eqv, ih]
    rw [Bool.eq_iff_iff]
    simp
theorem eqv_row (r s : List Int) : PyData.eqv (rowDt r) (rowDt s) = decide (r = s) := by
  rw [← eqvAll_ints]
  simp only [rowDt, PyData.eqv]
theorem eqvAll_rows : ∀ (ys zs : List (List Int)), PyData.eqvAll (ys.map rowDt) (zs.map rowDt) = decide (ys = zs)
  | [], [] => by simp [PyData.eqvAll]
  | [], _ :: _ => by simp [PyData.eqvAll]
  | _ :: _, [] => by simp [PyData.eqvAll]
  | y :: ys, z :: zs => by
    have ih := eqvAll_rows ys zs
    simp only [List.map_cons, PyData.eqvAll, eqv_row, ih]
    rw [Bool.eq_iff_iff]
    simp
theorem eqv_rows (ys zs : List (List Int)) : PyData.eqv (.list (ys.map rowDt)) (.list (zs.map rowDt)) = decide (ys = zs) := by
  rw [← eqvAll_rows]
  simp only [PyData.eqv]
theorem any_rows (rs : List (List Int)) (r : List Int) : ((rs.map rowDt).any fun z => PyData.eqv z (rowDt r)) = decide (r ∈ rs) := by
  rw [Bool.eq_iff_iff, List.any_map, List.any_eq_true, decide_eq_true_eq]
  constructor
  · rintro ⟨s, hs, e⟩
    have e2 : PyData.eqv (rowDt s) (rowDt r) = true := e
    rw [eqv_row, decide_eq_true_eq] at e2
    exact e2 ▸ hs
  · intro h
    exact ⟨r, h, by show PyData.eqv (rowDt r) (rowDt r) = true; rw [eqv_row, decide_eq_true_eq]⟩
/-- x in t, t a tuple of data -/
def rInDT (K : PySem.W.Frag) : R2 := fun x y H Q => ∃ d ds, Dp K H x d ∧ Dp K H y (.tuple ds) ∧ SeqAt.shaped d = true ∧ SeqAt.shaped (.tuple ds) = true ∧ Q (.bl (ds.any fun z => PyData.eqv z d)) H
theorem op_inDT {X : Cx} (hu : X.A.units + 65 < cLine) : OpR X (compareOp .In) (rInDT X.K) := by
  intro pins s σ H x y v u Q I rx ry h
  obtain ⟨d, ds, hd, he, sd, se, q⟩ := h
  obtain ⟨as, r1⟩ := Dp.reads I d x v hd rx
  obtain ⟨bs, r2⟩ := Dp.reads I (.tuple ds) y u he ry
  have se2 : PyData.canLayAll0 ds = true := by
    unfold SeqAt.shaped at se
    simp only [PyData.canLay0] at se
    exact (Bool.and_eq_true_iff.mp se).1
  exact SeqAt.in_tuple_reads r2 r1 se2 (SeqAt.canLay_of_shaped sd) (room_in_shaped sd hu) ⟨.bl _, H, I, rfl, q⟩
/-! ### data that is, or is not, a row -/
def isIntD : PyData → Bool
  | .int _ => true
  | _ => false
def isRowD (m : Nat) : PyData → Bool
  | .tuple ds => decide (ds.length = m) && ds.all isIntD
  | _ => false
def wid : PyData → Nat
  | .tuple ds => ds.length
  | _ => 0
theorem dq_int {H : Hp} {bs : List Addr} : ∀ {d : PyData} {v : V}, Dq H bs d v → isIntV v = isIntD d
  | .none, v, h => by rw [show v = .non by simpa only [Dq] using h]; rfl
  | .bool x, v, h => by rw [show v = .bl x by simpa only [Dq] using h]; rfl
  | .int i, v, h => by rw [show v = .int i by simpa only [Dq] using h]; rfl
  | .str z, v, h => by
    obtain ⟨rfl, _⟩ : v = .str z ∧ z.length ≤ 100 := by simpa only [Dq] using h
    rfl
  | .list ds, v, h => by
    obtain ⟨a, xs, rfl, n, ha, hx⟩ : ∃ a xs, v = .ref a ∧ a ∉ bs ∧ H a = some (.lst xs) ∧ DqA H bs ds xs := by simpa only [Dq] using h
    rfl
  | .tuple ds, v, h => by
    obtain ⟨a, xs, rfl, n, ha, hx⟩ : ∃ a xs, v = .ref a ∧ a ∉ bs ∧ H a = some (.tup xs) ∧ DqA H bs ds xs := by simpa only [Dq] using h
    rfl
  | .dict _, v, h => by
    have h : False := by simpa only [Dq] using h
    exact h.elim
theorem dqA_allInt {H : Hp} {bs : List Addr} : ∀ {ds : List PyData} {xs : List V}, DqA H bs ds xs → xs.all isIntV = ds.all isIntD
  | [], xs, h => by rw [show xs = [] by simpa only [DqA] using h]; rfl
  | d :: ds, xs, h => by
    obtain ⟨y, ys, rfl, h1, h2⟩ : ∃ y ys, xs = y :: ys ∧ Dq H bs d y ∧ DqA H bs ds ys := by simpa only [DqA] using h
    rw [List.all_cons, List.all_cons, dq_int h1, dqA_allInt h2]
theorem dq_kinds {H : Hp} {bs : List Addr} {d : PyData} {v : V} (h : Dq H bs d v) : (∃ ds a xs, d = .tuple ds ∧ v = .ref a ∧ a ∉ bs ∧ H a = some (.tup xs) ∧ DqA H bs ds xs) ∨ (∃ t, kd H v = some t ∧ t ≠ .tup ∧ ∀ m, isRowD m d = false) := by
  cases d with
  | none => exact .inr ⟨.non, by rw [show v = .non by simpa only [Dq] using h]; rfl, nofun, fun _ => rfl⟩
  | bool x => exact .inr ⟨.bl, by rw [show v = .bl x by simpa only [Dq] using h]; rfl, nofun, fun _ => rfl⟩
  | int i => exact .inr ⟨.int, by rw [show v = .int i by simpa only [Dq] using h]; rfl, nofun, fun _ => rfl⟩
  | str z =>
    obtain ⟨rfl, _⟩ : v = .str z ∧ z.length ≤ 100 := by simpa only [Dq] using h
    exact .inr ⟨_, rfl, nofun, fun _ => rfl⟩
  | list ds =>
    obtain ⟨a, xs, rfl, n, ha, hx⟩ : ∃ a xs, v = .ref a ∧ a ∉ bs ∧ H a = some (.lst xs) ∧ DqA H bs ds xs := by simpa only [Dq] using h
    exact .inr ⟨_, kd_lst ha, nofun, fun _ => rfl⟩
  | tuple ds =>
    obtain ⟨a, xs, rfl, n, ha, hx⟩ : ∃ a xs, v = .ref a ∧ a ∉ bs ∧ H a = some (.tup xs) ∧ DqA H bs ds xs := by simpa only [Dq] using h
    exact .inl ⟨ds, a, xs, rfl, rfl, n, ha, hx⟩
  | dict kvs =>
    have h : False := by simpa only [Dq] using h
    exact h.elim
theorem dq_known {H : Hp} {bs : List Addr} {d : PyData} {v : V} (h : Dq H bs d v) (hw : wid d ≤ 1000) : Known H v := by
  rcases dq_kinds h with ⟨ds, a, xs, rfl, rfl, n, ha, hx⟩ | ⟨t, ht, nt, _⟩
  · exact known_tup ha (by rw [← dqA_len hx]; exact hw) fun x hx2 => let ⟨t, q, _⟩ := dqA_ent hx x hx2; ⟨t, q⟩
  · refine ⟨⟨t, ht⟩, fun a xs e ha => ?_⟩
    subst e
    rw [kd_tup ha] at ht
    cases ht
    exact absurd rfl nt
theorem dq_row {H : Hp} {bs : List Addr} {d : PyData} {v : V} (h : Dq H bs d v) (m : Nat) : rowB H v (m : Nat) = isRowD m d := by
  rcases dq_kinds h with ⟨ds, a, xs, rfl, rfl, n, ha, hx⟩ | ⟨t, ht, nt, hd⟩
  · rw [rowB_tup ha, dqA_allInt hx, ← dqA_len hx]
    show _ = (decide (ds.length = m) && ds.all isIntD)
    congr 1
    rw [Bool.eq_iff_iff, decide_eq_true_eq, decide_eq_true_eq]
    omega
  · rw [hd m, rowB_not ht nt]
theorem intT_known {H : Hp} {v : V} {r : List Int} (h : IntT H v r) (hr : r.length ≤ 1000) : Known H v := by
  obtain ⟨t, rfl, ht⟩ := h
  refine known_tup ht (by rw [len_ints]; exact hr) fun x hx => ?_
  obtain ⟨u, rfl⟩ := int_of_mem hx
  exact ⟨_, rfl⟩
theorem ints_all (r : List Int) : (r.map V.int).all isIntV = true := List.all_eq_true.mpr fun x hx => by
  obtain ⟨u, rfl⟩ := int_of_mem hx
  rfl
theorem intT_row {H : Hp} {v : V} {r : List Int} (h : IntT H v r) (m : Nat) : rowB H v (m : Nat) = decide (r.length = m) := by
  obtain ⟨t, rfl, ht⟩ := h
  rw [rowB_tup ht, ints_all, Bool.and_true, len_ints, Bool.eq_iff_iff, decide_eq_true_eq, decide_eq_true_eq]
  omega
theorem intT_dq {H : Hp} {bs : List Addr} {v : V} {r : List Int} (h : IntT H v r) (hb : ∀ t, v = .ref t → t ∉ bs) : Dq H bs (rowDt r) v := by
  obtain ⟨t, rfl, ht⟩ := h
  simp only [Dq, rowDt]
  refine ⟨t, _, rfl, hb t rfl, ht, ?_⟩
  clear ht
  induction r with
  | nil => simp [DqA]
  | cons x r ih =>
    simp only [List.map_cons, DqA]
    exact ⟨_, _, rfl, by simp only [Dq], ih⟩
theorem isRow_rowDt (m : Nat) (r : List Int) : isRowD m (rowDt r) = decide (r.length = m) := by
  show (decide ((r.map PyData.int).length = m) && (r.map PyData.int).all isIntD) = _
  rw [List.length_map, List.all_map, show (r.all (isIntD ∘ PyData.int)) = true from List.all_eq_true.mpr fun x _ => rfl, Bool.and_true]
/-- what is new is none of an old datum's objects -/
theorem dq_fresh {H : Hp} {bs : List Addr} {p : Addr} (n : H p = none) : (∀ (d : PyData) (v : V), Dq H bs d v → Dq H (p :: bs) d v) ∧ ∀ (ds : List PyData) (xs : List V), DqA H bs ds xs → DqA H (p :: bs) ds xs := by
  have ne : ∀ {a o}, a ∉ bs → H a = some o → a ∉ p :: bs := fun h e q => by
    rcases List.mem_cons.mp q with rfl | q
    · rw [n] at e
      cases e
    · exact h q
  constructor
  · exact fun d => PyData.rec (motive_1 := fun d => ∀ v, Dq H bs d v → Dq H (p :: bs) d v) (motive_2 := fun ds => ∀ xs, DqA H bs ds xs → DqA H (p :: bs) ds xs) (motive_3 := fun _ => True) (motive_4 := fun _ => True)
      (fun v h => by simpa only [Dq] using h) (fun x v h => by simpa only [Dq] using h) (fun x v h => by simpa only [Dq] using h) (fun x v h => by simpa only [Dq] using h)
      (fun ds ih v h => by
        simp only [Dq] at h ⊢
        obtain ⟨a, xs, e, h1, h2, h3⟩ := h
        exact ⟨a, xs, e, ne h1 h2, h2, ih _ h3⟩)
      (fun ds ih v h => by
        simp only [Dq] at h ⊢
        obtain ⟨a, xs, e, h1, h2, h3⟩ := h
        exact ⟨a, xs, e, ne h1 h2, h2, ih _ h3⟩)
      (fun kvs _ v h => by simpa only [Dq] using h)
      (fun xs h => by simpa only [DqA] using h)
      (fun d ds ih1 ih2 xs h => by
        simp only [DqA] at h ⊢
        obtain ⟨y, ys, e, h1, h2⟩ := h
        exact ⟨y, ys, e, ih1 _ h1, ih2 _ h2⟩)
      trivial (fun _ _ _ _ => trivial) (fun _ _ _ _ => trivial) d
  · exact fun ds => PyData.rec_1 (motive_1 := fun d => ∀ v, Dq H bs d v → Dq H (p :: bs) d v) (motive_2 := fun ds => ∀ xs, DqA H bs ds xs → DqA H (p :: bs) ds xs) (motive_3 := fun _ => True) (motive_4 := fun _ => True)
      (fun v h => by simpa only [Dq] using h) (fun x v h => by simpa only [Dq] using h) (fun x v h => by simpa only [Dq] using h) (fun x v h => by simpa only [Dq] using h)
      (fun ds ih v h => by
        simp only [Dq] at h ⊢
        obtain ⟨a, xs, e, h1, h2, h3⟩ := h
        exact ⟨a, xs, e, ne h1 h2, h2, ih _ h3⟩)
      (fun ds ih v h => by
        simp only [Dq] at h ⊢
        obtain ⟨a, xs, e, h1, h2, h3⟩ := h
        exact ⟨a, xs, e, ne h1 h2, h2, ih _ h3⟩)
      (fun kvs _ v h => by simpa only [Dq] using h)
      (fun xs h => by simpa only [DqA] using h)
      (fun d ds ih1 ih2 xs h => by
        simp only [DqA] at h ⊢
        obtain ⟨y, ys, e, h1, h2⟩ := h
        exact ⟨y, ys, e, ih1 _ h1, ih2 _ h2⟩)
      trivial (fun _ _ _ _ => trivial) (fun _ _ _ _ => trivial) ds
theorem hu65 {k : Nat} {A : Around} (hr : Room k A) : A.units + 65 < cLine := by have := hr.un; omega
/-- a method without arguments, by name -/
theorem pe_calM0 {X : Cx} {k : Nat} {C f : Addr} {m : Str} {fd : FuncData} {ps : List Str} {sp : Sp} {o : Expr} {ta : TE} {apos pos : Pos} {pl : Sem Bool} (he : PE X o ta) (cl : Cls X.K C) (c : CalM X.prog X.w X.K X.mg X.base CX0 k C m f fd ps sp) (hr : Room k X.A)
    (ht : eval (.Call (.Attribute o m apos) [] [] pos) X.env = (do
      let ov ← eval o X.env
      standAt apos.atName
      let (f, first) ← holding [ov] (getMethod ov m pl)
      callWith pos f first (backTo pos (starEach [] X.env)) (backToKw pos (keywordEach [] X.env))) := by rfl) :
    PE X (.Call (.Attribute o m apos) [] [] pos) (tMeth C m sp [] E0 ta tNil) := pe_meth0 (pl := pl) he cl c.mt c.ok hr c.b .nil pass0 ht
/-! ### flat values as data -/
def flatS : V → Bool
  | .int _ => true
  | .bl _ => true
  | .non => true
  | .str z => decide (z.length ≤ 100)
  | _ => false
theorem flatS_dq {H : Hp} {bs : List Addr} {v : V} (h : flatS v = true) : Dq H bs (fdV v) v := by
  cases v with
  | int i => simp only [fdV, Dq]
  | bl b => simp only [fdV, Dq]
  | non => simp only [fdV, Dq]
  | str z => simp only [fdV, Dq]; exact ⟨trivial, of_decide_eq_true h⟩
  | _ => cases h
theorem flatS_all {H : Hp} {bs : List Addr} : ∀ {xs : List V}, (∀ x ∈ xs, flatS x = true) → DqA H bs (xs.map fdV) xs
  | [], _ => by simp only [List.map_nil, DqA]
  | x :: xs, h => by
    simp only [List.map_cons, DqA]
    exact ⟨x, xs, rfl, flatS_dq (h x List.mem_cons_self), flatS_all fun y hy => h y (List.mem_cons_of_mem _ hy)⟩
theorem flatS_int {v : V} (h : flatS v = true) : isIntD (fdV v) = isIntV v := by
  cases v with
  | int i => rfl
  | bl b => rfl
  | non => rfl
  | str z => rfl
  | _ => cases h
theorem flatS_row {xs : List V} (h : ∀ x ∈ xs, flatS x = true) (m : Nat) : isRowD m (.tuple (xs.map fdV)) = (decide (xs.length = m) && xs.all isIntV) := by
  show (decide ((xs.map fdV).length = m) && (xs.map fdV).all isIntD) = _
  rw [List.length_map]
  congr 1
  rw [List.all_map, Bool.eq_iff_iff, List.all_eq_true, List.all_eq_true]
  exact ⟨fun q x hx => by rw [← flatS_int (h x hx)]; exact q x hx, fun q x hx => by show isIntD (fdV x) = true; rw [flatS_int (h x hx)]; exact q x hx⟩
theorem flatS_ints (r : List Int) : ∀ x ∈ r.map V.int, flatS x = true := fun x hx => by
  obtain ⟨u, rfl⟩ := int_of_mem hx
  rfl
/-- a bag's own list is a list -/
theorem Bag.lst {H : Hp} {b : Addr} (h : Bag H b) : ∃ ys, H b = some (.lst ys) := let ⟨_, _, e, _⟩ := h; ⟨_, e⟩
def AllLst (H : Hp) (bs : List Addr) : Prop := ∀ x ∈ bs, ∃ ys, H x = some (.lst ys)
theorem AllLst.same {H H' : Hp} {bs : List Addr} (h : AllLst H bs) (s : Same H H') : AllLst H' bs := fun x hx => let ⟨ys, e⟩ := h x hx; ⟨ys, s _ _ e⟩
theorem AllLst.tup {H : Hp} {bs : List Addr} {t : Addr} {xs : List V} (h : AllLst H bs) (e : H t = some (.tup xs)) : t ∉ bs := fun q => by
  obtain ⟨ys, e2⟩ := h t q
  rw [e] at e2
  cases e2
theorem AllLst.new {H : Hp} {bs : List Addr} {t : Addr} (h : AllLst H bs) (e : H t = none) : t ∉ bs := fun q => by
  obtain ⟨ys, e2⟩ := h t q
  rw [e] at e2
  cases e2
/-! ### what the defs promise -/
def spRow : Sp := fun vs H Q _ => ∃ (b : Addr) (m : Int), vs = [.ref b, .int m] ∧ Bag H b ∧ 0 ≤ m ∧ m ≤ 3 ∧ ∀ (r : List Int) (t : Addr) (H' : Hp), (r.length : Int) = m → H t = none → H' t = some (.tup (r.map V.int)) → But b H H' → Bag H' b → Q (.ref t) H'
def spSpoilt : Sp := fun vs H Q _ => ∃ (b t : Addr) (r : List Int) (bs : List Addr), vs = [.ref b, .ref t] ∧ Bag H b ∧ b ∈ bs ∧ AllLst H bs ∧ H t = some (.tup (r.map V.int)) ∧ 1 ≤ r.length ∧ r.length ≤ 3 ∧
  ∀ (d : PyData) (v : V) (H' : Hp), Dq H' bs d v → isRowD r.length d = false → wid d ≤ 1000 → But b H H' → Bag H' b → Q v H'
def spErrRow (C : Addr) : Sp := fun vs H Q _ => ∃ (a : Addr) (i : Int), vs = [.ref a, .int i] ∧ H a = some (exo a C none) ∧ 0 ≤ i ∧ i ≤ 63 ∧ ∀ d, H d = none → d ≠ a → Q .non (upd (upd H d (exd d [("at", .int i)])) a (exo a C (some d)))
/-- what told says of the entries -/
def Told (m : Nat) (ds : List PyData) (good : Prop) (bad : Nat → Prop) : Prop :=
  ((∀ d ∈ ds, isRowD m d = true) → good) ∧ ∀ (i : Nat) (d : PyData), ds[i]? = some d → isRowD m d = false → (∀ (j : Nat) (e : PyData), j < i → ds[j]? = some e → isRowD m e = true) → bad i
def spStoreX (CT CS CR : Addr) : Sp := fun vs H Q E => ∃ (q p g dx : Addr) (cs : List V) (m : Nat) (xs : List V) (ds : List PyData) (bs : List Addr), vs = [.ref q, .ref p, .ref g] ∧ H q = some (.ins CS dx []) ∧ TabAt H CT p cs ∧ cs.length = m ∧ m ≤ 3 ∧
  (H g = some (.lst xs) ∨ H g = some (.tup xs)) ∧ DqA H bs ds xs ∧ (∀ d ∈ ds, wid d ≤ 1000) ∧ xs.length ≤ 60 ∧
  Told m ds (∀ (t : Addr) (H' : Hp), But q H H' → H' q = some (.ins CS dx [("table", .ref p), ("_rows", .ref t)]) → H' t = some (.tup xs) → Q .non H')
    (fun i => ∀ d H', Same H H' → H' d = some (.xd [("at", .int i)]) → E (.ref CR) (some d) H')
def StAt (H : Hp) (CS q p t : Addr) (xs : List V) : Prop := ∃ dx, H q = some (.ins CS dx [("table", .ref p), ("_rows", .ref t)]) ∧ H t = some (.tup xs)
theorem StAt.lsts {H H' : Hp} {CS q p t : Addr} {xs : List V} (h : StAt H CS q p t xs) (e : Lsts H H') : StAt H' CS q p t xs := by
  obtain ⟨dx, hp, ht⟩ := h
  exact ⟨dx, e _ _ hp nofun, e _ _ ht nofun⟩
def spInS (CT CS : Addr) : Sp := fun vs H Q _ => ∃ (q p t : Addr) (v : V) (cs xs : List V) (m : Nat) (rs : List (List Int)), vs = [.ref q, v] ∧ StAt H CS q p t xs ∧ TabAt H CT p cs ∧ cs.length = m ∧ m ≤ 3 ∧ Rws H rs xs ∧ Known H v ∧
  (rowB H v (m : Nat) = false → ∀ H', Same H H' → Q (.bl false) H') ∧ ∀ r, IntT H v r → r.length = m → ∀ H', Same H H' → Q (.bl (decide (r ∈ rs))) H'
theorem row_intT {H : Hp} {v : V} {m : Int} (h : rowB H v m = true) : ∃ r, IntT H v r ∧ (r.length : Int) = m := by
  cases v with
  | ref a =>
    cases e : H a with
    | none => exact absurd h (by show ¬ rowO (H a) m = true; rw [e]; exact nofun)
    | some o =>
      cases o with
      | tup xs =>
        rw [rowB_tup e, Bool.and_eq_true, decide_eq_true_eq] at h
        obtain ⟨h1, h2⟩ := h
        have : ∀ (xs : List V), xs.all isIntV = true → ∃ r : List Int, xs = r.map V.int := by
          intro xs
          induction xs with
          | nil => exact fun _ => ⟨[], rfl⟩
          | cons x xs ih =>
            intro hx
            rw [List.all_cons, Bool.and_eq_true] at hx
            obtain ⟨r, rfl⟩ := ih hx.2
            cases x with
            | int i => exact ⟨i :: r, rfl⟩
            | _ => exact absurd hx.1 nofun
        obtain ⟨r, rfl⟩ := this xs h2
        exact ⟨r, ⟨a, rfl, e⟩, by rw [len_ints] at h1; exact h1⟩
      | _ => exact absurd h (by show ¬ rowO (H a) m = true; rw [e]; exact nofun)
  | _ => exact absurd h nofun
/-- a def that may raise, at a wish that nothing is raised -/
theorem fn0 {P : Program} {w : World} {K : PySem.W.Frag} {mg : Str → Option Value} {base : Heap} {k : Nat} {f : Addr} {fd : FuncData} {ps : List Str} {sp : Sp} (F : FnOk P w K mg base (L2.CX P w) k f fd ps sp) : FnOk P w K mg base CX0 k f fd ps (fun vs H Q _ => sp vs H Q E0) :=
  ⟨fun vs H Q E h => F.len vs H Q E0 h, fun A outer s H args us vs Q E hr e0 hb r h => codeAny_mono (F.run A outer s H args us vs Q E0 hr e0 hb r h) fun z s' hz => by
    match z, hz with
    | .ok (.ret u), hz => exact hz
    | .error e, ⟨_, _, _, _, _, _, _, _, _, _, _, _, q⟩ => exact q.elim⟩
end Own

namespace Own
open PySem PySem.Spec PyProof.Rows L2
/-! ### facts of error classes, as tests -/
def oexO (C : Addr) : Option Obj → Bool
  | some ⟨.type "type", _, .cls cd, sl⟩ => (match cd.mro, sl.toList with
    | .ref D :: bm, [_, _, _, _, some (.builtin n), _] => decide (D = C) && (decide (n = "ValueError.__new__") && (!cd.hasDel && (cd.hasDict && PySem.HandSPX.refsVE bm)))
    | _, _ => false)
  | _ => false
theorem oexO_ok {K : PySem.W.Frag} {C : Addr} (q : oexO C (K.lookup C) = true) :
    ∃ nm q N bs bm sn sub ab col dd k0 k1 k2 k3 k5, K.lookup C = some (excClassObj nm q C N bs bm true sn sub ab col dd k0 k1 k2 k3 k5 "ValueError.__new__") ∧ PySem.HandSPX.refsVE bm = true := by
  unfold oexO at q
  split at q
  · rename_i dd cd sl ho
    split at q
    · rename_i D bm k0 k1 k2 k3 n k5 hm hs
      simp only [Bool.and_eq_true, Bool.not_eq_true', decide_eq_true_eq] at q
      obtain ⟨rfl, rfl, hdel, hdict, hbm⟩ := q
      obtain ⟨nm, bs, mro, ns, qn, hd, sn, sub, ab, col, del⟩ := cd
      dsimp only at hm hdel hdict
      subst hm hdel hdict
      obtain ⟨sl⟩ := sl
      dsimp only at hs
      subst hs
      exact ⟨nm, qn, ns, bs, bm, sn, sub, ab, col, dd, k0, k1, k2, k3, k5, ho, hbm⟩
    · cases q
  · cases q
def oexB (K : PySem.W.Frag) (C : Addr) : Bool := oexO C (K.lookup C) && (He.eqO (PySem.W.findIn K (.ref C) "__setattr__") (some (some (.builtin "object.__setattr__"))) && (decide (PySem.W.subIn K (.ref C) (.type "BaseException") = some true) && (decide (PySem.W.typeIn K (.ref C) = some (.type "type")) && PySem.W.keepIn K (.ref C))))
theorem oexB_ok {K : PySem.W.Frag} {C : Addr} (h : oexB K C = true) : OexC K C := by
  obtain ⟨h1, h⟩ := Bool.and_eq_true_iff.mp h
  obtain ⟨h2, h⟩ := Bool.and_eq_true_iff.mp h
  obtain ⟨h3, h⟩ := Bool.and_eq_true_iff.mp h
  obtain ⟨h4, h5⟩ := Bool.and_eq_true_iff.mp h
  exact ⟨oexO_ok h1, He.eqO_ok h2, of_decide_eq_true h3, of_decide_eq_true h4, h5⟩
def baseB (K : PySem.W.Frag) (B : Addr) : Bool := PySem.W.readsIn K B (.type "type") && (He.eqO (PySem.W.specialIn K (.ref B) "__getattribute__") (some (some (.builtin "type.__getattribute__"))) && (match PySem.W.findCls K (.ref B) (.type "type") "__init__" with
  | some (.val (.builtin n)) => decide (n = "ValueError.__init__")
  | _ => false))
theorem baseB_ok {K : PySem.W.Frag} {B : Addr} (h : baseB K B = true) : BaseI K B := by
  obtain ⟨h1, h⟩ := Bool.and_eq_true_iff.mp h
  obtain ⟨h2, h3⟩ := Bool.and_eq_true_iff.mp h
  refine ⟨⟨h1, He.eqO_ok h2⟩, ?_⟩
  clear h h1 h2
  split at h3
  · rename_i n e
    rw [e, of_decide_eq_true h3]
  · cases h3
def excCB (K : PySem.W.Frag) (D : Addr) : Bool := xfB K D && (He.eqO (PySem.W.findIn K (.ref D) "__class__") (some (some (.builtin "object.__class__"))) && (He.eqO (PySem.W.specialIn K (.builtin "object.__class__") "__get__") (some (some (.builtin "getset_descriptor.__get__"))) &&
  (decide (PySem.W.takesIn K (.builtin "object.__class__") = some true) && decide (PySem.W.mroIn K D (.type "object") = some true))))
theorem excCB_ok {K : PySem.W.Frag} {D : Addr} (h : excCB K D = true) : XfC K D ∧ ExcC K D := by
  obtain ⟨h1, h⟩ := Bool.and_eq_true_iff.mp h
  obtain ⟨h2, h⟩ := Bool.and_eq_true_iff.mp h
  obtain ⟨h3, h⟩ := Bool.and_eq_true_iff.mp h
  obtain ⟨h4, h5⟩ := Bool.and_eq_true_iff.mp h
  have x := xfB_ok h1
  exact ⟨x, ⟨x.ga, x.gg, x.exC, x.hdC, He.eqO_ok h2, He.eqO_ok h3, of_decide_eq_true h4, of_decide_eq_true h5⟩⟩
end Own

namespace K22
open PySem PySem.Spec PyProof.Rows L2 Own
def top (i : Nat) : Stmt := PySem.Challenge.pw_emptyfilters_k22_stores_made.main.body.getD i (.Pass ⟨0, 0, 0, 0⟩)
abbrev s_wall : Stmt := top 0
abbrev s_is_integer : Stmt := top 4
abbrev s_is_word : Stmt := top 5
abbrev s_copied : Stmt := top 6
abbrev s_BadTableinit : Stmt := inClass (top 9) 0
abbrev s_BadRowsinit : Stmt := inClass (top 10) 0
abbrev s_TooManyRowsinit : Stmt := inClass (top 11) 0
abbrev s_Storeinit : Stmt := inClass (top 13) 0
abbrev s_Storelen : Stmt := inClass (top 13) 1
abbrev s_Storeiter : Stmt := inClass (top 13) 2
abbrev s_Storecontains : Stmt := inClass (top 13) 3
abbrev s_Store_listed : Stmt := inClass (top 13) 4
abbrev s_Store_do : Stmt := inClass (top 13) 5
abbrev s_Store_done : Stmt := inClass (top 13) 6
abbrev s_first_bad : Stmt := top 16
abbrev s_Tableinit : Stmt := inClass (top 17) 0
abbrev s_Tablelen : Stmt := inClass (top 17) 1
abbrev s_Tablecontains : Stmt := inClass (top 17) 2
abbrev s_Tableeq : Stmt := inClass (top 17) 3
abbrev s_Tablerepr : Stmt := inClass (top 17) 4
abbrev s_law_bag : Stmt := top 19
abbrev s_law_take : Stmt := top 20
abbrev s_law_of : Stmt := top 21
abbrev s_law_long : Stmt := top 22
abbrev s_law_row : Stmt := top 23
abbrev s_law_spoilt : Stmt := top 24
abbrev s_law_told : Stmt := top 25
abbrev s_law : Stmt := top 26
abbrev FnP (K : PySem.W.Frag) (x : Str) (st : Stmt) (f : Addr) (fd : FuncData) : Prop := FunD K x x (defArgs st) (defBody st) (defScope st) [] [] f fd
abbrev FnM (K : PySem.W.Frag) (x q : Str) (st : Stmt) (f : Addr) (fd : FuncData) : Prop := FunD K x q (defArgs st) (defBody st) (defScope st) [] [] f fd
structure Txt (K : PySem.W.Frag) (mg : Str → Option Value) (aK : Addr) : Prop extends Free mg where
  g_KEPT : mg "KEPT" = some (.ref aK)
  s_KEPT : ∀ H, SqT K H aK (keptL.map V.str)
  g_WORD_LETTERS : ∃ t, mg "WORD_LETTERS" = some (.int 8 t)
  g_MOST_COLUMNS : ∃ t, mg "MOST_COLUMNS" = some (.int 3 t)
structure TxC (K : PySem.W.Frag) (C : Addr) : Prop where
  cl : Cls K C
  nC : NoAttr K C "columns"
structure TxG (mg : Str → Option Value) (C : Addr) : Prop extends Free mg where
  g_Table : mg "Table" = some (.ref C)
section
variable {P : Program} {w : World} {K : PySem.W.Frag} {mg : Str → Option Value} {base : Heap} {f C : Addr} {fd : FuncData}
theorem sc_law_take : FnScope ["bag", "many", "digit"] ["bag", "many"] (defScope s_law_take) := ⟨rfl, rfl, rfl, by decide +kernel, rfl, by decide +kernel, by decide +kernel⟩
theorem ok_take (F : FnP K "_law_take" s_law_take f fd) (T : Free mg) : FnOk P w K mg base CX0 1 f fd ["bag", "many"] spTake := by
  refine F.ok sc_law_take (fun vs H Q E h => ?_) (fun cdv A outer s H vs Q E hr h => ⟨_, PSs.nox (pss_cons (ps_if (pt_cmpR op_gt (pe_ix ix_list (pv 0) pe_int (fun _ _ => rfl)) pe_int (nomark _))
 (pss_cons (ps_set (i := 2) sc_law_take.nd rfl (Or.inl rfl) (pe_op op_mod (pe_callTy call_int1 (by rfl) T.int boot_int (pa_cons (pe_ix ix_list (pv 0) pe_int (fun _ _ => rfl)) pa_nil)) (pv 1)))
 (pss_cons (ps_asg (pe_op op_fdiv (pe_ix ix_list (pv 0) pe_int (fun _ _ => rfl)) (pv 1)) (pg_sub (pv 0) pe_int set_list))
 (pss_one (ps_ret (pv 2)))))
 pss_nil)
 (pss_cons (ps_asg (pe_op op_mod (pe_callTy call_int1 (by rfl) T.int boot_int (pa_cons (pe_op op_add (pe_op op_mul (pe_ix ix_list (pv 0) pe_int (fun _ _ => rfl)) pe_int) pe_int) pa_nil)) pe_int) (pg_sub (pv 0) pe_int set_list))
 (pss_one (ps_ret (pe_op op_mod (pe_op op_fdiv (pe_op op_mod (pe_callTy call_int1 (by rfl) T.int boot_int (pa_cons (pe_op op_mul (pe_op op_fdiv (pe_ix ix_list (pv 0) pe_int (fun _ _ => rfl)) pe_int) pe_int) pa_nil)) pe_int) pe_int) (pv 1)))))), ?_⟩)
  · obtain ⟨b, m, rfl, _⟩ := h
    rfl
  · obtain ⟨b, m, rfl, ⟨x, y, hb, hx, hy⟩, hm, hm2, k⟩ := h
    refine ⟨_, rfl, b, _, 0, _, rfl, rfl, SqL.of hb, rfl, _, _, rfl, rfl, _, rfl, ?_⟩
    refine ite2 (fun hgt => ?_) (fun hle => ?_)
    · have hx0 : 0 < x := of_decide_eq_true hgt
      refine ⟨_, rfl, b, _, 0, _, rfl, rfl, SqL.of hb, rfl, .inl ⟨_, rfl, ?_⟩⟩
      refine ⟨_, rfl, _, _, rfl, rfl, hm, ?_⟩
      refine ⟨_, rfl, b, _, 0, _, rfl, rfl, SqL.of hb, rfl, _, rfl, _, _, rfl, rfl, ⟨hm, hm2⟩, ?_⟩
      refine ⟨_, rfl, b, _, 0, 0, rfl, rfl, hb, rfl, ?_⟩
      refine ⟨_, rfl, k _ _ (Int.emod_nonneg _ (by omega)) (Int.emod_lt_of_pos _ hm) (But.put But.refl) ⟨_, _, upd_same, Int.ediv_nonneg hx (by omega), hy⟩⟩
    · refine ⟨_, rfl, b, _, 1, _, rfl, rfl, SqL.of hb, rfl, _, _, rfl, rfl, .inr ⟨by decide, by decide⟩, _, _, rfl, rfl, .inl ⟨_, rfl, _, _, rfl, rfl, (by show (0 : Int) < _; decide), ?_⟩⟩
      refine ⟨_, rfl, b, _, 1, 1, rfl, rfl, hb, rfl, ?_⟩
      refine ⟨_, rfl, b, _, 1, _, rfl, rfl, SqL.of upd_same, rfl, _, _, rfl, rfl, ⟨by decide, by decide⟩, _, _, rfl, rfl, .inr ⟨by decide, by decide⟩, .inl ⟨_, rfl, _, _, rfl, rfl, (by show (0 : Int) < _; decide), ?_⟩⟩
      refine ⟨_, _, rfl, rfl, ⟨by decide, by decide⟩, _, rfl, _, _, rfl, rfl, hm, ?_⟩
      refine k _ _ (Int.emod_nonneg _ (by omega)) (Int.emod_lt_of_pos _ hm) (But.put But.refl) ⟨_, _, upd_same, hx, Int.emod_nonneg _ (by decide)⟩
theorem sc_law_of : FnScope ["bag", "some"] ["bag", "some"] (defScope s_law_of) := ⟨rfl, rfl, rfl, by decide +kernel, rfl, by decide +kernel, by decide +kernel⟩
theorem ok_of {ft : Addr} {fdt : FuncData} (F : FnP K "_law_of" s_law_of f fd) (T : Free mg) (c_law_take : Cal P w K mg base CX0 1 "_law_take" ft fdt ["bag", "many"] spTake) : FnOk P w K mg base CX0 2 f fd ["bag", "some"] (spOf K) := by
  refine F.ok sc_law_of (fun vs H Q E h => ?_) (fun cdv A outer s H vs Q E hr h => ⟨_, PSs.nox (pss_one (ps_ret (pe_ix ix_list (pv 1) (pe_cal c_law_take (hr.mono (by decide)) (pa_cons (pv 0) (pa_cons (pe_callB call_len_seq (by rfl) T.len boot_len (pa_cons (pv 1) pa_nil)) pa_nil))) (fun _ _ => rfl)))), ?_⟩)
  · obtain ⟨b, l, xs, rfl, _⟩ := h
    rfl
  · obtain ⟨b, l, xs, rfl, hb, hne, hl, hx, hlen, k⟩ := h
    have hpos : 0 < xs.length := List.length_pos_iff.mpr hx
    refine ⟨_, rfl, _, rfl, _, rfl, l, _, rfl, .inl hl, b, _, rfl, hb, by omega, by omega, fun d H' h0 h1 hB hb' => ?_⟩
    refine ⟨l, xs, d, xs[d.toNat]'(by omega), rfl, rfl, hB.list hne hl, ?_, ?_⟩
    · exact at_of (j := d.toNat) (by omega) (List.getElem?_eq_getElem _)
    · exact k _ _ (List.getElem_mem _) hB hb'
theorem sc_law_bag : FnScope ["script", "at", "cell", "mixed", "k", "each"] ["script", "at"] (defScope s_law_bag) := ⟨rfl, rfl, rfl, by decide +kernel, rfl, by decide +kernel, by decide +kernel⟩
theorem ok_bag (F : FnP K "_law_bag" s_law_bag f fd) (T : Free mg) : FnOk P w K mg base CX0 1 f fd ["script", "at"] (spBag K) := by
  refine F.ok sc_law_bag (fun vs H Q E h => ?_) (fun cdv A outer s H vs Q E hr h => ⟨_, PSs.nox (pss_cons (ps_set (i := 2) sc_law_bag.nd rfl (Or.inl rfl) (pe_ifExp (pt_cmpR op_lt (pv 1) (pe_callB call_len_seq (by rfl) T.len boot_len (pa_cons (pv 0) pa_nil)) (nomark _)) (pe_ix ix_list (pv 0) (pv 1) (fun _ _ => rfl)) pe_int))
 (pss_cons (ps_set (i := 3) sc_law_bag.nd rfl (Or.inl rfl) (pe_op op_add (pe_op op_mul pe_int (pv 1)) pe_int))
 (pss_cons (ps_for PassesOwn.never rfl (pi_enum (by rfl) T.enumerate (pa_cons (pe_slice sl_list (pv 0) po_none (po_some pe_int)) pa_nil)) (pg_tup rfl (pgs_cons (pg_name (i := 4) sc_law_bag.nd rfl (Or.inl rfl)) (pgs_cons (pg_name (i := 5) sc_law_bag.nd rfl (Or.inl rfl)) pgs_nil)))
 (pss_one (ps_set (i := 3) sc_law_bag.nd rfl (Or.inl rfl) (pe_op op_mod (pe_callTy call_int1 (by rfl) T.int boot_int (pa_cons (pe_op op_add (pe_op op_add (pe_op op_mul (pv 3) pe_int) (pe_op op_mod (pe_callTy call_int1 (by rfl) T.int boot_int (pa_cons (pv 5) pa_nil)) pe_int)) (pe_op op_mul pe_int (pv 4))) pa_nil)) pe_int))))
 (pss_one (ps_ret (pe_lst (pa_cons (pe_ifExp (pt_cmpR op_ge (pe_callB call_abs (by rfl) T.abs boot_abs (pa_cons (pv 2) pa_nil)) (pe_op op_pow pe_int pe_int) (nomark _)) (pe_callB call_abs (by rfl) T.abs boot_abs (pa_cons (pv 2) pa_nil)) pe_int) (pa_cons (pv 3) pa_nil)))))))), ?_⟩)
  · obtain ⟨a, ns, n, rfl, _⟩ := h
    rfl
  · obtain ⟨a, ns, n, rfl, hS, hlen, hn, k⟩ := h
    refine ⟨_, rfl, _, rfl, a, _, rfl, .inl hS, _, _, rfl, rfl, _, rfl, ?_⟩
    refine' pick (α := Int) ?main ?rest
    case main =>
      intro go
      refine ite2 (fun hlt => ?_) (fun _ => ?_)
      have hlt2 : n < ns.length := by
        have q := of_decide_eq_true hlt
        rw [len_ints] at q
        omega
      obtain ⟨u, hu⟩ : ∃ u, ns[n]? = some u := ⟨_, List.getElem?_eq_getElem hlt2⟩
      exact ⟨_, rfl, _, rfl, a, _, _, V.int u, rfl, rfl, hS, at_of rfl (by rw [List.getElem?_map, hu]; rfl), go u⟩
      exact go 0
    case rest =>
      intro c
      refine ⟨_, rfl, _, _, rfl, rfl, .inl ⟨by decide, by decide⟩, _, _, rfl, rfl, ?_⟩
      refine ⟨_, rfl, _, rfl, a, _, rfl, hS, fun p np => ⟨p, _, rfl, SqL.of upd_same, ?_⟩⟩
      refine for_it (walk_enum (xs := cutV (ns.map V.int) none (some 63))) (fun _ σ H' => ∃ (m : Int) (kv ev : Option V), σ = [some (.ref a), some (.int n), some (.int c), some (.int m), kv, ev] ∧ Same (upd H p (.lst (cutV (ns.map V.int) none (some 63)))) H' ∧ 0 ≤ m)
        ⟨_, none, none, rfl, Same.refl _, by omega⟩ (fun i σ H' _ ⟨m, kv, ev, _, R, _⟩ => SqL.of (R _ _ upd_same)) ?_ ?_
      · rintro i x σ H1 H2 hi ⟨m, kv, ev, rfl, R, hm⟩ ⟨t, k1, x1, rfl, nt, rfl, hk, hx⟩
        cases hk
        obtain ⟨u, rfl⟩ := int_of_mem (mem_cut (List.mem_of_getElem? hx))
        refine ⟨t, _, rfl, .inl (.inl upd_same), rfl, ?_⟩
        refine ⟨_, _, rfl, _, _, rfl, rfl, ?_⟩
        refine ⟨_, rfl, _, _, rfl, rfl, .inr ⟨by decide, by decide⟩, _, rfl, .inl ⟨_, rfl, _, _, rfl, rfl, (by show (0 : Int) < _; decide), _, _, rfl, rfl, _, rfl, _, _, rfl, rfl, .inl ⟨by decide, by decide⟩, _, _, rfl, rfl, .inl ⟨_, rfl, _, _, rfl, rfl, (by show (0 : Int) < _; decide), ?_⟩⟩⟩
        exact ⟨_, _, _, rfl, same_new R nt, Int.emod_nonneg _ (by decide)⟩
      · rintro σ H' ⟨m, kv, ev, rfl, R, hm⟩
        refine ⟨_, rfl, _, rfl, _, _, rfl, rfl, ⟨by decide, by decide, by decide⟩, _, _, rfl, rfl, _, rfl, ?_⟩
        refine' pickP (α := Int) (fun z => 0 ≤ z) ?main2 ?rest2
        case main2 =>
          intro go
          refine ite2 (fun _ => ?_) (fun _ => ?_)
          obtain ⟨u, hu, e⟩ : ∃ u, 0 ≤ u ∧ u = (if c < 0 then -c else c) := ⟨_, abs_nn c, rfl⟩
          refine ⟨_, rfl, _, rfl, ?_⟩
          rw [← e]
          exact go u hu
          exact go 0 (by omega)
        case rest2 =>
          intro x hx
          refine ⟨_, rfl, (by show 2 ≤ sizeLine; decide), fun b nb => ?_⟩
          exact k b _ (same_new ((same_newH np).trans R) nb) ((same_newH np).free (R.free nb)) ⟨_, _, upd_same, hx, hm⟩

theorem sc_is_word : FnScope ["thing", "letter"] ["thing"] (defScope s_is_word) := ⟨rfl, rfl, rfl, by decide +kernel, rfl, by decide +kernel, by decide +kernel⟩
theorem ok_is_word {aK : Addr} (F : FnP K "is_word" s_is_word f fd) (T : Txt K mg aK) : FnOk P w K mg base CX0 1 f fd ["thing"] spIsWord := by
  refine F.ok sc_is_word (fun vs H Q E h => ?_) (fun cdv A outer s H vs Q E hr h => ⟨_, PSs.nox (pss_cons (ps_if (PW.pt (pw_or (pt_not (pt_val (pe_callB call_isi (by rfl) T.isinstance boot_isinstance (pa_cons (pv 0) (pa_cons (pe_bltn (v := .ty "str") (by rfl) T.str boot_str rfl) pa_nil))))) (pw_or1 (pt_cmpR op_in_seq (pv 0) (pe_glob (v := .ref _) (by rfl) T.g_KEPT rfl) (by rfl)))))
 (pss_one (ps_ret pe_bl))
 pss_nil)
 (pss_one (ps_ret (pe_and (pe_chain op_le op_le pe_int (pe_callB call_len_str (by rfl) T.len boot_len (pa_cons (pv 0) pa_nil)) (pe_gint (by rfl) T.g_WORD_LETTERS)) (pe_one (pe_callB (cr_all rfl) (by rfl) T.all boot_all (pa_cons (pe_lc (own := [("letter", 1)]) rfl sc_is_word.nd (pi_str (pv 0)) (blkOk_by (N := ["thing", "letter"]) (sc := defScope s_is_word) (by decide +kernel)) (fun _ _ _ _ _ => (pg_name (i := 1) sc_is_word.nd rfl (Or.inl rfl))) (fun _ _ _ _ _ => pts_nil) (fun _ _ _ _ _ => (pe_chain op_le_str op_le_str pe_str (pv 1) pe_str))) pa_nil))))))), ?_⟩)
  · obtain ⟨v, t, rfl, _⟩ := h
    rfl
  · obtain ⟨v, t, rfl, ht, hz, k⟩ := h
    refine ⟨_, rfl, _, _, _, _, _, rfl, .ty _, kd_ok ht, kit_str t, _, rfl, ?_⟩
    by_cases e : t = .str
    · subst e
      obtain ⟨z, rfl⟩ := kd_str ht
      have hlen := hz z rfl
      refine iteNS rfl ?_
      refine ⟨_, rfl, aK, keptL.map V.str, rfl, .inr (T.s_KEPT _), rfl, flat_strs _, _, rfl, ?_⟩
      refine ite2 (fun h1 => ?_) (fun h1 => ?_)
      · have h2 : inV (.str z) (keptL.map V.str) = true := h1
        have q : Q (V.bl (wordB z)) H := k H (Same.refl H)
        unfold wordB at q
        rw [h2] at q
        exact q
      · have h2 : inV (.str z) (keptL.map V.str) = false := by
          rw [← Bool.not_eq_true]
          exact h1
        have k0 : ∀ H', Same H H' → Q (V.bl (wordB z)) H' := k
        unfold wordB at k0
        rw [h2] at k0
        have k2 : ∀ H', Same H H' → Q (V.bl ((decide ((1 : Int) ≤ (z.length : Nat)) && decide (((z.length : Nat) : Int) ≤ 8)) && z.cps.toList.all lowB)) H' := k0
        refine ⟨_, rfl, z, rfl, Nat.le_of_lt (small1000 hlen), _, _, rfl, rfl, _, rfl, ?_⟩
        refine ite2 (fun h3 => ?_) (fun h3 => ?_)
        · rw [h3] at k2
          refine ⟨_, _, rfl, rfl, _, rfl, ?_⟩
          refine ite2 (fun h4 => ?_) (fun h4 => ?_)
          · rw [h4] at k2
            refine ⟨_, rfl, z, rfl, fun D nD => ?_⟩
            refine lc_it walk_str (fun i H' => H' = upd H D (.lst (((z.cps.toList.take i).map lowB).map V.bl))) rfl (fun i H' _ e => True.intro) (fun i x H' H2 hi e y => ?_) (fun H' e => ?_)
            · subst e
              obtain ⟨rfl, c, hc, rfl⟩ := y
              have hc2 : z.cps.toList[i]? = some c := by
                rw [Array.getElem?_toList]
                exact hc
              have fin : ∀ b, b = lowB c → ∃ acc, upd H D (.lst (((z.cps.toList.take i).map lowB).map V.bl)) D = some (.lst acc) ∧ acc.length < sizeLine ∧
                  upd (upd H D (.lst (((z.cps.toList.take i).map lowB).map V.bl))) D (.lst (acc ++ [V.bl b])) = upd H D (.lst (((z.cps.toList.take (i + 1)).map lowB).map V.bl)) := by
                intro b eb
                refine ⟨_, upd_same, small1000 ?_, ?_⟩
                · simp
                  have : z.cps.size = z.length := rfl
                  omega
                · rw [upd_upd, eb, map_take_snoc lowB hc2, List.map_append] <;> rfl
              refine ⟨rfl, _, rfl, _, _, rfl, rfl, _, rfl, ?_⟩
              have q1 : (!decide (([c] : List Nat) < [97])) = decide (97 ≤ c) := le_sign c 97
              have q2 : (!decide (([122] : List Nat) < [c])) = decide (c ≤ 122) := le_sign 122 c
              refine ite2 (fun h5 => ?_) (fun h5 => ?_)
              · have h6 : decide (97 ≤ c) = true := q1.symm.trans h5
                refine ⟨_, _, rfl, rfl, fin _ ?_⟩
                unfold lowB
                rw [h6]
                exact q2
              · have h6 : decide (97 ≤ c) = false := by
                  rw [← q1, ← Bool.not_eq_true]
                  exact h5
                refine fin _ ?_
                unfold lowB
                rw [h6]
                rfl
            · subst e
              refine ⟨D, z.cps.toList.map lowB, rfl, SqL.of (by rw [upd_same, List.take_of_length_le (by simp)]), ?_⟩
              rw [all_id_map]
              exact k2 _ (same_newH nD)
          · rw [Bool.not_eq_true] at h4
            rw [h4] at k2
            exact k2 _ (Same.refl H)
        · rw [Bool.not_eq_true] at h3
          rw [h3] at k2
          exact ⟨_, rfl, k2 _ (Same.refl H)⟩
    · rw [decide_eq_false e]
      refine iteT ?_
      have q := k H (Same.refl H)
      rw [wordV_not ht e] at q
      exact q

theorem sc_first_bad : FnScope ["names", "at", "name"] ["names"] (defScope s_first_bad) := ⟨rfl, rfl, rfl, by decide +kernel, rfl, by decide +kernel, by decide +kernel⟩
theorem ok_first_bad {aK fw : Addr} {fdw : FuncData} (F : FnP K "first_bad" s_first_bad f fd) (T : Txt K mg aK) (c_is_word : Cal P w K mg base CX0 1 "is_word" fw fdw ["thing"] spIsWord) : FnOk P w K mg base CX0 2 f fd ["names"] (spFirstBadA K) := by
  refine F.ok sc_first_bad (fun vs H Q E h => ?_) (fun cdv A outer s H vs Q E hr h => ⟨_, PSs.nox (pss_cons (ps_if (pt_not (pt_chain op_le op_le pe_int (pe_callB call_len_seq (by rfl) T.len boot_len (pa_cons (pv 0) pa_nil)) (pe_gint (by rfl) T.g_MOST_COLUMNS)))
 (pss_one (ps_ret (pe_un un_neg pe_int)))
 pss_nil)
 (pss_cons (ps_for PassesOwn.never rfl (pi_enumA (by rfl) T.enumerate (pa_cons (pv 0) pa_nil)) (pg_tup rfl (pgs_cons (pg_name (i := 1) sc_first_bad.nd rfl (Or.inl rfl)) (pgs_cons (pg_name (i := 2) sc_first_bad.nd rfl (Or.inl rfl)) pgs_nil)))
 (pss_one (ps_if (PW.pt (pw_or (pt_not (pt_val (pe_cal c_is_word (hr.mono (by decide)) (pa_cons (pv 2) pa_nil)))) (pw_or1 (pt_cmpR op_in_seq (pv 2) (pe_slice sl_A (pv 0) po_none (po_some (pv 1))) (by rfl)))))
 (pss_one (ps_ret (pv 1)))
 pss_nil)))
 (pss_one (ps_ret pe_non)))), ?_⟩)
  · obtain ⟨a, xs, rfl, _⟩ := h
    rfl
  · obtain ⟨a, xs, rfl, ha, hlen, hx, k⟩ := h
    have bad : (decide ((1 : Int) ≤ (xs.length : Nat)) && decide (((xs.length : Nat) : Int) ≤ 3)) = false → Q (.int (-1)) H := by
      intro e
      have q := k H (Same.refl H)
      unfold dueV at q
      rw [e] at q
      exact q
    refine ⟨_, rfl, a, xs, rfl, ha.seqA, _, _, rfl, rfl, _, rfl, ?_⟩
    refine ite2 (fun h1 => ?_) (fun h1 => ?_)
    rotate_left
    · rw [Bool.not_eq_true] at h1
      refine ⟨_, rfl, iteT ?_⟩
      exact ⟨_, rfl, bad (by rw [h1]; rfl)⟩
    refine ⟨_, _, rfl, rfl, _, rfl, ?_⟩
    refine ite2 (fun h2 => ?_) (fun h2 => ?_)
    · rw [Bool.not_eq_true'] at h2
      exact ⟨_, rfl, bad (by rw [h1, h2]; rfl)⟩
    have h2 : decide (((xs.length : Nat) : Int) ≤ 3) = true := by
      cases q : decide (((xs.length : Nat) : Int) ≤ 3) with
      | true => rfl
      | false => exact absurd (by rw [q]; rfl) h2
    have good : ∀ H', Same H H' → Q (match badFrom [] xs with
        | some i => .int (i : Nat)
        | none => .non) H' := by
      intro H' e
      have q := k H' e
      unfold dueV at q
      rw [h1, h2] at q
      exact q
    refine ⟨_, rfl, a, xs, rfl, ha.seqA, fun J G w hG => ?_⟩
    refine for_it w (fun i σ H' => ∃ (av nv : Option V), σ = [some (.ref a), av, nv] ∧ Same H H' ∧ badFrom [] xs = badFrom (xs.take i) (xs.drop i) ∧ ∀ x ∈ xs.take i, wordV x = true)
      ⟨none, none, rfl, Same.refl _, by rw [List.take_zero, List.drop_zero], by simp⟩ (fun i σ H' _ ⟨_, _, _, R, _⟩ => hG H' R) ?_ ?_
    · rintro i x σ H1 H2 hi ⟨av, nv, rfl, R, hb, hw⟩ ⟨t, k1, x1, rfl, nt, rfl, hk, hx1⟩
      cases hk
      have hx1 : xs[i]? = some x1 := hx1
      refine ⟨t, _, rfl, .inl (.inl upd_same), rfl, ?_⟩
      refine ⟨_, _, rfl, _, _, rfl, rfl, ?_⟩
      have R1 := same_new (o := .tup [V.int (i : Nat), x1]) R nt
      obtain ⟨t1, ht1, hz1⟩ := (hx x1 (List.mem_of_getElem? hx1)).same R1
      have hd : xs.drop i = x1 :: xs.drop (i + 1) := by
        obtain ⟨hlt, e⟩ := List.getElem?_eq_some_iff.mp hx1
        rw [← e]
        exact List.drop_eq_getElem_cons hlt
      have hlt : i < xs.length := (List.getElem?_eq_some_iff.mp hx1).1
      have htl : (xs.take i).length = i := by
        rw [List.length_take]
        omega
      have hit : (!(wordV x1) || inV x1 (xs.take i)) = true → badFrom [] xs = some i := by
        intro e
        rw [hb, hd]
        show (if (!(wordV x1) || inV x1 (xs.take i)) = true then some (xs.take i).length else _) = some i
        rw [if_pos e, htl]
      have mis : (!(wordV x1) || inV x1 (xs.take i)) = false → badFrom [] xs = badFrom (xs.take (i + 1)) (xs.drop (i + 1)) := by
        intro e
        rw [hb, hd]
        show (if (!(wordV x1) || inV x1 (xs.take i)) = true then some (xs.take i).length else _) = _
        rw [if_neg (by rw [e]; decide), ← take_snoc hx1]
      refine ⟨_, rfl, x1, t1, rfl, ht1, hz1, fun H3 R3 => ?_⟩
      have RH := R1.trans R3
      refine ⟨_, rfl, ite2 (fun h3 => ?_) (fun h3 => ?_)⟩
      · refine iteT ⟨_, rfl, ?_⟩
        have q := good H3 RH
        rw [hit (by rw [h3]; rfl)] at q
        exact q
      · have hw1 : wordV x1 = true := by
          cases q : wordV x1 with
          | true => rfl
          | false => exact absurd (by rw [q]; rfl) h3
        refine ⟨_, rfl, _, rfl, _, rfl, _, rfl, a, xs, rfl, ha.seqA.same RH, fun p H4 S4 hp4 => ?_⟩
        refine ⟨p, _, rfl, hp4, word_flat hw1, ?_, _, rfl, ?_⟩
        · rw [cut_take]
          exact List.all_eq_true.mpr fun y hy => word_flat (hw y hy)
        · rw [cut_take]
          refine ite2 (fun h4 => ?_) (fun h4 => ?_)
          · refine ⟨_, rfl, ?_⟩
            have q := good _ (RH.trans S4)
            rw [hit (by rw [show inV x1 (xs.take i) = true from h4, Bool.or_true])] at q
            exact q
          · have h5 : inV x1 (xs.take i) = false := by
              rw [← Bool.not_eq_true]
              exact h4
            refine ⟨_, _, rfl, RH.trans S4, mis (by rw [hw1, h5]; rfl), fun y hy => ?_⟩
            rw [take_snoc hx1] at hy
            rcases List.mem_append.mp hy with hy | hy
            · exact hw y hy
            · rw [List.mem_singleton.mp hy]
              exact hw1
    · rintro σ H' ⟨av, nv, rfl, R, hb, hw⟩
      have q := good H' R
      rw [hb, List.drop_length] at q
      exact q

theorem sc_Tableinit : FnScope ["self", "columns", "at"] ["self", "columns"] (defScope s_Tableinit) := ⟨rfl, rfl, rfl, by decide +kernel, rfl, by decide +kernel, by decide +kernel⟩
theorem ok_Tableinit {aK fb : Addr} {fdb : FuncData} (F : FnM K "__init__" "Table.__init__" s_Tableinit f fd) (T : Txt K mg aK) (TC : TxC K C) (c_first_bad : Cal P w K mg base CX0 2 "first_bad" fb fdb ["names"] (spFirstBadA K)) : FnOk P w K mg base CX0 3 f fd ["self", "columns"] (spTableA K C) := by
  refine F.ok sc_Tableinit (fun vs H Q E h => ?_) (fun cdv A outer s H vs Q E hr h => ⟨_, PSs.nox (pss_cons (ps_set (i := 2) sc_Tableinit.nd rfl (Or.inl rfl) (pe_cal c_first_bad (hr.mono (by decide)) (pa_cons (pv 1) pa_nil)))
 (pss_cons (ps_if (pt_cmpR op_notN (pv 2) pe_non (nomark _))
 (pss_one ps_never)
 pss_nil)
 (pss_one (ps_fld (pv 0) (pe_callTy call_tuple_of (by rfl) T.tuple boot_tuple (pa_cons (pv 1) pa_nil)) rfl)))), ?_⟩)
  · obtain ⟨p, a, dx, xs, rfl, _⟩ := h
    rfl
  · obtain ⟨p, a, dx, xs, rfl, hp, ha, hlen, hx, hd, k⟩ := h
    refine ⟨_, rfl, a, xs, rfl, ha, hlen, hx, fun H1 R1 => ?_⟩
    rw [hd]
    refine ⟨_, rfl, rfl, _, rfl, iteNS rfl ?_⟩
    have hp1 := R1 _ _ hp
    rcases ha with ha | ha
    · refine ⟨_, rfl, a, xs, rfl, .inl ⟨R1.seq ha, fun t nt => ?_⟩⟩
      have npt := ne_of_none hp1 nt
      refine ⟨_, rfl, p, C, dx, [], rfl, (by rw [upd_ne npt]; exact hp1), TC.cl, TC.nC, (by show 0 < 1000; decide), ?_⟩
      refine k _ (fun q o n e => ?_) ⟨dx, t, upd_same, by rw [upd_ne npt.symm, upd_same]⟩
      rw [upd_ne n, upd_ne (ne_of_none (R1 _ _ e) nt)]
      exact R1 _ _ e
    · have ha1 := R1 _ _ ha
      refine ⟨_, rfl, a, xs, rfl, .inr ⟨SqT.of ha1, ?_⟩⟩
      refine ⟨_, rfl, p, C, dx, [], rfl, hp1, TC.cl, TC.nC, (by show 0 < 1000; decide), ?_⟩
      refine k _ (fun q o n e => ?_) ⟨dx, a, upd_same, by rw [upd_ne (ne_of ha1 hp1 nofun)]; exact ha1⟩
      rw [upd_ne n]
      exact R1 _ _ e

theorem sc_is_integer : FnScope ["thing"] ["thing"] (defScope s_is_integer) := ⟨rfl, rfl, rfl, by decide +kernel, rfl, by decide +kernel, by decide +kernel⟩
theorem ok_is_integer (F : FnP K "is_integer" s_is_integer f fd) (T : Free mg) : FnOk P w K mg base CX0 1 f fd ["thing"] spIsInt := by
  refine F.ok sc_is_integer (fun vs H Q E h => ?_) (fun cdv A outer s H vs Q E hr h => ⟨_, PSs.nox (pss_one (ps_ret (pe_and (pe_callB call_isi (by rfl) T.isinstance boot_isinstance (pa_cons (pv 0) (pa_cons (pe_bltn (v := .ty "int") (by rfl) T.int boot_int rfl) pa_nil))) (pe_one (pe_not (pe_callB call_isi (by rfl) T.isinstance boot_isinstance (pa_cons (pv 0) (pa_cons (pe_bltn (v := .ty "bool") (by rfl) T.bool boot_bool rfl) pa_nil)))))))), ?_⟩)
  · obtain ⟨v, t, rfl, _⟩ := h
    rfl
  · obtain ⟨v, t, rfl, ht, k⟩ := h
    refine ⟨_, rfl, _, _, _, _, _, rfl, .ty _, kd_ok ht, kit_int t, _, rfl, ?_⟩
    rw [← int_not_bool ht] at k
    refine ite2 (fun h1 => ?_) (fun h1 => ?_)
    · rw [h1] at k
      exact ⟨_, rfl, _, _, _, _, _, rfl, .ty _, kd_ok ht, kit_bool t, _, rfl, k⟩
    · rw [Bool.not_eq_true] at h1
      rw [h1] at k
      exact k

theorem sc_Tablecontains : FnScope ["self", "thing", "part"] ["self", "thing"] (defScope s_Tablecontains) := ⟨rfl, rfl, rfl, by decide +kernel, rfl, by decide +kernel, by decide +kernel⟩
theorem ok_Tablecontains {aK fi : Addr} {fdi : FuncData} (F : FnM K "__contains__" "Table.__contains__" s_Tablecontains f fd) (T : Txt K mg aK) (TC : TxC K C) (c_is_integer : Cal P w K mg base CX0 1 "is_integer" fi fdi ["thing"] spIsInt) : FnOk P w K mg base CX0 2 f fd ["self", "thing"] (spContains C) := by
  refine F.ok sc_Tablecontains (fun vs H Q E h => ?_) (fun cdv A outer s H vs Q E hr h => ⟨_, PSs.nox (pss_cons (ps_if (PW.pt (pw_or (pt_not (pt_val (pe_callB call_isi (by rfl) T.isinstance boot_isinstance (pa_cons (pv 1) (pa_cons (pe_bltn (v := .ty "tuple") (by rfl) T.tuple boot_tuple rfl) pa_nil))))) (pw_or1 (pt_cmpR op_ne (pe_callB call_len_seq (by rfl) T.len boot_len (pa_cons (pv 1) pa_nil)) (pe_callB call_len_seq (by rfl) T.len boot_len (pa_cons (pe_fld (pv 0) rfl) pa_nil)) (nomark _)))))
 (pss_one (ps_ret pe_bl))
 pss_nil)
 (pss_one (ps_ret (pe_callB (cr_all rfl) (by rfl) T.all boot_all (pa_cons (pe_lc (own := [("part", 2)]) rfl sc_Tablecontains.nd (pi_tup (pv 1)) (blkOk_by (N := ["self", "thing", "part"]) (sc := defScope s_Tablecontains) (by decide +kernel)) (fun _ _ _ _ _ => (pg_name (i := 2) sc_Tablecontains.nd rfl (Or.inl rfl))) (fun _ _ _ _ _ => pts_nil) (fun _ _ _ _ _ => (pe_cal c_is_integer (hr.mono (by decide)) (pa_cons (pv 2) pa_nil)))) pa_nil))))), ?_⟩)
  · obtain ⟨p, v, xs, rfl, _⟩ := h
    rfl
  · obtain ⟨p, v, cs, rfl, ⟨dx, ct, hp, hct⟩, hcl, ⟨⟨t, ht⟩, hk⟩, k⟩ := h
    refine ⟨_, rfl, _, _, _, _, _, rfl, .ty _, kd_ok ht, kit_tuple t, _, rfl, ?_⟩
    by_cases e : t = .tup
    · subst e
      obtain ⟨a, xs, rfl, ha⟩ := kd_tuple ht
      obtain ⟨hlen, hx⟩ := hk a xs rfl ha
      refine iteNS rfl ?_
      refine ⟨_, rfl, a, xs, rfl, .inr (SqT.of ha), _, rfl, p, C, dx, _, _, rfl, hp, TC.cl, TC.nC, rfl, ct, cs, rfl, .inr (SqT.of hct), rfl, _, rfl, ?_⟩
      by_cases em : (xs.length : Int) = (cs.length : Nat)
      · rw [decide_eq_true (show V.int (xs.length : Int) = V.int (cs.length : Int) by rw [em])]
        refine iteF ?_
        refine ⟨_, rfl, a, rfl, ⟨xs, SqT.of ha⟩, fun D nD => ?_⟩
        have naD := ne_of_none ha nD
        refine lc_tup (xs := xs) (fun i H' => H' = upd H D (.lst (((xs.take i).map isIntV).map V.bl))) rfl (fun i H' _ e => ?_) (fun i x H' hx1 e => ?_) (fun H' e => ?_)
        · subst e
          exact SqT.of (by rw [upd_ne naD]; exact ha)
        · subst e
          refine ⟨rfl, ?_⟩
          obtain ⟨t2, ht2⟩ := hx x (List.mem_of_getElem? hx1)
          have ht3 : kd (upd H D (.lst (((xs.take i).map isIntV).map V.bl))) x = some t2 := kd_same ht2 (same_newH nD)
          refine ⟨_, rfl, x, t2, rfl, ht3, _, upd_same, small1000 (by simp; omega), ?_⟩
          rw [upd_upd, map_take_snoc isIntV hx1, List.map_append] <;> rfl
        · subst e
          refine ⟨D, xs.map isIntV, rfl, SqL.of (by rw [upd_same, List.take_length]), ?_⟩
          have q := k (upd H D (.lst (((xs.take xs.length).map isIntV).map V.bl))) (same_newH nD)
          rw [rowB_tup ha, decide_eq_true em, Bool.true_and] at q
          rw [all_id_map]
          exact q
      · rw [decide_eq_false (show ¬ V.int (xs.length : Int) = V.int (cs.length : Int) from fun z => em (V.int.inj z))]
        refine iteT ?_
        have q := k H (Same.refl H)
        rw [rowB_tup ha, decide_eq_false em] at q
        exact q
    · rw [decide_eq_false e]
      refine iteT ?_
      have q := k H (Same.refl H)
      rw [rowB_not ht e] at q
      exact q

theorem sc_Tableeq : FnScope ["self", "other"] ["self", "other"] (defScope s_Tableeq) := ⟨rfl, rfl, rfl, by decide +kernel, rfl, by decide +kernel, by decide +kernel⟩
theorem ok_Tableeq (F : FnM K "__eq__" "Table.__eq__" s_Tableeq f fd) (T : TxG mg C) (TC : TxC K C) (N : NeAt K C) : FnOk P w K mg base CX0 1 f fd ["self", "other"] (spEqT C) := by
  refine F.ok sc_Tableeq (fun vs H Q E h => ?_) (fun cdv A outer s H vs Q E hr h => ⟨_, PSs.nox (pss_one (ps_ret (pe_and (pe_callB call_isi (by rfl) T.isinstance boot_isinstance (pa_cons (pv 1) (pa_cons (pe_glob (v := .ref _) (by rfl) T.g_Table rfl) pa_nil))) (pe_one (pe_cmpR (op_eqD (hu_of' hr)) (pe_fld (pv 0) rfl) (pe_fld (pv 1) rfl) (nomark _)))))), ?_⟩)
  · obtain ⟨p, y, ys, rfl, _⟩ := h
    rfl
  · obtain ⟨p, y, ys, rfl, ⟨dx, t, hp, ht⟩, hw, k⟩ := h
    rcases k with ⟨q, zs, rfl, ⟨dy, u, hq, hu⟩, hz, k⟩ | ⟨t1, ht1, h3, k⟩
    · have kC : PySem.W.kitOne K (.ref C) (.ref C) = some true := by
        unfold PySem.W.kitOne
        rw [if_pos (beq_self_eq_true _)]
      refine ⟨_, rfl, _, _, _, _, _, rfl, .own _, N.ty hq, kC, _, rfl, iteT ?_⟩
      refine ⟨_, rfl, p, C, dx, _, _, rfl, hp, TC.cl, TC.nC, rfl, _, rfl, q, C, dy, _, _, rfl, hq, TC.cl, TC.nC, rfl, ?_⟩
      refine ⟨_, _, .tup (SqT.of ht) (dp_strs ys), .tup (SqT.of hu) (dp_strs zs), shaped_tupW hw, shaped_tupW hz, ?_⟩
      rw [eqv_tups]
      exact k
    · have kC : PySem.W.kitOne K (.type t1.nm) (.ref C) = some false := by
        rcases h3 with rfl | rfl | rfl
        · exact N.kL
        · exact N.kT
        · exact N.kS
      refine ⟨_, rfl, _, _, _, _, _, rfl, .own _, kd_ok ht1, kC, _, rfl, iteF ?_⟩
      exact k

theorem sc_copied : FnScope ["thing", "part", "key"] ["thing"] (defScope s_copied) := ⟨rfl, rfl, rfl, by decide +kernel, rfl, by decide +kernel, by decide +kernel⟩
theorem ok_copied (F : FnP K "copied" s_copied f fd) (T : Free mg) : FnOk P w K mg base CX0 1 f fd ["thing"] spCopied := by
  refine F.ok sc_copied (fun vs H Q E h => ?_) (fun cdv A outer s H vs Q E hr h => ⟨_, PSs.nox (pss_cons (ps_if (pt_val (pe_callB call_isi (by rfl) T.isinstance boot_isinstance (pa_cons (pv 0) (pa_cons (pe_bltn (v := .ty "list") (by rfl) T.list boot_list rfl) pa_nil))))
 (pss_one ps_never)
 pss_nil)
 (pss_cons (ps_if (pt_val (pe_callB call_isi (by rfl) T.isinstance boot_isinstance (pa_cons (pv 0) (pa_cons (pe_bltn (v := .ty "tuple") (by rfl) T.tuple boot_tuple rfl) pa_nil))))
 (pss_one ps_never)
 pss_nil)
 (pss_cons (ps_if (pt_val (pe_callB call_isi (by rfl) T.isinstance boot_isinstance (pa_cons (pv 0) (pa_cons (pe_bltn (v := .ty "dict") (by rfl) T.dict boot_dict rfl) pa_nil))))
 (pss_one ps_never)
 pss_nil)
 (pss_one (ps_ret (pv 0)))))), ?_⟩)
  · obtain ⟨v, t, rfl, _⟩ := h
    rfl
  · obtain ⟨v, t, rfl, ht, n1, n2, k⟩ := h
    refine ⟨_, rfl, _, _, _, _, _, rfl, .ty _, kd_ok ht, kit_list t, _, rfl, ?_⟩
    rw [decide_eq_false n1]
    refine iteF ?_
    refine ⟨_, rfl, _, _, _, _, _, rfl, .ty _, kd_ok ht, kit_tuple t, _, rfl, ?_⟩
    rw [decide_eq_false n2]
    refine iteF ?_
    refine ⟨_, rfl, _, _, _, _, _, rfl, .ty _, kd_ok ht, kit_dict t, _, rfl, iteF ?_⟩
    exact ⟨_, rfl, k⟩

theorem sc_law_long : FnScope ["bag", "worth", "turn"] ["bag"] (defScope s_law_long) := ⟨rfl, rfl, rfl, by decide +kernel, rfl, by decide +kernel, by decide +kernel⟩
theorem ok_long {ft : Addr} {fdt : FuncData} (F : FnP K "_law_long" s_law_long f fd) (T : Free mg) (c_law_take : Cal P w K mg base CX0 1 "_law_take" ft fdt ["bag", "many"] spTake) : FnOk P w K mg base CX0 2 f fd ["bag"] spNumber := by
  refine F.ok sc_law_long (fun vs H Q E h => ?_) (fun cdv A outer s H vs Q E hr h => ⟨_, PSs.nox (pss_cons (ps_if (pt_cmpR op_gt (pe_cal c_law_take (hr.mono (by decide)) (pa_cons (pv 0) (pa_cons pe_int pa_nil))) pe_int (nomark _))
 (pss_one (ps_ret (pe_op op_sub (pe_cal c_law_take (hr.mono (by decide)) (pa_cons (pv 0) (pa_cons pe_int pa_nil))) pe_int)))
 pss_nil)
 (pss_cons (ps_set (i := 1) sc_law_long.nd rfl (Or.inl rfl) pe_int)
 (pss_cons (ps_for PassesOwn.never rfl (pi_range1 (by rfl) T.range (pa_cons (pe_op op_add pe_int (pe_cal c_law_take (hr.mono (by decide)) (pa_cons (pv 0) (pa_cons pe_int pa_nil)))) pa_nil)) (pg_name (i := 2) sc_law_long.nd rfl (Or.inl rfl))
 (pss_one (ps_set (i := 1) sc_law_long.nd rfl (Or.inl rfl) (pe_op op_add (pe_op op_mul (pv 1) (pe_op op_pow pe_int pe_int)) (pe_cal c_law_take (hr.mono (by decide)) (pa_cons (pv 0) (pa_cons (pe_op op_pow pe_int pe_int) pa_nil)))))))
 (pss_one (ps_ret (pe_ifExp (pt_cmpR op_eq (pe_cal c_law_take (hr.mono (by decide)) (pa_cons (pv 0) (pa_cons pe_int pa_nil))) pe_int (nomark _)) (pv 1) (pe_un un_neg (pv 1)))))))), ?_⟩)
  · obtain ⟨b, rfl, _⟩ := h
    rfl
  · obtain ⟨b, rfl, hb, k⟩ := h
    refine ⟨_, rfl, b, _, rfl, hb, by decide, by decide, fun d H1 h0 h1 B1 hb1 => ?_⟩
    refine ⟨_, _, rfl, rfl, _, rfl, ite2 (fun _ => ?_) (fun _ => ?_)⟩
    · refine ⟨_, rfl, b, _, rfl, hb1, by decide, by decide, fun d H2 h0 h1 B2 hb2 => ?_⟩
      exact ⟨_, _, rfl, rfl, k _ _ (B1.trans B2) hb2⟩
    · refine ⟨_, rfl, b, _, rfl, hb1, by decide, by decide, fun d H2 h0 h1 B2 hb2 => ?_⟩
      refine ⟨_, _, rfl, rfl, _, rfl, by omega, by omega, ?_⟩
      refine for_range (fun i σ H' => ∃ (n : Int) (tv : Option V), σ = [some (.ref b), some (.int n), tv] ∧ But b H H' ∧ Bag H' b) ⟨0, none, rfl, B1.trans B2, hb2⟩ ?_ ?_
      · rintro i σ H' hi ⟨n, tv, rfl, B, hB⟩
        refine ⟨_, rfl, _, _, rfl, rfl, ⟨by decide, by decide, by decide⟩, _, _, rfl, rfl, .inr ⟨by decide, by decide⟩, ?_⟩
        refine ⟨_, rfl, _, _, rfl, rfl, ⟨by decide, by decide, by decide⟩, b, _, rfl, hB, by decide, by decide, fun d H3 h0 h1 B3 hb3 => ?_⟩
        exact ⟨_, _, rfl, rfl, _, _, rfl, B.trans B3, hb3⟩
      · rintro σ H' ⟨n, tv, rfl, B, hB⟩
        refine ⟨_, rfl, b, _, rfl, hB, by decide, by decide, fun d H3 h0 h1 B3 hb3 => ?_⟩
        refine ⟨rfl, _, rfl, ite2 (fun _ => ?_) (fun _ => ?_)⟩
        · exact ⟨_, rfl, k _ _ (B.trans B3) hb3⟩
        · exact ⟨_, rfl, _, rfl, k _ _ (B.trans B3) hb3⟩

theorem sc_law_row : FnScope ["bag", "many", "row", "turn"] ["bag", "many"] (defScope s_law_row) := ⟨rfl, rfl, rfl, by decide +kernel, rfl, by decide +kernel, by decide +kernel⟩
theorem ok_row {fl : Addr} {fdl : FuncData} (F : FnP K "_law_row" s_law_row f fd) (T : Free mg) (c_law_long : Cal P w K mg base CX0 2 "_law_long" fl fdl ["bag"] spNumber) : FnOk P w K mg base CX0 3 f fd ["bag", "many"] spRow := by
  refine F.ok sc_law_row (fun vs H Q E h => ?_) (fun cdv A outer s H vs Q E hr h => ⟨_, PSs.nox (pss_cons (ps_set (i := 2) sc_law_row.nd rfl (Or.inl rfl) (pe_lst pa_nil))
 (pss_cons (ps_for PassesOwn.never rfl (pi_range1 (by rfl) T.range (pa_cons (pv 1) pa_nil)) (pg_name (i := 3) sc_law_row.nd rfl (Or.inl rfl))
 (pss_one (ps_expr (pe_bm PySem.F.plainAttrs_list PySem.F.slot_list_append PySem.F.type_list_append mt_append (pv 2) (pa_cons (pe_cal c_law_long (hr.mono (by decide)) (pa_cons (pv 0) pa_nil)) pa_nil)))))
 (pss_one (ps_ret (pe_callTy call_tuple_of (by rfl) T.tuple boot_tuple (pa_cons (pv 2) pa_nil)))))), ?_⟩)
  · obtain ⟨b, m, rfl, _⟩ := h
    rfl
  · obtain ⟨b, m, rfl, hb, hm0, hm3, k⟩ := h
    refine ⟨Nat.zero_le _, fun l nl => ?_⟩
    have nlb : l ≠ b := (hb.ne nl).symm
    refine ⟨_, rfl, _, rfl, by omega, by omega, ?_⟩
    refine for_range (fun i σ H' => ∃ (ns : List Int) (tv : Option V), σ = [some (.ref b), some (.int m), some (.ref l), tv] ∧ But b H H' ∧ Bag H' b ∧ H' l = some (.lst (ns.map V.int)) ∧ ns.length = i)
      ⟨[], none, rfl, But.refl.new nl, hb.new nl, upd_same, rfl⟩ ?_ ?_
    · rintro i σ H' hi ⟨ns, tv, rfl, B, hB, hl, hn⟩
      refine ⟨_, rfl, .inl ⟨rfl, _, SqL.of hl⟩, _, rfl, b, rfl, hB, fun n H2 B2 hB2 => ?_⟩
      have hl2 := B2 _ _ nlb hl
      refine ⟨l, _, _, rfl, rfl, hl2, small1000 (by rw [len_ints]; omega), ?_⟩
      exact ⟨ns ++ [n], _, rfl, (B.trans B2).putb nl, hB2.put nlb.symm, by rw [upd_same, List.map_append]; rfl, by rw [List.length_append, hn]; rfl⟩
    · rintro σ H' ⟨ns, tv, rfl, B, hB, hl, hn⟩
      refine ⟨_, rfl, l, _, rfl, .inl ⟨SqL.of hl, fun p np => ?_⟩⟩
      exact k ns p _ (by omega) (B.free ((hB.ne np).symm) np) upd_same (B.new np) (hB.new np)
theorem sc_BadRowsinit : FnScope ["self", "at"] ["self", "at"] (defScope s_BadRowsinit) := ⟨rfl, rfl, rfl, by decide +kernel, rfl, by decide +kernel, by decide +kernel⟩
theorem ok_BadRowsinit {B fc : Addr} {fdc : FuncData} (F : FnM K "__init__" "BadRows.__init__" s_BadRowsinit f fd) (T : Free mg) (BI : BaseI K B) (gE : mg "EmptyfiltersError" = some (.ref B)) (O : OexC K C) (nA : PySem.W.findIn K (.ref C) "at" = some none)
    (c_copied : Cal P w K mg base CX0 1 "copied" fc fdc ["thing"] spCopied) : FnOk P w K mg base CX0 2 f fd ["self", "at"] (spErrRow C) := by
  refine F.ok sc_BadRowsinit (fun vs H Q E h => ?_) (fun cdv A outer s H vs Q E hr h => ⟨_, PSs.nox (pss_cons (ps_expr (pe_binit BI (by rfl) gE (pa_cons (pv 0) (pa_cons (pe_joined (.cons pe_str (.cons (pe_fmt (pv 1)) .nil))) pa_nil))))
 (pss_one (ps_ost (pv 0) (pe_cal c_copied (hr.mono (by decide)) (pa_cons (pv 1) pa_nil))))), ?_⟩)
  · obtain ⟨a, i, rfl, _⟩ := h
    rfl
  · obtain ⟨a, i, rfl, ha, i0, i2, k⟩ := h
    have h0 : ∀ n : Nat, n < 64 → ((n : Nat) : Int).natAbs.log2 < 1920 ∧ ((Str.empty ++ "no row of the table: at ") ++ toString ((n : Nat) : Int) : Str).length ≤ 1000 := by decide +kernel
    have h1 : i.natAbs.log2 < 1920 ∧ ((Str.empty ++ "no row of the table: at ") ++ toString i : Str).length ≤ 1000 := by
      have q := h0 i.toNat (by omega)
      rw [show ((i.toNat : Nat) : Int) = i by omega] at q
      exact q
    refine ⟨_, rfl, _, rfl, (by decide), _, rfl, .inr ⟨i, rfl, h1.1, _, rfl, Nat.le_of_lt (small1000 h1.2), a, C, [_], rfl, (by show 1 ≤ 1000; decide), O, ha, ?_⟩⟩
    exact ⟨_, rfl, _, .int, rfl, rfl, nofun, nofun, _, rfl, a, C, rfl, O, nA, .inl ⟨ha, k⟩⟩
end
end K22

namespace K22
open PySem PySem.Spec PyProof.Rows L2 Own
theorem AllLst.but {H H' : Hp} {bs : List Addr} {b : Addr} (h : AllLst H bs) (B : But b H H') (hb : Bag H' b) : AllLst H' bs := fun x hx => by
  by_cases e : x = b
  · rw [e]
    exact hb.lst
  · obtain ⟨ys, q⟩ := h x hx
    exact ⟨ys, B _ _ e q⟩
theorem dq_tupS {H : Hp} {bs : List Addr} {a : Addr} {xs : List V} (h : H a = some (.tup xs)) (n : a ∉ bs) (f : ∀ x ∈ xs, flatS x = true) : Dq H bs (.tuple (xs.map fdV)) (.ref a) := by
  simp only [Dq]
  exact ⟨a, xs, rfl, n, h, flatS_all f⟩
theorem dq_lstS {H : Hp} {bs : List Addr} {a : Addr} {xs : List V} (h : H a = some (.lst xs)) (n : a ∉ bs) (f : ∀ x ∈ xs, flatS x = true) : Dq H bs (.list (xs.map fdV)) (.ref a) := by
  simp only [Dq]
  exact ⟨a, xs, rfl, n, h, flatS_all f⟩
theorem flat_parts {r : List Int} {x : V} {lo hi lo2 hi2 : Option Int} (hx : flatS x = true) : ∀ y ∈ cutV (r.map V.int) lo hi ++ [x] ++ cutV (r.map V.int) lo2 hi2, flatS y = true := fun y hy => by
  rcases List.mem_append.mp hy with hy | hy
  · rcases List.mem_append.mp hy with hy | hy
    · exact flatS_ints r y (mem_cut hy)
    · rw [List.mem_singleton.mp hy]
      exact hx
  · exact flatS_ints r y (mem_cut hy)
theorem parts_bad {r : List Int} {x : V} {lo hi lo2 hi2 : Option Int} (hx : isIntV x = false) : (cutV (r.map V.int) lo hi ++ [x] ++ cutV (r.map V.int) lo2 hi2).all isIntV = false := by
  rw [List.all_eq_false]
  exact ⟨x, List.mem_append_left _ (List.mem_append_right _ (List.mem_singleton.mpr rfl)), by rw [hx]; exact nofun⟩
section
variable {P : Program} {w : World} {K : PySem.W.Frag} {mg : Str → Option Value} {base : Heap} {f C : Addr} {fd : FuncData}
theorem sc_law_spoilt : FnScope ["bag", "row", "at", "some"] ["bag", "row"] (defScope s_law_spoilt) := ⟨rfl, rfl, rfl, by decide +kernel, rfl, by decide +kernel, by decide +kernel⟩
theorem ok_spoilt {ft fo : Addr} {fdt fdo : FuncData} (F : FnP K "_law_spoilt" s_law_spoilt f fd) (T : Free mg) (c_law_take : Cal P w K mg base CX0 1 "_law_take" ft fdt ["bag", "many"] spTake)
    (c_law_of : Cal P w K mg base CX0 2 "_law_of" fo fdo ["bag", "some"] (spOf K)) : FnOk P w K mg base CX0 3 f fd ["bag", "row"] spSpoilt := by
  refine F.ok sc_law_spoilt (fun vs H Q E h => ?_) (fun cdv A outer s H vs Q E hr h => ⟨_, PSs.nox (pss_cons (ps_set (i := 2) sc_law_spoilt.nd rfl (Or.inl rfl) (pe_cal c_law_take (hr.mono (by decide)) (pa_cons (pv 0) (pa_cons (pe_callB call_len_seq (by rfl) T.len boot_len (pa_cons (pv 1) pa_nil)) pa_nil))))
 (pss_cons (ps_set (i := 3) sc_law_spoilt.nd rfl (Or.inl rfl) (pe_lst (pa_cons (pe_callTy call_list_of (by rfl) T.list boot_list (pa_cons (pv 1) pa_nil)) (pa_cons (pe_op op_catS (pv 1) (pe_tup (pa_cons pe_int pa_nil))) (pa_cons (pe_slice sl_tupS (pv 1) (po_some pe_int) po_none) (pa_cons pe_non (pa_cons pe_bl (pa_cons pe_int (pa_cons pe_str (pa_cons (pe_tup (pa_cons (pv 1) pa_nil)) (pa_cons (pe_lst (pa_cons (pv 1) pa_nil)) (pa_cons (pe_op op_catS (pe_op op_catS (pe_slice sl_tupS (pv 1) po_none (po_some (pv 2))) (pe_tup (pa_cons pe_bl pa_nil))) (pe_slice sl_tupS (pv 1) (po_some (pe_op op_add (pv 2) pe_int)) po_none)) pa_nil))))))))))))
 (pss_one (ps_ret (pe_cal c_law_of (hr.mono (by decide)) (pa_cons (pv 0) (pa_cons (pe_op op_cat (pv 3) (pe_lst (pa_cons (pe_op op_catS (pe_op op_catS (pe_slice sl_tupS (pv 1) po_none (po_some (pv 2))) (pe_tup (pa_cons pe_non pa_nil))) (pe_slice sl_tupS (pv 1) (po_some (pe_op op_add (pv 2) pe_int)) po_none)) (pa_cons (pe_op op_catS (pe_op op_catS (pe_slice sl_tupS (pv 1) po_none (po_some (pv 2))) (pe_tup (pa_cons pe_str pa_nil))) (pe_slice sl_tupS (pv 1) (po_some (pe_op op_add (pv 2) pe_int)) po_none)) (pa_cons (pe_lst pa_nil) (pa_cons (pe_tup pa_nil) pa_nil)))))) pa_nil))))))), ?_⟩)
  · obtain ⟨b, t, r, bs, rfl, _⟩ := h
    rfl
  · obtain ⟨b, t, r, bs, rfl, hb, hbs, hA, ht, hn0, hn3, k⟩ := h
    have hlen : (r.map V.int).length = r.length := List.length_map ..
    have e1 : (1 : Int) ≤ (((r.map V.int).length : Nat) : Int) := by omega
    refine ⟨_, rfl, _, rfl, t, _, rfl, .inr (SqT.of ht), b, _, rfl, hb, by omega, by omega, fun d H1 d0 d1 B1 hb1 => ?_⟩
    have ht1 := Lsts.but hb B1 _ _ ht nofun
    have hA1 : AllLst H1 bs := AllLst.but hA B1 hb1
    have hcl : ∀ lo hi, (cutV (r.map V.int) lo hi).length ≤ 3 := fun lo hi => by
      have := cut_len (r.map V.int) lo hi
      omega
    -- the first list
    refine ⟨_, rfl, t, _, rfl, .inr (SqT.of ht1), fun q1 nq1 => ?_⟩
    have nb1 : q1 ∉ bs := hA1.new nq1
    have S12 := same_newH (o := .lst (r.map V.int)) nq1
    have hq1 : upd H1 q1 (.lst (r.map V.int)) q1 = some (.lst (r.map V.int)) := upd_same
    generalize upd H1 q1 (.lst (r.map V.int)) = H2 at *
    refine ⟨_, rfl, (by show 1 ≤ sizeLine; decide), fun z1 nz1 => ?_⟩
    have S23 := same_newH (o := .tup [V.int 0]) nz1
    have hz1 : upd H2 z1 (.tup [V.int 0]) z1 = some (.tup [V.int 0]) := upd_same
    generalize upd H2 z1 (.tup [V.int 0]) = H3 at *
    have ht3 := S23 _ _ (S12 _ _ ht1)
    refine ⟨t, z1, _, _, rfl, rfl, ht3, hz1, (by rw [hlen]; show _ + 1 ≤ 1000; omega), fun r2 H4 S34 hr2 => ?_⟩
    have ht4 := S34 _ _ ht3
    refine ⟨_, rfl, _, rfl, t, _, rfl, ht4, fun r3 H5 S45 hr3 => ?_⟩
    refine ⟨_, rfl, (by show 1 ≤ sizeLine; decide), fun z5 nz5 => ?_⟩
    have S56 := same_newH (o := .tup [V.ref t]) nz5
    have hz5 : upd H5 z5 (.tup [V.ref t]) z5 = some (.tup [V.ref t]) := upd_same
    generalize upd H5 z5 (.tup [V.ref t]) = H6 at *
    have S16 : Same H1 H6 := S12.trans (S23.trans (S34.trans (S45.trans S56)))
    refine ⟨_, rfl, (by show 1 ≤ sizeLine; decide), fun z6 nz6 => ?_⟩
    have nb6 : z6 ∉ bs := (hA1.same S16).new nz6
    have S67 := same_newH (o := .lst [V.ref t]) nz6
    have hz6 : upd H6 z6 (.lst [V.ref t]) z6 = some (.lst [V.ref t]) := upd_same
    generalize upd H6 z6 (.lst [V.ref t]) = H7 at *
    have ht7 := (S16.trans S67) _ _ ht1
    refine ⟨_, rfl, _, rfl, _, rfl, t, _, rfl, ht7, fun r7 H8 S78 hr7 => ?_⟩
    refine ⟨(by show 1 ≤ sizeLine; decide), fun z8 nz8 => ?_⟩
    have S89 := same_newH (o := .tup [V.bl true]) nz8
    have hz8 : upd H8 z8 (.tup [V.bl true]) z8 = some (.tup [V.bl true]) := upd_same
    generalize upd H8 z8 (.tup [V.bl true]) = H9 at *
    refine ⟨r7, z8, _, _, rfl, rfl, S89 _ _ hr7, hz8, (by have := hcl none (some d); show _ + 1 ≤ 1000; omega), fun r9 H10 S90 hr9 => ?_⟩
    have ht10 := (S78.trans (S89.trans S90)) _ _ ht7
    refine ⟨_, rfl, _, rfl, _, _, rfl, rfl, _, rfl, t, _, rfl, ht10, fun r10 H11 S01 hr10 => ?_⟩
    refine ⟨r9, r10, _, _, rfl, rfl, S01 _ _ hr9, hr10, (by rw [List.length_append]; have := hcl none (some d); have := hcl (some (d + 1)) none; show _ + 1 + _ ≤ 1000; omega), fun r11 H12 S112 hr11 => ?_⟩
    refine ⟨(by show 10 ≤ sizeLine; decide), fun q2 nq2 => ?_⟩
    have S123 := same_newH (o := .lst [V.ref q1, V.ref r2, V.ref r3, V.non, V.bl true, V.int 3, V.str "row", V.ref z5, V.ref z6, V.ref r11]) nq2
    have hq2 : upd H12 q2 (.lst [V.ref q1, V.ref r2, V.ref r3, V.non, V.bl true, V.int 3, V.str "row", V.ref z5, V.ref z6, V.ref r11]) q2 = some (.lst [V.ref q1, V.ref r2, V.ref r3, V.non, V.bl true, V.int 3, V.str "row", V.ref z5, V.ref z6, V.ref r11]) := upd_same
    have nq2b : q2 ≠ b := fun e => by
      obtain ⟨ys, q⟩ := ((S16.trans S67).trans (S78.trans (S89.trans (S90.trans (S01.trans S112))))) _ _ hb1.lst.choose_spec |> fun q => Exists.intro (p := fun ys => H12 b = some (.lst ys)) _ q
      rw [← e, nq2] at q
      cases q
    generalize upd H12 q2 (.lst [V.ref q1, V.ref r2, V.ref r3, V.non, V.bl true, V.int 3, V.str "row", V.ref z5, V.ref z6, V.ref r11]) = H13 at *
    have S7_13 : Same H7 H13 := S78.trans (S89.trans (S90.trans (S01.trans (S112.trans S123))))
    have ht13 := S7_13 _ _ ht7
    -- the second list
    refine ⟨_, rfl, _, rfl, _, rfl, _, rfl, _, rfl, t, _, rfl, ht13, fun r12 H14 S34' hr12 => ?_⟩
    refine ⟨(by show 1 ≤ sizeLine; decide), fun z13 nz13 => ?_⟩
    have S45' := same_newH (o := .tup [V.non]) nz13
    have hz13 : upd H14 z13 (.tup [V.non]) z13 = some (.tup [V.non]) := upd_same
    generalize upd H14 z13 (.tup [V.non]) = H15 at *
    refine ⟨r12, z13, _, _, rfl, rfl, S45' _ _ hr12, hz13, (by have := hcl none (some d); show _ + 1 ≤ 1000; omega), fun r14 H16 S56' hr14 => ?_⟩
    have ht16 := (S34'.trans (S45'.trans S56')) _ _ ht13
    refine ⟨_, rfl, _, rfl, _, _, rfl, rfl, _, rfl, t, _, rfl, ht16, fun r15 H17 S67' hr15 => ?_⟩
    refine ⟨r14, r15, _, _, rfl, rfl, S67' _ _ hr14, hr15, (by rw [List.length_append]; have := hcl none (some d); have := hcl (some (d + 1)) none; show _ + 1 + _ ≤ 1000; omega), fun r16 H18 S78' hr16 => ?_⟩
    have ht18 := (S67'.trans S78') _ _ ht16
    refine ⟨_, rfl, _, rfl, _, rfl, t, _, rfl, ht18, fun r17 H19 S89' hr17 => ?_⟩
    refine ⟨(by show 1 ≤ sizeLine; decide), fun z18 nz18 => ?_⟩
    have S90' := same_newH (o := .tup [V.str "1"]) nz18
    have hz18 : upd H19 z18 (.tup [V.str "1"]) z18 = some (.tup [V.str "1"]) := upd_same
    generalize upd H19 z18 (.tup [V.str "1"]) = H20 at *
    refine ⟨r17, z18, _, _, rfl, rfl, S90' _ _ hr17, hz18, (by have := hcl none (some d); show _ + 1 ≤ 1000; omega), fun r19 H21 S01' hr19 => ?_⟩
    have ht21 := (S89'.trans (S90'.trans S01')) _ _ ht18
    refine ⟨_, rfl, _, rfl, _, _, rfl, rfl, _, rfl, t, _, rfl, ht21, fun r20 H22 S12' hr20 => ?_⟩
    refine ⟨r19, r20, _, _, rfl, rfl, S12' _ _ hr19, hr20, (by rw [List.length_append]; have := hcl none (some d); have := hcl (some (d + 1)) none; show _ + 1 + _ ≤ 1000; omega), fun r21 H23 S23' hr21 => ?_⟩
    have S13_18 : Same H13 H18 := S34'.trans (S45'.trans (S56'.trans (S67'.trans S78')))
    have S18_23 : Same H18 H23 := S89'.trans (S90'.trans (S01'.trans (S12'.trans S23')))
    have S1_23 : Same H1 H23 := ((S16.trans S67).trans S7_13).trans (S13_18.trans S18_23)
    refine ⟨(by show 0 ≤ sizeLine; decide), fun q22 nq22 => ?_⟩
    have nb22 : q22 ∉ bs := (hA1.same S1_23).new nq22
    have S2324 := same_newH (o := .lst []) nq22
    have hq22 : upd H23 q22 (.lst []) q22 = some (.lst []) := upd_same
    generalize upd H23 q22 (.lst []) = H24 at *
    refine ⟨(by show 0 ≤ sizeLine; decide), fun z23 nz23 => ?_⟩
    have S2425 := same_newH (o := .tup []) nz23
    have hz23 : upd H24 z23 (.tup []) z23 = some (.tup []) := upd_same
    generalize upd H24 z23 (.tup []) = H25 at *
    refine ⟨(by show 4 ≤ sizeLine; decide), fun q24 nq24 => ?_⟩
    have S2526 := same_newH (o := .lst [V.ref r16, V.ref r21, V.ref q22, V.ref z23]) nq24
    have hq24 : upd H25 q24 (.lst [V.ref r16, V.ref r21, V.ref q22, V.ref z23]) q24 = some (.lst [V.ref r16, V.ref r21, V.ref q22, V.ref z23]) := upd_same
    generalize upd H25 q24 (.lst [V.ref r16, V.ref r21, V.ref q22, V.ref z23]) = H26 at *
    have S23_26 : Same H23 H26 := S2324.trans (S2425.trans S2526)
    refine ⟨q2, q24, _, _, rfl, rfl, ((S13_18.trans S18_23).trans S23_26) _ _ hq2, hq24, (by show 14 ≤ sizeLine; decide), fun q25 nq25 => ?_⟩
    have S2627 := same_newH (o := .lst ([V.ref q1, V.ref r2, V.ref r3, V.non, V.bl true, V.int 3, V.str "row", V.ref z5, V.ref z6, V.ref r11] ++ [V.ref r16, V.ref r21, V.ref q22, V.ref z23])) nq25
    have hq25 : upd H26 q25 (.lst ([V.ref q1, V.ref r2, V.ref r3, V.non, V.bl true, V.int 3, V.str "row", V.ref z5, V.ref z6, V.ref r11] ++ [V.ref r16, V.ref r21, V.ref q22, V.ref z23])) q25 = some (.lst ([V.ref q1, V.ref r2, V.ref r3, V.non, V.bl true, V.int 3, V.str "row", V.ref z5, V.ref z6, V.ref r11] ++ [V.ref r16, V.ref r21, V.ref q22, V.ref z23])) := upd_same
    have nq25b : q25 ≠ b := fun e => by
      obtain ⟨ys, q⟩ := hb1.lst
      have q2 := (S1_23.trans S23_26) _ _ q
      rw [← e, nq25] at q2
      cases q2
    generalize upd H26 q25 (.lst ([V.ref q1, V.ref r2, V.ref r3, V.non, V.bl true, V.int 3, V.str "row", V.ref z5, V.ref z6, V.ref r11] ++ [V.ref r16, V.ref r21, V.ref q22, V.ref z23])) = HF at *
    have S1F : Same H1 HF := (S1_23.trans S23_26).trans S2627
    have S26F : Same H23 HF := S23_26.trans S2627
    have S18F : Same H18 HF := S18_23.trans S26F
    have S13F : Same H13 HF := S13_18.trans S18F
    have S12F : Same H12 HF := S123.trans S13F
    have S7F : Same H7 HF := S7_13.trans S13F
    have S6F : Same H6 HF := S67.trans S7F
    have S5F : Same H5 HF := S56.trans S6F
    have S4F : Same H4 HF := S45.trans S5F
    have S2F : Same H2 HF := S23.trans (S34.trans S4F)
    refine ⟨b, q25, _, rfl, hb1.same S1F, nq25b, SqL.of hq25, List.cons_ne_nil _ _, (by show 14 < 1000000; decide), fun v HE hv BE hbE => ?_⟩
    have hAF := hA1.same S1F
    have fin : ∀ d, Dq HF bs d v → isRowD r.length d = false → wid d ≤ 1000 → Q v HE := fun d h1 h2 h3 =>
      k d v HE (Dq.buts (Buts.of_but BE hbs) _ _ h1) h2 h3 (B1.trans ((But.same S1F).trans BE)) hbE
    have hints := flatS_ints r
    have tup : ∀ {a : Addr} {xs : List V}, v = .ref a → HF a = some (.tup xs) → (∀ x ∈ xs, flatS x = true) → (decide (xs.length = r.length) && xs.all isIntV) = false → xs.length ≤ 1000 → Q v HE := by
      intro a xs e h f bad hl
      subst e
      refine fin _ (dq_tupS h (hAF.tup h) f) ?_ (by show (xs.map fdV).length ≤ 1000; rw [List.length_map]; exact hl)
      rw [flatS_row f]
      exact bad
    have lst : ∀ {a : Addr} {xs : List V}, v = .ref a → HF a = some (.lst xs) → a ∉ bs → (∀ x ∈ xs, flatS x = true) → Q v HE := by
      intro a xs e h n f
      subst e
      exact fin _ (dq_lstS h n f) rfl (Nat.zero_le _)
    have hl3 : ∀ (x : V) lo hi lo2 hi2, (cutV (r.map V.int) lo hi ++ [x] ++ cutV (r.map V.int) lo2 hi2).length ≤ 1000 := fun x lo hi lo2 hi2 => by
      rw [List.length_append, List.length_append]
      have := hcl lo hi
      have := hcl lo2 hi2
      show _ + 1 + _ ≤ 1000
      omega
    have mid : ∀ {a : Addr} {x : V} {lo hi lo2 hi2}, v = .ref a → HF a = some (.tup (cutV (r.map V.int) lo hi ++ [x] ++ cutV (r.map V.int) lo2 hi2)) → flatS x = true → isIntV x = false → Q v HE := by
      intro a x lo hi lo2 hi2 e h f n
      exact tup e h (flat_parts f) (by rw [parts_bad n, Bool.and_false]) (hl3 ..)
    have htF := S1F _ _ ht1
    have dr : Dq HF bs (rowDt r) (.ref t) := intT_dq ⟨t, rfl, htF⟩ fun t' e => by
      cases e
      exact hAF.tup htF
    simp only [List.cons_append, List.nil_append, List.mem_cons, List.not_mem_nil, or_false] at hv
    rcases hv with e | e | e | e | e | e | e | e | e | e | e | e | e | e
    · exact lst e (S2F _ _ hq1) nb1 hints
    · refine tup e (S4F _ _ hr2) (fun x hx => ?_) ?_ ?_
      · rcases List.mem_append.mp hx with hx | hx
        · exact hints x hx
        · rw [List.mem_singleton.mp hx]
          rfl
      · rw [decide_eq_false (by rw [List.length_append, hlen]; show ¬ r.length + 1 = r.length; omega)]
        rfl
      · rw [List.length_append, hlen]
        show _ + 1 ≤ 1000
        omega
    · have ed : cutV (r.map V.int) (some 1) none = (r.map V.int).drop 1 := cut_drop _ 1
      rw [ed] at hr3
      refine tup e (S5F _ _ hr3) (fun x hx => hints x (List.mem_of_mem_drop hx)) ?_ ?_
      · rw [decide_eq_false (by rw [List.length_drop, hlen]; omega)]
        rfl
      · rw [List.length_drop, hlen]
        omega
    · subst e
      exact fin .none (by simp only [Dq]) rfl (Nat.zero_le _)
    · subst e
      exact fin (.bool true) (by simp only [Dq]) rfl (Nat.zero_le _)
    · subst e
      exact fin (.int 3) (by simp only [Dq]) rfl (Nat.zero_le _)
    · subst e
      exact fin (.str "row") (by simp only [Dq]; exact ⟨trivial, by decide⟩) rfl (Nat.zero_le _)
    · subst e
      refine fin (.tuple [rowDt r]) ?_ ?_ (by show 1 ≤ 1000; decide)
      · have h5 := S6F _ _ hz5
        simp only [Dq, DqA]
        exact ⟨z5, _, rfl, hAF.tup h5, h5, _, _, rfl, dr, rfl⟩
      · show (decide (1 = r.length) && (isIntD (rowDt r) && true)) = false
        rw [show isIntD (rowDt r) = false from rfl, Bool.false_and, Bool.and_false]
    · subst e
      refine fin (.list [rowDt r]) ?_ rfl (Nat.zero_le _)
      simp only [Dq, DqA]
      exact ⟨z6, _, rfl, nb6, S7F _ _ hz6, _, _, rfl, dr, rfl⟩
    · exact mid e (S12F _ _ hr11) rfl rfl
    · exact mid e (S18F _ _ hr16) rfl rfl
    · exact mid e (S26F _ _ hr21) rfl rfl
    · exact lst e ((S2425.trans (S2526.trans S2627)) _ _ hq22) nb22 (fun _ h => by cases h)
    · refine tup e ((S2526.trans S2627) _ _ hz23) (fun _ h => by cases h) ?_ (Nat.zero_le _)
      rw [decide_eq_false (show ¬ ([] : List V).length = r.length from fun e => by rw [List.length_nil] at e; omega)]
      rfl
end
end K22

namespace K22
open PySem PySem.Spec PyProof.Rows L2 Own
structure TxS (K : PySem.W.Frag) (C : Addr) : Prop where
  cl : Cls K C
  nT : NoAttr K C "table"
  nR : NoAttr K C "_rows"
structure TxE (K : PySem.W.Frag) (mg : Str → Option Value) (B CB CM CR : Addr) : Prop extends Free mg where
  g_EmptyfiltersError : mg "EmptyfiltersError" = some (.ref B)
  g_BadTable : mg "BadTable" = some (.ref CB)
  g_TooManyRows : mg "TooManyRows" = some (.ref CM)
  g_BadRows : mg "BadRows" = some (.ref CR)
  own : PySem.W.exmOne K (.ref CR) (.ref CR) = some true
  inB : PySem.W.kitOne K (.ref CR) (.ref B) = some true
  notC : PySem.W.kitAny K (.ref CR) [.ref CB, .ref CM] = some false
  exc : ExcC K CR
def spTold (K : PySem.W.Frag) (CT : Addr) : Sp := fun vs H Q _ => ∃ (p g : Addr) (cs : List V) (m : Nat) (xs : List V) (ds : List PyData) (bs : List Addr), vs = [.ref p, .ref g] ∧ TabAt H CT p cs ∧ cs.length = m ∧ m ≤ 3 ∧
  H g = some (.lst xs) ∧ DqA H bs ds xs ∧ (∀ d ∈ ds, wid d ≤ 1000) ∧ xs.length ≤ 60 ∧ Told m ds (∀ H', Same H H' → Q .non H') (fun i => ∀ H', Same H H' → Q (.int i) H')
section
variable {P : Program} {w : World} {K : PySem.W.Frag} {mg : Str → Option Value} {base : Heap} {f C : Addr} {fd : FuncData}
theorem sc_Storeinit : FnScope ["self", "table", "rows", "at", "row"] ["self", "table", "rows"] (defScope s_Storeinit) := ⟨rfl, rfl, rfl, by decide +kernel, rfl, by decide +kernel, by decide +kernel⟩
theorem ok_StoreinitX {CT CR fc fe : Addr} {fdc fde : FuncData} (F : FnM K "__init__" "Store.__init__" s_Storeinit f fd) (T : Free mg) (TS : TxS K C)
    (c_Tablecontains : CalM P w K mg base CX0 2 CT "__contains__" fc fdc ["self", "thing"] (spContains CT)) (c_BadRows : CalE P w K mg base CX0 2 "BadRows" CR fe fde ["self", "at"] (spErrRow CR)) : FnOk P w K mg base (L2.CX P w) 4 f fd ["self", "table", "rows"] (spStoreX CT C CR) := by
  refine F.ok sc_Storeinit (fun vs H Q E h => ?_) (fun cdv A outer s H vs Q E hr h => ⟨_, (pss_cons (ps_for (passes_of rfl) rfl (pi_enumA (by rfl) T.enumerate (pa_cons (pv 2) pa_nil)) (pg_tup rfl (pgs_cons (pg_name (i := 3) sc_Storeinit.nd rfl (Or.inl rfl)) (pgs_cons (pg_name (i := 4) sc_Storeinit.nd rfl (Or.inl rfl)) pgs_nil)))
 (pss_one (ps_if (pt_cmpR (op_notIn_cal c_Tablecontains (hr.mono (by decide))) (pv 4) (pv 1) (by rfl))
 (pss_one (ps_raiseE c_BadRows (hr.mono (by decide)) rfl (takes_of rfl rfl rfl rfl) (pa_cons (pv 3) pa_nil)))
 pss_nil)))
 (pss_cons (ps_fld (pv 0) (pv 1) rfl)
 (pss_one (ps_fld (pv 0) (pe_callTy call_tuple_of (by rfl) T.tuple boot_tuple (pa_cons (pv 2) pa_nil)) rfl)))), ?_⟩)
  · obtain ⟨q, p, g, dx, cs, m, xs, ds, bs, rfl, _⟩ := h
    rfl
  · obtain ⟨q, p, g, dx, cs, m, xs, ds, bs, rfl, hq, hT, hm, hm3, hg, hd, hw, hlen, k, kE⟩ := h
    have hgA : SqA K H g xs := hg.elim (fun h => .inl (SqL.of h)) fun h => .inr (SqT.of h)
    have hdl := dqA_len hd
    refine ⟨_, rfl, g, xs, rfl, hgA, fun J G wk hG => ?_⟩
    refine for_it wk (fun i σ H' => ∃ (av nv : Option V), σ = [some (.ref q), some (.ref p), some (.ref g), av, nv] ∧ Same H H' ∧ ∀ (j : Nat) (e : PyData), j < i → ds[j]? = some e → isRowD m e = true)
      ⟨none, none, rfl, Same.refl _, fun j e h => absurd h (Nat.not_lt_zero j)⟩ (fun i σ H' _ ⟨_, _, _, R, _⟩ => hG H' R) ?_ ?_
    · rintro i x σ H1 H2 hi ⟨av, nv, rfl, R, hb⟩ ⟨t, k1, x1, rfl, nt, rfl, hk, hx1⟩
      cases hk
      have hx1 : xs[i]? = some x1 := hx1
      refine ⟨t, _, rfl, .inl (.inl upd_same), rfl, ?_⟩
      refine ⟨_, _, rfl, _, _, rfl, rfl, ?_⟩
      have R1 := same_new (o := .tup [V.int (i : Nat), x1]) R nt
      obtain ⟨d, hdi, hdq⟩ := dqA_get hd hx1
      have hdq1 := Dq.buts (Buts.of_same R1) _ _ hdq
      have hlt : i < xs.length := (List.getElem?_eq_some_iff.mp hx1).1
      have hT1 := hT.same R1
      obtain ⟨dy, ct, hp1, hct⟩ := id hT1
      refine ⟨_, rfl, _, rfl, p, dy, _, rfl, hp1, p, x1, cs, rfl, hT1, (by omega), dq_known hdq1 (hw d (List.mem_of_getElem? hdi)), fun H3 S3 => ⟨_, rfl, _, rfl, ?_⟩⟩
      rw [hm, dq_row hdq1]
      have R3 := R1.trans S3
      cases hrow : isRowD m d with
      | true =>
        refine iteF ?_
        refine ⟨_, _, rfl, R3, fun j e hj he => ?_⟩
        rcases Nat.lt_or_ge j i with h | h
        · exact hb j e h he
        · have : j = i := by omega
          rw [this, hdi] at he
          cases he
          exact hrow
      | false =>
        refine iteT ?_
        refine ⟨_, rfl, (by show 1 ≤ 1000; decide), fun x nx => ⟨x, i, rfl, upd_same, by omega, by omega, fun d' nd ndx => ?_⟩⟩
        rw [upd_ne ndx] at nd
        refine ⟨rfl, d', [("at", .int i)], upd_same, by rw [upd_ne ndx, upd_same], nd, kE i d hdi hrow hb d' _ (fun q o e => ?_) upd_same⟩
        have e1 := R3 _ _ e
        rw [upd_ne (ne_of_none e1 nd), del_ne (ne_of_none e1 nx), upd_ne (ne_of_none e1 nx), upd_ne (ne_of_none e1 nd), upd_ne (ne_of_none e1 nx)]
        exact e1
    · rintro σ H1 ⟨av, nv, rfl, R, hb⟩
      have k := k fun d hd2 => by
        obtain ⟨j, hj⟩ := List.getElem?_of_mem hd2
        exact hb j d (by rw [← hdl]; exact (List.getElem?_eq_some_iff.mp hj).1) hj
      have hq1 := R _ _ hq
      refine ⟨_, rfl, _, rfl, q, C, dx, [], rfl, hq1, TS.cl, TS.nT, (by show 0 < 1000; decide), ?_⟩
      rcases hg with hg | hg
      · have hg1 := R _ _ hg
        have nqg := ne_of hq1 hg1 nofun
        refine ⟨_, rfl, g, xs, rfl, .inl ⟨SqL.of (by rw [upd_ne nqg.symm]; exact hg1), fun t nt => ?_⟩⟩
        have nqt : q ≠ t := ne_of_none upd_same nt
        have nt1 : H1 t = none := by
          rw [upd_ne nqt.symm] at nt
          exact nt
        refine ⟨_, rfl, q, C, dx, _, rfl, (by rw [upd_ne nqt, upd_same]), TS.cl, TS.nR, (by show 1 < 1000; decide), ?_⟩
        refine k t _ (fun a o n e => ?_) upd_same (by rw [upd_ne nqt.symm, upd_same])
        rw [upd_ne n, upd_ne (ne_of_none (R _ _ e) nt1), upd_ne n]
        exact R _ _ e
      · have hg1 := R _ _ hg
        have nqg := ne_of hq1 hg1 nofun
        refine ⟨_, rfl, g, xs, rfl, .inr ⟨SqT.of (by rw [upd_ne nqg.symm]; exact hg1), ?_⟩⟩
        refine ⟨_, rfl, q, C, dx, _, rfl, upd_same, TS.cl, TS.nR, (by show 1 < 1000; decide), ?_⟩
        refine k g _ (fun a o n e => ?_) upd_same (by rw [upd_ne nqg.symm, upd_ne nqg.symm]; exact hg1)
        rw [upd_ne n, upd_ne n]
        exact R _ _ e
theorem sc_Storelen : FnScope ["self"] ["self"] (defScope s_Storelen) := ⟨rfl, rfl, rfl, by decide +kernel, rfl, by decide +kernel, by decide +kernel⟩
theorem ok_Storelen (F : FnM K "__len__" "Store.__len__" s_Storelen f fd) (T : Free mg) (TS : TxS K C) : FnOk P w K mg base CX0 1 f fd ["self"] (fun vs H Q _ => ∃ q p t xs, vs = [.ref q] ∧ StAt H C q p t xs ∧ Q (.int (xs.length : Nat)) H) := by
  refine F.ok sc_Storelen (fun vs H Q E h => ?_) (fun cdv A outer s H vs Q E hr h => ⟨_, PSs.nox (pss_one (ps_ret (pe_callB call_len_seq (by rfl) T.len boot_len (pa_cons (pe_fld (pv 0) rfl) pa_nil)))), ?_⟩)
  · obtain ⟨q, p, t, xs, rfl, _⟩ := h
    rfl
  · obtain ⟨q, p, t, xs, rfl, ⟨dx, hq, ht⟩, k⟩ := h
    exact ⟨_, rfl, q, C, dx, _, _, rfl, hq, TS.cl, TS.nR, rfl, t, xs, rfl, .inr (SqT.of ht), k⟩
theorem sc_Store_listed : FnScope ["self"] ["self"] (defScope s_Store_listed) := ⟨rfl, rfl, rfl, by decide +kernel, rfl, by decide +kernel, by decide +kernel⟩
theorem ok_Storelisted (F : FnM K "listed" "Store.listed" s_Store_listed f fd) (T : Free mg) (TS : TxS K C) : FnOk P w K mg base CX0 1 f fd ["self"] (fun vs H Q _ => ∃ q p t xs, vs = [.ref q] ∧ StAt H C q p t xs ∧ ∀ l, H l = none → Q (.ref l) (upd H l (.lst xs))) := by
  refine F.ok sc_Store_listed (fun vs H Q E h => ?_) (fun cdv A outer s H vs Q E hr h => ⟨_, PSs.nox (pss_one (ps_ret (pe_callTy call_list_of (by rfl) T.list boot_list (pa_cons (pe_fld (pv 0) rfl) pa_nil)))), ?_⟩)
  · obtain ⟨q, p, t, xs, rfl, _⟩ := h
    rfl
  · obtain ⟨q, p, t, xs, rfl, ⟨dx, hq, ht⟩, k⟩ := h
    exact ⟨_, rfl, q, C, dx, _, _, rfl, hq, TS.cl, TS.nR, rfl, t, xs, rfl, .inr (SqT.of ht), k⟩
theorem sc_Storecontains : FnScope ["self", "thing"] ["self", "thing"] (defScope s_Storecontains) := ⟨rfl, rfl, rfl, by decide +kernel, rfl, by decide +kernel, by decide +kernel⟩
theorem ok_Storecontains {CT fc : Addr} {fdc : FuncData} (F : FnM K "__contains__" "Store.__contains__" s_Storecontains f fd) (T : Free mg) (TS : TxS K C)
    (c_Tablecontains : CalM P w K mg base CX0 2 CT "__contains__" fc fdc ["self", "thing"] (spContains CT)) : FnOk P w K mg base CX0 3 f fd ["self", "thing"] (spInS CT C) := by
  refine F.ok sc_Storecontains (fun vs H Q E h => ?_) (fun cdv A outer s H vs Q E hr h => ⟨_, PSs.nox (pss_one (ps_ret (pe_and (pe_cmpR (op_in_cal c_Tablecontains (hr.mono (by decide))) (pv 1) (pe_fld (pv 0) rfl) (by rfl)) (pe_one (pe_cmpR (op_inDT (hu65 hr)) (pv 1) (pe_fld (pv 0) rfl) (by rfl)))))), ?_⟩)
  · obtain ⟨q, p, t, v, cs, xs, m, rs, rfl, _⟩ := h
    rfl
  · obtain ⟨q, p, t, v, cs, xs, m, rs, rfl, hS, hT, hm, hm3, hR, kv, k0, k1⟩ := h
    obtain ⟨dx, hq, ht⟩ := id hS
    obtain ⟨dy, ct, hp, hct⟩ := id hT
    refine ⟨_, rfl, _, rfl, q, C, dx, _, _, rfl, hq, TS.cl, TS.nT, rfl, p, dy, _, rfl, hp, p, v, cs, rfl, hT, (by omega), kv, fun H1 S1 => ⟨_, rfl, _, rfl, ?_⟩⟩
    rw [hm]
    cases hb : rowB H v (m : Nat) with
    | false => exact iteF (k0 hb H1 S1)
    | true =>
      obtain ⟨r, hr1, hr2⟩ := row_intT hb
      refine iteT ?_
      have hv1 := hr1.lsts (Lsts.same S1)
      have hR1 := Rws.lsts (Lsts.same S1) hR
      have e : v = v := rfl
      obtain ⟨tv, rfl, htv⟩ := id hv1
      refine ⟨_, rfl, _, rfl, q, C, dx, _, _, rfl, S1 _ _ hq, TS.cl, TS.nR, rfl, rowDt r, rs.map rowDt, .tup (SqT.of htv) (dp_ints r), .tup (SqT.of (S1 _ _ ht)) hR1.dp, rowDt_shaped r, rows_shapedT rs, ?_⟩
      rw [Own.any_rows]
      exact k1 r hr1 (by omega) H1 S1
theorem sc_law_told : FnScope ["table", "rows", "e"] ["table", "rows"] (defScope s_law_told) := ⟨rfl, rfl, rfl, by decide +kernel, rfl, by decide +kernel, by decide +kernel⟩
theorem ok_told {CT CS B CB CM CR fi : Addr} {fdi : FuncData} (F : FnP K "_law_told" s_law_told f fd) (T : TxE K mg B CB CM CR) (XF : XfC K CR) (nA : PySem.W.findIn K (.ref CR) "at" = some none)
    (c_Store : CalI P w K mg base (L2.CX P w) 4 "Store" CS fi fdi ["self", "table", "rows"] (spStoreX CT CS CR)) : FnOk P w K mg base CX0 6 f fd ["table", "rows"] (spTold K CT) := by
  refine F.ok sc_law_told (fun vs H Q E h => ?_) (fun cdv A outer s H vs Q E hr h => ⟨_, PSs.nox (pss_cons (ps_try_as (i := 2) rfl rfl sc_law_told.nd rfl rfl ⟨rfl, by decide, .inl T.g_BadRows⟩ takes0 (fun W pn xe tk _ => (pss_one (ps_expr (pe_mkrX c_Store (hr.mono (by decide)) tk (pa_cons (pv 0) (pa_cons (pv 1) pa_nil)))))) (fun a oe cls d pn hz hf => (pss_cons (ps_if (PW.pt (pw_or (pt_not (pt_val (pe_callB (call_isX hz hf) (by rfl) T.isinstance boot_isinstance (pa_cons (pv 2) (pa_cons (pe_glob (v := .ref _) (by rfl) T.g_EmptyfiltersError rfl) pa_nil))))) (pw_or1 (pt_val (pe_callB (call_isXT hz hf) (by rfl) T.isinstance boot_isinstance (pa_cons (pv 2) (pa_cons (pe_tup (pa_cons (pe_glob (v := .ref _) (by rfl) T.g_BadTable rfl) (pa_cons (pe_glob (v := .ref _) (by rfl) T.g_TooManyRows rfl) pa_nil))) pa_nil)))))))
 (pss_one (ps_ret pe_str))
 pss_nil)
 (pss_one (ps_ret (pe_xf XF nA hz hf (pv 2)))))))
 (pss_one (ps_ret pe_non))), ?_⟩)
  · obtain ⟨p, g, cs, m, xs, ds, bs, rfl, _⟩ := h
    rfl
  · obtain ⟨p, g, cs, m, xs, ds, bs, rfl, hT, hm, hm3, hg, hd, hw, hlen, k, kE⟩ := h
    refine ⟨_, rfl, _, rfl, ?_⟩
    refine fun x dx nx ndx nxd => ?_
    have S : Same H (upd (upd H dx (.own x)) x (.ins CS dx [])) := fun q o e => by
      rw [upd_ne (ne_of_none e nx), upd_ne (ne_of_none e ndx)]
      exact e
    refine ⟨x, p, g, dx, cs, m, xs, ds, bs, rfl, upd_same, hT.same S, hm, hm3, .inl (S _ _ hg), DqA.buts (Buts.of_same S) _ _ hd, hw, hlen, fun ha t H' B h1 h2 => ⟨rfl, ?_⟩, fun i d h1 h2 h3 d' H' SE hd' => ?_⟩
    · exact k ha H' (made_same nx ndx B)
    · refine ⟨true, T.own, fun _ a' na => ?_, nofun⟩
      refine ⟨_, rfl, CR, d', _, _, _, _, rfl, rfl, hd', T.exc, rfl, .own _, T.inB, _, rfl, iteF ?_⟩
      refine ⟨_, rfl, (by show 2 ≤ sizeLine; decide), fun tp ntp => ?_⟩
      have S3 := same_newH (o := .tup [.ref CB, .ref CM]) ntp
      refine ⟨CR, d', _, tp, _, [.ref CB, .ref CM], false, rfl, rfl, S3 _ _ hd', T.exc, rfl, upd_same, .cons (.own _) (.cons (.own _) .nil), T.notC, _, rfl, iteF ?_⟩
      have q := kE i d h1 h2 h3 _ ((S.trans SE).trans S3)
      exact ⟨_, rfl, rfl, rfl, d', _, .int i, rfl, S3 _ _ hd', rfl, q⟩
end
end K22

namespace K22
open PySem PySem.Spec PyProof.Rows L2 Own
def colS : List Str := ["id", "owner", "size"]
def spLaw (K : PySem.W.Frag) : Sp := fun vs H Q _ => ∃ (a : Addr) (ns : List Int), vs = [.ref a] ∧ SqL K H a (ns.map V.int) ∧ ns.length ≤ 63 ∧ ∀ H', Q (.bl true) H'
def Kn (D : Ends) (H : Hp) (a : Addr) : Prop := ∀ σ' H2, (∃ t1 t2 t3 t4 t5 t6 t7 t8 t9 t10 t11 t12 t13 t14 t15 t16, σ' = [some (.ref a), t1, t2, t3, t4, t5, t6, t7, t8, t9, t10, t11, t12, t13, t14, t15, t16]) → Same H H2 → D.nx σ' H2
structure Bs (H0 H' : Hp) (CT b p l : Addr) (m : Nat) (rs : List (List Int)) (xs : List V) : Prop where
  S : Same H0 H'
  nb : H0 b = none
  nl : H0 l = none
  hb : Bag H' b
  m1 : 1 ≤ m
  m3 : m ≤ 3
  hT : TabAt H' CT p ((colS.take m).map V.str)
  lb : l ≠ b
  hl : H' l = some (.lst xs)
  hR : Rws H' rs xs
  hm : ∀ r ∈ rs, r.length = m
  hn : rs.length ≤ 40
structure Wr (H0 H' : Hp) (b l g : Addr) (ws : List Int) : Prop where
  n : H0 g = none
  gb : g ≠ b
  gl : g ≠ l
  hg : H' g = some (.lst (ws.map V.int))
theorem Bs.same {H0 H1 H2 : Hp} {CT b p l : Addr} {m : Nat} {rs : List (List Int)} {xs : List V} (h : Bs H0 H1 CT b p l m rs xs) (s : Same H1 H2) : Bs H0 H2 CT b p l m rs xs :=
  ⟨h.S.trans s, h.nb, h.nl, h.hb.same s, h.m1, h.m3, h.hT.same s, h.lb, s _ _ h.hl, Rws.lsts (Lsts.same s) h.hR, h.hm, h.hn⟩
theorem Bs.but {H0 H1 H2 : Hp} {CT b p l : Addr} {m : Nat} {rs : List (List Int)} {xs : List V} (h : Bs H0 H1 CT b p l m rs xs) (s : But b H1 H2) (hb : Bag H2 b) : Bs H0 H2 CT b p l m rs xs :=
  have L := Lsts.but h.hb s
  ⟨s.to_same h.S h.nb, h.nb, h.nl, hb, h.m1, h.m3, h.hT.lsts L, h.lb, s _ _ h.lb h.hl, Rws.lsts L h.hR, h.hm, h.hn⟩
theorem Bs.put {H0 H1 : Hp} {CT b p l g : Addr} {m : Nat} {rs : List (List Int)} {xs ys : List V} {o : HO} (h : Bs H0 H1 CT b p l m rs xs) (hg : H1 g = some (.lst ys)) (n : H0 g = none) (gb : g ≠ b) (gl : g ≠ l) : Bs H0 (upd H1 g o) CT b p l m rs xs :=
  have L := Lsts.put (o := o) hg
  ⟨put_same h.S n, h.nb, h.nl, h.hb.put gb.symm, h.m1, h.m3, h.hT.lsts L, h.lb, by rw [upd_ne gl.symm]; exact h.hl, Rws.lsts L h.hR, h.hm, h.hn⟩
theorem Wr.same {H0 H1 H2 : Hp} {b l g : Addr} {ws : List Int} (h : Wr H0 H1 b l g ws) (s : Same H1 H2) : Wr H0 H2 b l g ws := ⟨h.n, h.gb, h.gl, s _ _ h.hg⟩
theorem Wr.but {H0 H1 H2 : Hp} {b l g : Addr} {ws : List Int} (h : Wr H0 H1 b l g ws) (s : But b H1 H2) : Wr H0 H2 b l g ws := ⟨h.n, h.gb, h.gl, s _ _ h.gb h.hg⟩
theorem Bs.xlen {H0 H' : Hp} {CT b p l : Addr} {m : Nat} {rs : List (List Int)} {xs : List V} (h : Bs H0 H' CT b p l m rs xs) : xs.length = rs.length := (Rws.len h.hR).symm
theorem Bs.clen {H0 H' : Hp} {CT b p l : Addr} {m : Nat} {rs : List (List Int)} {xs : List V} (h : Bs H0 H' CT b p l m rs xs) : ((colS.take m).map V.str).length = m := by
  rw [List.length_map, List.length_take]
  have := h.m3
  show min m 3 = m
  omega
theorem col_words (m : Nat) : Words (colS.take m) := fun z hz => by
  have h3 : z ∈ colS := List.mem_of_mem_take hz
  simp only [colS, List.mem_cons, List.not_mem_nil, or_false] at h3
  rcases h3 with rfl | rfl | rfl <;> decide +kernel
theorem rws_dqA {H : Hp} {bs : List Addr} (hA : AllLst H bs) : ∀ {rs : List (List Int)} {xs : List V}, Rws H rs xs → DqA H bs (rs.map rowDt) xs
  | [], xs, h => by
    rw [show xs = [] from h]
    simp only [List.map_nil, DqA]
  | r :: rs, xs, ⟨y, ys, h, h1, h2⟩ => by
    simp only [List.map_cons, DqA]
    refine ⟨y, ys, h, intT_dq h1 fun t e => ?_, rws_dqA hA h2⟩
    obtain ⟨t', e2, ht⟩ := h1
    rw [e] at e2
    cases e2
    exact hA.tup ht
/-- what stands in given, and the places that were spoilt -/
structure Gv (H' : Hp) (bs : List Addr) (m n : Nat) (ds : List PyData) (gs : List V) (ws : List Int) : Prop where
  hd : DqA H' bs ds gs
  ln : ds.length = n
  wd : ∀ d ∈ ds, wid d ≤ 1000
  fl : ∀ (i : Nat) (d : PyData), ds[i]? = some d → (isRowD m d = false ↔ (i : Int) ∈ ws)
  wn : ∀ w ∈ ws, 0 ≤ w ∧ w < (n : Nat)
theorem Gv.put {H1 H2 : Hp} {bs : List Addr} {m n : Nat} {ds : List PyData} {gs : List V} {ws : List Int} (h : Gv H1 bs m n ds gs ws) (B : Buts bs H1 H2) {d : PyData} {v : V} {i : Nat} (hv : Dq H2 bs d v) (hbad : isRowD m d = false) (hw : wid d ≤ 1000) (hi : i < n) :
    Gv H2 bs m n (ds.set i d) (gs.set i v) (ws ++ [(i : Int)]) where
  hd := dqA_set hv i (DqA.buts B _ _ h.hd)
  ln := by rw [List.length_set]; exact h.ln
  wd := fun e he => by
    rcases List.mem_or_eq_of_mem_set he with he | rfl
    · exact h.wd e he
    · exact hw
  fl := fun j e he => by
    by_cases q : i = j
    · subst q
      rw [List.getElem?_set_self (by rw [h.ln]; exact hi)] at he
      cases he
      exact ⟨fun _ => List.mem_append_right _ (List.mem_singleton.mpr rfl), fun _ => hbad⟩
    · rw [List.getElem?_set_ne q] at he
      rw [h.fl j e he, List.mem_append, List.mem_singleton]
      exact ⟨.inl, fun o => o.elim id fun o => absurd (Int.ofNat.inj o).symm q⟩
  wn := fun w hw => by
    rcases List.mem_append.mp hw with hw | hw
    · exact h.wn w hw
    · rw [List.mem_singleton.mp hw]
      exact ⟨by omega, by omega⟩
theorem Gv.good {H' : Hp} {bs : List Addr} {m n : Nat} {ds : List PyData} {gs : List V} {ws : List Int} (h : Gv H' bs m n ds gs ws) (a : ∀ d ∈ ds, isRowD m d = true) : ws = [] := by
  cases ws with
  | nil => rfl
  | cons w ws =>
    obtain ⟨h0, h1⟩ := h.wn w List.mem_cons_self
    have hlt : w.toNat < ds.length := by rw [h.ln]; omega
    have e : ds[w.toNat]? = some ds[w.toNat] := List.getElem?_eq_getElem hlt
    have q := (h.fl _ _ e).mpr (by rw [show ((w.toNat : Nat) : Int) = w by omega]; exact List.mem_cons_self)
    rw [a _ (List.getElem_mem hlt)] at q
    cases q
theorem Gv.least {H' : Hp} {bs : List Addr} {m n : Nat} {ds : List PyData} {gs : List V} {ws : List Int} (h : Gv H' bs m n ds gs ws) {i : Nat} {d : PyData} (hi : ds[i]? = some d) (hd : isRowD m d = false)
    (a : ∀ (j : Nat) (e : PyData), j < i → ds[j]? = some e → isRowD m e = true) : (i : Int) ∈ ws ∧ ∀ w ∈ ws, (i : Int) ≤ w := by
  refine ⟨(h.fl i d hi).mp hd, fun w hw => ?_⟩
  obtain ⟨h0, h1⟩ := h.wn w hw
  have hlt : w.toNat < ds.length := by rw [h.ln]; omega
  have e : ds[w.toNat]? = some ds[w.toNat] := List.getElem?_eq_getElem hlt
  have q := (h.fl _ _ e).mpr (by rw [show ((w.toNat : Nat) : Int) = w by omega]; exact hw)
  rcases Nat.lt_or_ge w.toNat i with o | o
  · rw [a _ _ o e] at q
    cases q
  · omega
section
variable {P : Program} {w : World} {K : PySem.W.Frag} {mg : Str → Option Value} {base : Heap} {f C : Addr} {fd : FuncData}
theorem sc_law : FnScope ["script", "at", "bag", "many", "table", "rows", "wrong", "turn", "given", "spare", "place", "told", "store", "other", "shown", "row", "again"] ["script"] (defScope s_law) := ⟨rfl, rfl, rfl, by decide +kernel, rfl, by decide +kernel, by decide +kernel⟩
theorem ok_law {CT CS CR fb ft fo fw fp fd' fi fs fc fe fl fg : Addr} {fdb fdt fdo fdw fdp fdd fdi fds fdc fde fdl fdg : FuncData} (F : FnP K "law" s_law f fd) (T : Free mg) (TC : TxC K CT) (TS : TxS K CS) (N : NeAt K CT)
    (c_law_bag : Cal P w K mg base CX0 1 "_law_bag" fb fdb ["script", "at"] (spBag K)) (c_law_take : Cal P w K mg base CX0 1 "_law_take" ft fdt ["bag", "many"] spTake) (c_law_of : Cal P w K mg base CX0 2 "_law_of" fo fdo ["bag", "some"] (spOf K))
    (c_law_row : Cal P w K mg base CX0 3 "_law_row" fw fdw ["bag", "many"] spRow) (c_law_spoilt : Cal P w K mg base CX0 3 "_law_spoilt" fp fdp ["bag", "row"] spSpoilt) (c_law_told : Cal P w K mg base CX0 6 "_law_told" fd' fdd ["table", "rows"] (spTold K CT))
    (c_Table : CalI P w K mg base CX0 3 "Table" CT fi fdi ["self", "columns"] (spTableA K CT)) (c_Store : CalI P w K mg base CX0 4 "Store" CS fs fds ["self", "table", "rows"] (fun vs H Q _ => spStoreX CT CS CR vs H Q E0))
    (c_Storecontains : CalM P w K mg base CX0 3 CS "__contains__" fc fdc ["self", "thing"] (spInS CT CS)) (c_Tableeq : CalM P w K mg base CX0 1 CT "__eq__" fe fde ["self", "other"] (spEqT CT))
    (c_Storelen : CalM P w K mg base CX0 1 CS "__len__" fl fdl ["self"] (fun vs H Q _ => ∃ q p t xs, vs = [.ref q] ∧ StAt H CS q p t xs ∧ Q (.int (xs.length : Nat)) H))
    (c_Storelisted : CalM P w K mg base CX0 1 CS "listed" fg fdg ["self"] (fun vs H Q _ => ∃ q p t xs, vs = [.ref q] ∧ StAt H CS q p t xs ∧ ∀ l, H l = none → Q (.ref l) (upd H l (.lst xs)))) : FnOk P w K mg base CX0 7 f fd ["script"] (spLaw K) := by
  refine F.ok sc_law (fun vs H Q E h => ?_) (fun cdv A outer s H vs Q E hr h => ?_)
  · obtain ⟨a, ns, rfl, _⟩ := h
    rfl
  · obtain ⟨a, ns, rfl, hS, hlen, k⟩ := h
    refine ⟨_, PSs.nox (pss_cons (ps_for PassesOwn.never rfl (pi_range1 (by rfl) T.range (pa_cons (pe_callB (call_max2 rfl) (by rfl) T.max boot_max (pa_cons pe_int (pa_cons (pe_callB (call_min2 rfl) (by rfl) T.min boot_min (pa_cons pe_int (pa_cons (pe_callB call_len_seq (by rfl) T.len boot_len (pa_cons (pv 0) pa_nil)) pa_nil))) pa_nil))) pa_nil)) (pg_name (i := 1) sc_law.nd rfl (Or.inl rfl))
 (pss_cons (ps_set (i := 2) sc_law.nd rfl (Or.inl rfl) (pe_cal c_law_bag (hr.mono (by decide)) (pa_cons (pv 0) (pa_cons (pv 1) pa_nil))))
 (pss_cons (ps_set (i := 3) sc_law.nd rfl (Or.inl rfl) (pe_op op_add pe_int (pe_cal c_law_take (hr.mono (by decide)) (pa_cons (pv 2) (pa_cons pe_int pa_nil)))))
 (pss_cons (ps_par3 (i := 4) (j := 5) (l := 6) rfl sc_law.nd rfl rfl rfl (by decide) (by decide) (by decide) rfl rfl rfl (pa_cons (pe_mkr c_Table (hr.mono (by decide)) (pa_cons (pe_slice sl_list (pe_lst (pa_cons pe_str (pa_cons pe_str (pa_cons pe_str pa_nil)))) po_none (po_some (pv 3))) pa_nil)) (pa_cons (pe_lst pa_nil) (pa_cons (pe_lst pa_nil) pa_nil))) (by rfl))
 (pss_cut (t' := fun D σ H' => ∃ (z : Int) (b p l wr : Addr) (m : Nat) (t7 t8 t9 t10 t11 t12 t13 t14 t15 t16 : Option V), σ = [some (.ref a), some (.int z), some (.ref b), some (.int m), some (.ref p), some (.ref l), some (.ref wr), t7, t8, t9, t10, t11, t12, t13, t14, t15, t16] ∧ Bs H H' CT b p l m [] [] ∧ Wr H H' b l wr [] ∧ Kn D H a) (pss_cons (ps_for PassesOwn.never rfl (pi_range1 (by rfl) T.range (pa_cons (pe_cal c_law_of (hr.mono (by decide)) (pa_cons (pv 2) (pa_cons (pe_lst (pa_cons pe_int (pa_cons pe_int (pa_cons pe_int (pa_cons pe_int (pa_cons pe_int (pa_cons pe_int (pa_cons pe_int pa_nil)))))))) pa_nil))) pa_nil)) (pg_name (i := 7) sc_law.nd rfl (Or.inl rfl))
 (pss_one (ps_expr (pe_bm PySem.F.plainAttrs_list PySem.F.slot_list_append PySem.F.type_list_append mt_append (pv 5) (pa_cons (pe_ifExp (PW.pt (pw_and (pt_cmpR (op_neD (hu_of' hr)) (pv 5) (pe_lst pa_nil) (nomark _)) (pw_and1 (pt_cmpR op_eq (pe_cal c_law_take (hr.mono (by decide)) (pa_cons (pv 2) (pa_cons pe_int pa_nil))) pe_int (nomark _))))) (pe_cal c_law_of (hr.mono (by decide)) (pa_cons (pv 2) (pa_cons (pv 5) pa_nil))) (pe_cal c_law_row (hr.mono (by decide)) (pa_cons (pv 2) (pa_cons (pv 3) pa_nil)))) pa_nil)))))
 (pss_cut (t' := fun D σ H' => ∃ (z : Int) (b p l wr : Addr) (m : Nat) (rs : List (List Int)) (xs : List V) (t7 t8 t9 t10 t11 t12 t13 t14 t15 t16 : Option V), σ = [some (.ref a), some (.int z), some (.ref b), some (.int m), some (.ref p), some (.ref l), some (.ref wr), t7, t8, t9, t10, t11, t12, t13, t14, t15, t16] ∧ Bs H H' CT b p l m rs xs ∧ Wr H H' b l wr [] ∧ Kn D H a) (pss_cons (ps_par (i := 8) (j := 9) rfl sc_law.nd rfl rfl (by decide) rfl rfl (pa_cons (pe_callTy call_list_of (by rfl) T.list boot_list (pa_cons (pv 5) pa_nil)) (pa_cons (pe_cal c_law_row (hr.mono (by decide)) (pa_cons (pv 2) (pa_cons (pv 3) pa_nil))) pa_nil)) (by rfl))
 (pss_cons (ps_for PassesOwn.never rfl (pi_range1 (by rfl) T.range (pa_cons (pe_ifExp (pt_cmpR (op_neD (hu_of' hr)) (pv 5) (pe_lst pa_nil) (nomark _)) (pe_cal c_law_take (hr.mono (by decide)) (pa_cons (pv 2) (pa_cons pe_int pa_nil))) pe_int) pa_nil)) (pg_name (i := 7) sc_law.nd rfl (Or.inl rfl))
 (pss_cons (ps_set (i := 10) sc_law.nd rfl (Or.inl rfl) (pe_cal c_law_take (hr.mono (by decide)) (pa_cons (pv 2) (pa_cons (pe_callB call_len_seq (by rfl) T.len boot_len (pa_cons (pv 5) pa_nil)) pa_nil))))
 (pss_cons (ps_asg (pe_cal c_law_spoilt (hr.mono (by decide)) (pa_cons (pv 2) (pa_cons (pe_ix ix_list (pv 5) (pv 10) (fun _ _ => rfl)) pa_nil))) (pg_sub (pv 8) (pv 10) set_list))
 (pss_one (ps_expr (pe_bm PySem.F.plainAttrs_list PySem.F.slot_list_append PySem.F.type_list_append mt_append (pv 6) (pa_cons (pv 10) pa_nil)))))))
 (pss_cons (ps_set (i := 11) sc_law.nd rfl (Or.inl rfl) (pe_cal c_law_told (hr.mono (by decide)) (pa_cons (pv 4) (pa_cons (pv 8) pa_nil))))
 (pss_cons (ps_if (PW.pt (pw_or (pt_cmpR op_ne (pv 11) (pe_ifExp (pt_cmpR (op_neD (hu_of' hr)) (pv 6) (pe_lst pa_nil) (nomark _)) (pe_callB (cr_min rfl) (by rfl) T.min boot_min (pa_cons (pv 6) pa_nil)) pe_non) (nomark _)) (pw_or1 (pt_val (pe_callB call_isi (by rfl) T.isinstance boot_isinstance (pa_cons (pv 11) (pa_cons (pe_bltn (v := .ty "bool") (by rfl) T.bool boot_bool rfl) pa_nil)))))))
 (pss_one (ps_ret pe_bl))
 pss_nil)
 (pss_cut (t' := fun D σ H' => ∃ (z : Int) (b p l : Addr) (m : Nat) (rs : List (List Int)) (xs : List V) (u : Addr) (ur : List Int) (t6 t7 t8 t10 t11 t12 t13 t14 t15 t16 : Option V), σ = [some (.ref a), some (.int z), some (.ref b), some (.int m), some (.ref p), some (.ref l), t6, t7, t8, some (.ref u), t10, t11, t12, t13, t14, t15, t16] ∧ Bs H H' CT b p l m rs xs ∧ IntT H' (.ref u) ur ∧ ur.length = m ∧ Kn D H a) (pss_cons (ps_set (i := 8) sc_law.nd rfl (Or.inl rfl) (pe_callTy call_list_of (by rfl) T.list boot_list (pa_cons (pv 5) pa_nil)))
 (pss_cons (ps_par (i := 12) (j := 13) rfl sc_law.nd rfl rfl (by decide) rfl rfl (pa_cons (pe_mkr c_Store (hr.mono (by decide)) (pa_cons (pv 4) (pa_cons (pv 8) pa_nil))) (pa_cons (pe_mkr c_Store (hr.mono (by decide)) (pa_cons (pv 4) (pa_cons (pe_callTy call_tuple_of (by rfl) T.tuple boot_tuple (pa_cons (pe_revL (pv 8)) pa_nil)) pa_nil))) pa_nil)) (by rfl))
 (pss_cons (ps_expr (pe_bm PySem.F.plainAttrs_list PySem.F.slot_list_append PySem.F.type_list_append mt_append (pv 8) (pa_cons (pv 9) pa_nil)))
 (pss_cons (ps_asg pe_non (pg_sub (pv 8) pe_int set_list))
 (pss_cut (t' := fun D σ H' => ∃ (z : Int) (b p l x y tx ty : Addr) (m : Nat) (rs : List (List Int)) (xs : List V) (u : Addr) (ur : List Int) (t6 t7 t8 t10 t11 t14 t15 t16 : Option V), σ = [some (.ref a), some (.int z), some (.ref b), some (.int m), some (.ref p), some (.ref l), t6, t7, t8, some (.ref u), t10, t11, some (.ref x), some (.ref y), t14, t15, t16] ∧ Bs H H' CT b p l m rs xs ∧ IntT H' (.ref u) ur ∧ ur.length = m ∧ StAt H' CS x p tx xs ∧ StAt H' CS y p ty xs.reverse ∧ Kn D H a) (pss_cons (ps_if (PW.pt (pw_or (pt_not (pt_cmpR (op_eq_cal c_Tableeq (hr.mono (by decide))) (pe_fld (pv 12) rfl) (pv 4) (nomark _))) (pw_or (pt_cmpR op_ne (pe_callB (call_len_cal c_Storelen (hr.mono (by decide))) (by rfl) T.len boot_len (pa_cons (pv 12) pa_nil)) (pe_callB call_len_seq (by rfl) T.len boot_len (pa_cons (pv 5) pa_nil)) (nomark _)) (pw_or1 (pt_cmpR op_ne (pe_callB (call_len_cal c_Storelen (hr.mono (by decide))) (by rfl) T.len boot_len (pa_cons (pv 13) pa_nil)) (pe_callB call_len_seq (by rfl) T.len boot_len (pa_cons (pv 5) pa_nil)) (nomark _))))))
 (pss_one (ps_ret pe_bl))
 pss_nil)
 (pss_cons (ps_for PassesOwn.never rfl (pi_range1 (by rfl) T.range (pa_cons pe_int pa_nil)) (pg_name (i := 7) sc_law.nd rfl (Or.inl rfl))
 (pss_cons (ps_set (i := 14) sc_law.nd rfl (Or.inl rfl) (pe_calM0 (pv 12) TS.cl c_Storelisted (hr.mono (by decide))))
 (pss_cons (ps_if (PW.pt (pw_or (pt_not (pt_val (pe_callB call_isi (by rfl) T.isinstance boot_isinstance (pa_cons (pv 14) (pa_cons (pe_bltn (v := .ty "list") (by rfl) T.list boot_list rfl) pa_nil))))) (pw_or (pt_cmpR (op_neD (hu_of' hr)) (pv 14) (pv 5) (nomark _)) (pw_or1 (pt_cmpR (op_neD (hu_of' hr)) (pe_calM0 (pv 13) TS.cl c_Storelisted (hr.mono (by decide))) (pe_revL (pv 5)) (nomark _))))))
 (pss_one (ps_ret pe_bl))
 pss_nil)
 (pss_one (ps_expr (pe_bm PySem.F.plainAttrs_list PySem.F.slot_list_append PySem.F.type_list_append mt_append (pv 14) (pa_cons (pv 9) pa_nil)))))))
 (pss_cut (t' := fun D σ H' => ∃ (z : Int) (b p l x y tx ty : Addr) (m : Nat) (rs : List (List Int)) (xs : List V) (u : Addr) (ur : List Int) (t6 t7 t8 t10 t11 t14 t15 t16 : Option V), σ = [some (.ref a), some (.int z), some (.ref b), some (.int m), some (.ref p), some (.ref l), t6, t7, t8, some (.ref u), t10, t11, some (.ref x), some (.ref y), t14, t15, t16] ∧ Bs H H' CT b p l m rs xs ∧ IntT H' (.ref u) ur ∧ ur.length = m ∧ StAt H' CS x p tx xs ∧ StAt H' CS y p ty xs.reverse ∧ Kn D H a) (pss_cons (ps_for PassesOwn.never rfl (pi_list (pe_op op_cat (pe_slice sl_list (pv 5) po_none (po_some pe_int)) (pe_lst (pa_cons (pv 9) pa_nil)))) (pg_name (i := 15) sc_law.nd rfl (Or.inl rfl))
 (pss_cons (ps_if (PW.pt (pw_or (pt_cmpR op_ne (pe_cmpR (op_in_cal c_Storecontains (hr.mono (by decide))) (pv 15) (pv 12) (by rfl)) (pe_cmpR (op_inD (hu65 hr)) (pv 15) (pv 5) (by rfl)) (nomark _)) (pw_or1 (pt_cmpR op_ne (pe_cmpR (op_in_cal c_Storecontains (hr.mono (by decide))) (pv 15) (pv 13) (by rfl)) (pe_cmpR (op_inD (hu65 hr)) (pv 15) (pv 5) (by rfl)) (nomark _)))))
 (pss_one (ps_ret pe_bl))
 pss_nil)
 (pss_one (ps_if (pt_cmpR (op_in_cal c_Storecontains (hr.mono (by decide))) (pe_cal c_law_spoilt (hr.mono (by decide)) (pa_cons (pv 2) (pa_cons (pv 15) pa_nil))) (pv 12) (by rfl))
 (pss_one (ps_ret pe_bl))
 pss_nil))))
 (pss_cut (t' := fun D σ H' => ∃ (z : Int) (b p l : Addr) (m : Nat) (rs : List (List Int)) (xs : List V) (t6 t7 t8 t9 t10 t11 t12 t13 t14 t15 t16 : Option V), σ = [some (.ref a), some (.int z), some (.ref b), some (.int m), some (.ref p), some (.ref l), t6, t7, t8, t9, t10, t11, t12, t13, t14, t15, t16] ∧ Bs H H' CT b p l m rs xs ∧ Kn D H a) (pss_cons (ps_set (i := 16) sc_law.nd rfl (Or.inl rfl) (pe_mkr c_Store (hr.mono (by decide)) (pa_cons (pv 4) (pa_cons (pe_lst (pa_cons (pe_op op_repS (pe_tup (pa_cons pe_int pa_nil)) (pv 3)) pa_nil)) pa_nil))))
 (pss_one (ps_if (PW.pt (pw_or (pt_cmpR (op_in_cal c_Storecontains (hr.mono (by decide))) (pe_op op_repS (pe_tup (pa_cons pe_bl pa_nil)) (pv 3)) (pv 16) (by rfl)) (pw_or (pt_cmpR (op_notIn_cal c_Storecontains (hr.mono (by decide))) (pe_op op_repS (pe_tup (pa_cons pe_int pa_nil)) (pv 3)) (pv 16) (by rfl)) (pw_or1 (pt_cmpR (op_in_cal c_Storecontains (hr.mono (by decide))) (pe_op L2.op_rep (pe_lst (pa_cons pe_int pa_nil)) (pv 3)) (pv 16) (by rfl))))))
 (pss_one (ps_ret pe_bl))
 pss_nil))) ?c6)) ?c5))) ?c4))))) ?c3))))) ?c2)) ?c1)))))
 (pss_one (ps_ret pe_bl))), ?_⟩
    case c1 =>
      rintro D σ H1 ⟨z, b, p, l, wr, m, t7, t8, t9, t10, t11, t12, t13, t14, t15, t16, rfl, B1, W1, kn⟩
      refine ⟨_, rfl, (by show 7 ≤ sizeLine; decide), fun q nq => ?_⟩
      have B2 := B1.same (same_newH (o := .lst [V.int 0, V.int 1, V.int 2, V.int 3, V.int 5, V.int 8, V.int 40]) nq)
      have W2 := W1.same (same_newH (o := .lst [V.int 0, V.int 1, V.int 2, V.int 3, V.int 5, V.int 8, V.int 40]) nq)
      refine ⟨b, q, _, rfl, B2.hb, (B1.hb.ne nq).symm, SqL.of upd_same, (fun e => nomatch e), (by show 7 < 1000000; decide), fun v H3 hv B hb3 => ?_⟩
      have B3 := B2.but B hb3
      have W3 := W2.but B
      obtain ⟨n, rfl, n0, n4⟩ : ∃ n : Int, v = .int n ∧ 0 ≤ n ∧ n ≤ 40 := by
        simp only [List.mem_cons, List.not_mem_nil, or_false] at hv
        rcases hv with e | e | e | e | e | e | e <;> exact ⟨_, e, by decide, by decide⟩
      refine ⟨_, rfl, by omega, by omega, ?_⟩
      refine for_range (fun i σ H' => ∃ (rs : List (List Int)) (xs : List V) (t7 : Option V), σ = [some (.ref a), some (.int z), some (.ref b), some (.int m), some (.ref p), some (.ref l), some (.ref wr), t7, t8, t9, t10, t11, t12, t13, t14, t15, t16] ∧ Bs H H' CT b p l m rs xs ∧ Wr H H' b l wr [] ∧ rs.length = i)
        ⟨[], [], t7, rfl, B3, W3, rfl⟩ ?_ ?_
      · rintro i σ H4 hi ⟨rs, xs, t7, rfl, B4, W4, hi4⟩
        have fin : ∀ (v : V) (r : List Int) (H5 : Hp), Bs H H5 CT b p l m rs xs → Wr H H5 b l wr [] → IntT H5 v r → r.length = m → ∃ rs' xs' t7',
            [some (.ref a), some (.int z), some (.ref b), some (.int m), some (.ref p), some (.ref l), some (.ref wr), some (.int (0 + (i : Nat))), t8, t9, t10, t11, t12, t13, t14, t15, t16] = [some (.ref a), some (.int z), some (.ref b), some (.int m), some (.ref p), some (.ref l), some (.ref wr), t7', t8, t9, t10, t11, t12, t13, t14, t15, t16] ∧
              Bs H (upd H5 l (.lst (xs ++ [v]))) CT b p l m rs' xs' ∧ Wr H (upd H5 l (.lst (xs ++ [v]))) b l wr [] ∧ rs'.length = i + 1 := by
          intro v r H5 B5 W5 hv hr
          have L := Lsts.put (o := .lst (xs ++ [v])) B5.hl
          refine ⟨rs ++ [r], xs ++ [v], _, rfl, ⟨put_same B5.S B5.nl, B5.nb, B5.nl, B5.hb.put B5.lb.symm, B5.m1, B5.m3, B5.hT.lsts L, B5.lb, upd_same, Rws.snoc (hv.lsts L) (Rws.lsts L B5.hR), fun s hs => ?_, ?_⟩, ⟨W5.n, W5.gb, W5.gl, by rw [upd_ne W5.gl]; exact W5.hg⟩, ?_⟩
          · rcases List.mem_append.mp hs with hs | hs
            · exact B5.hm s hs
            · rw [List.mem_singleton.mp hs]
              exact hr
          · rw [List.length_append, hi4]
            show i + 1 ≤ 40
            omega
          · rw [List.length_append, hi4]
            rfl
        have hxl := B4.xlen
        have row : ∀ H5, Bs H H5 CT b p l m rs xs → Wr H H5 b l wr [] → spRow [.ref b, .int m] H5 (fun v H6 => ∃ l' xs' y, (V.ref l) = .ref l' ∧ [v] = [y] ∧ H6 l' = some (.lst xs') ∧ xs'.length < sizeLine ∧ ∃ rs' xs'' t7', [some (.ref a), some (.int z), some (.ref b), some (.int m), some (.ref p), some (.ref l), some (.ref wr), some (.int (0 + (i : Nat))), t8, t9, t10, t11, t12, t13, t14, t15, t16] = [some (.ref a), some (.int z), some (.ref b), some (.int m), some (.ref p), some (.ref l), some (.ref wr), t7', t8, t9, t10, t11, t12, t13, t14, t15, t16] ∧
              Bs H (upd H6 l' (.lst (xs' ++ [y]))) CT b p l m rs' xs'' ∧ Wr H (upd H6 l' (.lst (xs' ++ [y]))) b l wr [] ∧ rs'.length = i + 1) E0 := by
          intro H5 B5 W5
          have h1 := B5.m1
          have h3 := B5.m3
          refine ⟨b, m, rfl, B5.hb, by omega, by omega, fun r t H6 hr nt ht B hb6 => ?_⟩
          have B6 := B5.but B hb6
          exact ⟨l, xs, _, rfl, rfl, B6.hl, small1000 (by have := B4.hn; omega), fin _ r H6 B6 (W5.but B) ⟨t, rfl, ht⟩ (by omega)⟩
        refine ⟨_, rfl, .inl ⟨rfl, _, SqL.of B4.hl⟩, ?_⟩
        refine ⟨_, rfl, Nat.zero_le _, fun e ne => ?_⟩
        have B5 := B4.same (same_newH (o := .lst []) ne)
        have W5 := W4.same (same_newH (o := .lst []) ne)
        refine ⟨.list (rs.map rowDt), .list ([].map rowDt), .lst (SqL.of B5.hl) B5.hR.dp, .lst (SqL.of upd_same) .nil, rows_shaped rs, rows_shaped [], _, rfl, ?_⟩
        rw [eqv_rows]
        refine ite2 (fun hne => ?_) (fun hne => ?_)
        · have hne2 : rs ≠ [] := fun q => by
            rw [decide_eq_true q] at hne
            cases hne
          have hpos : 0 < rs.length := List.length_pos_iff.mpr hne2
          refine ⟨_, rfl, b, _, rfl, B5.hb, by decide, by decide, fun d H6 d0 d1 B hb6 => ?_⟩
          have B6 := B5.but B hb6
          have W6 := W5.but B
          refine ⟨rfl, _, rfl, ite2 (fun _ => ?_) (fun _ => ?_)⟩
          · refine ⟨_, rfl, _, rfl, b, l, xs, rfl, B6.hb, B6.lb, SqL.of B6.hl, (fun q => by rw [q] at hxl; exact absurd hxl (by rw [List.length_nil]; omega)), by have := B6.hn; omega, fun v H7 hv B hb7 => ?_⟩
            have B7 := B6.but B hb7
            obtain ⟨r, hr, hrv⟩ := Rws.mem B7.hR hv
            exact ⟨l, xs, _, rfl, rfl, B7.hl, small1000 (by have := B4.hn; omega), fin v r H7 B7 (W6.but B) hrv (B7.hm r hr)⟩
          · exact ⟨_, rfl, _, rfl, row _ B6 W6⟩
        · exact ⟨_, rfl, _, rfl, row _ B5 W5⟩
      · rintro σ H4 ⟨rs, xs, t7, rfl, B4, W4, hi4⟩
        exact ⟨z, b, p, l, wr, m, rs, xs, t7, t8, t9, t10, t11, t12, t13, t14, t15, t16, rfl, B4, W4, kn⟩
    case c2 =>
      rintro D σ H1 ⟨z, b, p, l, wr, m, rs, xs, t7, t8, t9, t10, t11, t12, t13, t14, t15, t16, rfl, B1, W1, kn⟩
      have m1 := B1.m1
      have m3 := B1.m3
      have n40 := B1.hn
      have hxl := B1.xlen
      refine ⟨_, rfl, l, xs, rfl, .inl (SqL.of B1.hl), fun g ng => ?_⟩
      have Hg : H g = none := B1.S.free ng
      have gb : g ≠ b := (B1.hb.ne ng).symm
      have gl : g ≠ l := (ne_of_none B1.hl ng).symm
      have gw : g ≠ wr := (ne_of_none W1.hg ng).symm
      have B2 := B1.same (same_newH (o := .lst xs) ng)
      have W2 := W1.same (same_newH (o := .lst xs) ng)
      have hg2 : upd H1 g (.lst xs) g = some (.lst xs) := upd_same
      refine ⟨_, rfl, _, rfl, b, m, rfl, B2.hb, by omega, by omega, fun ur u H3 hur nu hu B hb3 => ?_⟩
      have B3 := B2.but B hb3
      have W3 := W2.but B
      have hg3 := B _ _ gb hg2
      refine ⟨_, _, rfl, ?_⟩
      have hA3 : AllLst H3 [b, g, wr] := fun x hx => by
        simp only [List.mem_cons, List.not_mem_nil, or_false] at hx
        rcases hx with rfl | rfl | rfl
        · exact hb3.lst
        · exact ⟨_, hg3⟩
        · exact ⟨_, W3.hg⟩
      have G3 : Gv H3 [b, g, wr] m rs.length (rs.map rowDt) xs [] :=
        { hd := rws_dqA hA3 B3.hR
          ln := List.length_map ..
          wd := fun d hd => by
            obtain ⟨r, hr, rfl⟩ := List.mem_map.mp hd
            show (r.map PyData.int).length ≤ 1000
            rw [List.length_map, B3.hm r hr]
            omega
          fl := fun i d hi => by
            obtain ⟨r, hr, rfl⟩ := List.mem_map.mp (List.mem_of_getElem? hi)
            rw [isRow_rowDt, decide_eq_true (B3.hm r hr)]
            exact ⟨nofun, fun h => by cases h⟩
          wn := fun w hw => by cases hw }
      have hu3 : IntT H3 (.ref u) ur := ⟨u, rfl, hu⟩
      have hur2 : ur.length = m := by omega
      refine' pickIH (fun n H4 => 0 ≤ n ∧ n ≤ 3 ∧ (rs = [] → n = 0) ∧ Bs H H4 CT b p l m rs xs ∧ Wr H H4 b l wr [] ∧ H4 g = some (.lst xs) ∧ Gv H4 [b, g, wr] m rs.length (rs.map rowDt) xs [] ∧ IntT H4 (.ref u) ur) ?main ?rest
      case main =>
        intro go
        refine ⟨_, rfl, Nat.zero_le _, fun e ne => ?_⟩
        have SE := same_newH (o := .lst []) ne
        have B4 := B3.same SE
        have W4 := W3.same SE
        have G4 : Gv (upd H3 e (.lst [])) [b, g, wr] m rs.length (rs.map rowDt) xs [] := ⟨DqA.buts (Buts.of_same SE) _ _ G3.hd, G3.ln, G3.wd, G3.fl, G3.wn⟩
        refine ⟨.list (rs.map rowDt), .list ([].map rowDt), .lst (SqL.of B4.hl) B4.hR.dp, .lst (SqL.of upd_same) .nil, rows_shaped rs, rows_shaped [], _, rfl, ?_⟩
        rw [eqv_rows]
        refine ite2 (fun hne => ?_) (fun hne => ?_)
        · refine ⟨_, rfl, b, _, rfl, B4.hb, by decide, by decide, fun d H6 d0 d1 B hb6 => ?_⟩
          refine go d H6 ⟨d0, by omega, fun q => ?_, B4.but B hb6, W4.but B, B _ _ gb (SE _ _ hg3), ⟨DqA.buts (Buts.of_but B List.mem_cons_self) _ _ G4.hd, G4.ln, G4.wd, G4.fl, G4.wn⟩, hu3.lsts ((Lsts.same SE).trans (Lsts.but B4.hb B))⟩
          rw [decide_eq_true q] at hne
          cases hne
        · exact go 0 _ ⟨by decide, by decide, fun _ => rfl, B4, W4, SE _ _ hg3, G4, hu3.lsts (Lsts.same SE)⟩
      case rest =>
        rintro n H4 ⟨n0, n3, nz, B4, W4, hg4, G4, hu4⟩
        refine ⟨_, rfl, by omega, by omega, ?_⟩
        refine for_range (fun i σ H' => ∃ (ds : List PyData) (gs : List V) (ws : List Int) (t7 t10 : Option V), σ = [some (.ref a), some (.int z), some (.ref b), some (.int m), some (.ref p), some (.ref l), some (.ref wr), t7, some (.ref g), some (.ref u), t10, t11, t12, t13, t14, t15, t16] ∧ Bs H H' CT b p l m rs xs ∧ Wr H H' b l wr ws ∧ H' g = some (.lst gs) ∧ Gv H' [b, g, wr] m rs.length ds gs ws ∧ IntT H' (.ref u) ur ∧ ws.length = i)
          ⟨_, _, _, _, _, rfl, B4, W4, hg4, G4, hu4, rfl⟩ ?_ ?_
        · rintro i σ H5 hi ⟨ds, gs, ws, t7, t10, rfl, B5, W5, hg5, G5, hu5, hwl⟩
          have hpos : 0 < rs.length := by
            cases rs with
            | nil => rw [nz rfl] at hi; exact absurd hi (Nat.not_lt_zero _)
            | cons r rs => exact Nat.zero_lt_succ _
          have hgl : gs.length = rs.length := by rw [← dqA_len G5.hd, G5.ln]
          refine ⟨_, rfl, _, rfl, l, xs, rfl, .inl (SqL.of B5.hl), b, _, rfl, B5.hb, by omega, by omega, fun d H6 d0 d1 B hb6 => ?_⟩
          have B6 := B5.but B hb6
          have W6 := W5.but B
          have hg6 := B _ _ gb hg5
          have hdN : d.toNat < xs.length := by omega
          have hv : xs[d.toNat]? = some xs[d.toNat] := List.getElem?_eq_getElem hdN
          obtain ⟨r, hr, hrv⟩ := Rws.get B6.hR hv
          obtain ⟨t, etv, ht⟩ := hrv
          have hrm : r.length = m := B6.hm r (List.mem_of_getElem? hr)
          have hA6 : AllLst H6 [b, g, wr] := fun x hx => by
            simp only [List.mem_cons, List.not_mem_nil, or_false] at hx
            rcases hx with rfl | rfl | rfl
            · exact hb6.lst
            · exact ⟨_, hg6⟩
            · exact ⟨_, W6.hg⟩
          refine ⟨_, rfl, _, rfl, _, rfl, l, xs, d, xs[d.toNat], rfl, rfl, SqL.of B6.hl, at_of (j := d.toNat) (by omega) hv, ?_⟩
          rw [etv]
          refine ⟨b, t, r, [b, g, wr], rfl, hb6, List.mem_cons_self, hA6, ht, by omega, by omega, fun e v H7 hd7 hbad hw B' hb7 => ?_⟩
          have B7 := B6.but B' hb7
          have W7 := W6.but B'
          have hg7 := B' _ _ gb hg6
          have BB : But b H5 H7 := B.trans B'
          refine ⟨_, rfl, _, rfl, g, gs, d, d.toNat, rfl, rfl, hg7, ixN_of d0 (by omega), ?_⟩
          have B8 := B7.put (o := .lst (gs.set d.toNat v)) hg7 Hg gb gl
          have hw8 : upd H7 g (.lst (gs.set d.toNat v)) wr = some (.lst (ws.map V.int)) := by
            rw [upd_ne gw.symm]
            exact W7.hg
          refine ⟨_, rfl, .inl ⟨rfl, _, SqL.of hw8⟩, _, rfl, wr, _, _, rfl, rfl, hw8, small1000 (by rw [len_ints]; omega), ?_⟩
          have B9 := B8.put (o := .lst (ws.map V.int ++ [V.int d])) hw8 W5.n W5.gb W5.gl
          have L7 := Lsts.put (o := .lst (gs.set d.toNat v)) hg7
          have L8 := Lsts.put (o := .lst (ws.map V.int ++ [V.int d])) hw8
          have gin : g ∈ [b, g, wr] := List.mem_cons_of_mem _ List.mem_cons_self
          have win : wr ∈ [b, g, wr] := List.mem_cons_of_mem _ (List.mem_cons_of_mem _ List.mem_cons_self)
          have BU : Buts [b, g, wr] H5 (upd (upd H7 g (.lst (gs.set d.toNat v))) wr (.lst (ws.map V.int ++ [V.int d]))) := fun x o n h => by
            rw [upd_ne (fun e : x = wr => n (e ▸ win)), upd_ne (fun e : x = g => n (e ▸ gin))]
            exact BB x o (fun e => n (e ▸ List.mem_cons_self)) h
          have hd9 := Dq.buts (Buts.put (o := .lst (ws.map V.int ++ [V.int d])) win) _ _ (Dq.buts (Buts.put (o := .lst (gs.set d.toNat v)) gin) _ _ hd7)
          have G9 := G5.put BU (i := d.toNat) hd9 (by rw [← hrm]; exact hbad) hw (by omega)
          rw [show ((d.toNat : Nat) : Int) = d by omega] at G9
          refine ⟨_, _, _, _, _, rfl, B9, ⟨W5.n, W5.gb, W5.gl, by rw [upd_same, List.map_append]; rfl⟩, ?_, G9, ((hu5.lsts (Lsts.but B5.hb BB)).lsts L7).lsts L8, by rw [List.length_append, hwl]; rfl⟩
          rw [upd_ne gw, upd_same]
        · rintro σ H5 ⟨ds, gs, ws, t7, t10, rfl, B5, W5, hg5, G5, hu5, hwl⟩
          have hgl : gs.length = rs.length := by rw [← dqA_len G5.hd, G5.ln]
          refine ⟨_, rfl, _, rfl, p, g, _, m, gs, ds, [b, g, wr], rfl, B5.hT, B5.clen, m3, hg5, G5.hd, G5.wd, by omega, fun hall H6 S6 => ?_, fun i d hdi hbad hle H6 S6 => ?_⟩
          · have hws := G5.good hall
            subst hws
            have B6 := B5.same S6
            have W6 := W5.same S6
            refine ⟨_, rfl, _, rfl, Nat.zero_le _, fun e ne => ?_⟩
            have SE := same_newH (o := .lst []) ne
            refine ⟨.list (([] : List Int).map PyData.int), .list [], .lst (SqL.of (SE _ _ W6.hg)) (dp_ints []), .lst (SqL.of upd_same) .nil, shaped_ints [], shaped_nil, _, rfl, ?_⟩
            rw [eqv_ints_nil, decide_eq_true rfl]
            refine iteF ?_
            refine ⟨rfl, _, rfl, ?_⟩
            rw [decide_eq_true rfl]
            refine iteF ?_
            refine ⟨_, rfl, _, _, _, _, _, rfl, .ty _, kd_ok (t := .non) rfl, kit_bool .non, _, rfl, iteF ?_⟩
            exact ⟨z, b, p, l, m, rs, xs, u, ur, _, _, _, _, _, _, _, _, _, _, rfl, B6.same SE, hu5.lsts (Lsts.same (S6.trans SE)), hur2, kn⟩
          · obtain ⟨hin, hle2⟩ := G5.least hdi hbad hle
            have B6 := B5.same S6
            have W6 := W5.same S6
            have hwne : ws ≠ [] := fun q => by
              rw [q] at hin
              cases hin
            refine ⟨_, rfl, _, rfl, Nat.zero_le _, fun e ne => ?_⟩
            have SE := same_newH (o := .lst []) ne
            refine ⟨.list (ws.map PyData.int), .list [], .lst (SqL.of (SE _ _ W6.hg)) (dp_ints ws), .lst (SqL.of upd_same) .nil, shaped_ints ws, shaped_nil, _, rfl, ?_⟩
            rw [eqv_ints_nil, decide_eq_false hwne]
            refine iteT ?_
            refine ⟨_, rfl, wr, ws, rfl, SqL.of (SE _ _ W6.hg), List.length_pos_iff.mpr hwne, fun y hy hyle => ?_⟩
            have ey : y = (i : Int) := by
              have q1 := hle2 y hy
              have q2 := hyle _ hin
              omega
            subst ey
            refine ⟨rfl, _, rfl, ?_⟩
            rw [decide_eq_true rfl]
            refine iteF ?_
            refine ⟨_, rfl, _, _, _, _, _, rfl, .ty _, kd_ok (t := .int) rfl, kit_bool .int, _, rfl, iteF ?_⟩
            exact ⟨z, b, p, l, m, rs, xs, u, ur, _, _, _, _, _, _, _, _, _, _, rfl, B6.same SE, hu5.lsts (Lsts.same (S6.trans SE)), hur2, kn⟩
    case c3 =>
      rintro D σ H1 ⟨z, b, p, l, m, rs, xs, u, ur, t6, t7, t8, t10, t11, t12, t13, t14, t15, t16, rfl, B1, hu1, hur, kn⟩
      have m1 := B1.m1
      have m3 := B1.m3
      have n40 := B1.hn
      have hxl := B1.xlen
      have good : ∀ {A : Prop} {F : Nat → Prop} {ss : List (List Int)}, (∀ r ∈ ss, r.length = m) → A → Told m (ss.map rowDt) A F := fun hs h => by
        have row : ∀ {d : PyData}, d ∈ List.map rowDt _ → isRowD m d = true := fun hd => by
          obtain ⟨r, hr, rfl⟩ := List.mem_map.mp hd
          rw [isRow_rowDt, decide_eq_true (hs r hr)]
        refine ⟨fun _ => h, fun i d hi hb _ => ?_⟩
        rw [row (List.mem_of_getElem? hi)] at hb
        cases hb
      have wide : ∀ {ss : List (List Int)}, (∀ r ∈ ss, r.length = m) → ∀ d ∈ ss.map rowDt, wid d ≤ 1000 := fun hs d hd => by
        obtain ⟨r, hr, rfl⟩ := List.mem_map.mp hd
        show (r.map PyData.int).length ≤ 1000
        rw [List.length_map, hs r hr]
        omega
      have hmr : ∀ r ∈ rs.reverse, r.length = m := fun r hr => B1.hm r (List.mem_reverse.mp hr)
      refine ⟨_, rfl, l, xs, rfl, .inl (SqL.of B1.hl), fun g ng => ?_⟩
      have Hg : H g = none := B1.S.free ng
      have gb : g ≠ b := (B1.hb.ne ng).symm
      have gl : g ≠ l := (ne_of_none B1.hl ng).symm
      have SG := same_newH (o := .lst xs) ng
      have B2 := B1.same SG
      have hg2 : upd H1 g (.lst xs) g = some (.lst xs) := upd_same
      have hu2 := hu1.lsts (Lsts.same SG)
      refine ⟨_, rfl, _, rfl, fun x dx nx ndx nxd => ?_⟩
      have SM : Same (upd H1 g (.lst xs)) (upd (upd (upd H1 g (.lst xs)) dx (.own x)) x (.ins CS dx [])) := fun q o e => by
        rw [upd_ne (ne_of_none e nx), upd_ne (ne_of_none e ndx)]
        exact e
      refine ⟨x, p, g, dx, _, m, xs, rs.map rowDt, [], rfl, upd_same, (B2.hT.same SM), B2.clen, m3, .inl (SM _ _ hg2), rws_dqA (fun _ h => by cases h) (Rws.lsts (Lsts.same SM) B2.hR), wide B1.hm, by omega, good B1.hm fun t H3 B hx3 ht3 => ⟨rfl, ?_⟩⟩
      have S3 := made_same nx ndx B
      have B3 := B2.same S3
      have hg3 := S3 _ _ hg2
      have st3 : StAt H3 CS x p t xs := ⟨dx, hx3, ht3⟩
      refine ⟨_, rfl, _, rfl, g, xs, rfl, SqL.of hg3, fun q nq => ?_⟩
      have SQ := same_newH (o := .lst xs.reverse) nq
      refine ⟨q, _, rfl, .inl ⟨SqL.of upd_same, fun v nv => ?_⟩⟩
      have SV := same_newH (o := .tup xs.reverse) nv
      have S4 := SQ.trans SV
      intro y dy ny ndy nyd
      have SM2 : Same (upd (upd H3 q (.lst xs.reverse)) v (.tup xs.reverse)) (upd (upd (upd (upd H3 q (.lst xs.reverse)) v (.tup xs.reverse)) dy (.own y)) y (.ins CS dy [])) := fun q o e => by
        rw [upd_ne (ne_of_none e ny), upd_ne (ne_of_none e ndy)]
        exact e
      have B4 := B3.same S4
      have hv4 : upd (upd H3 q (.lst xs.reverse)) v (.tup xs.reverse) v = some (.tup xs.reverse) := upd_same
      refine ⟨y, p, v, dy, _, m, xs.reverse, rs.reverse.map rowDt, [], rfl, upd_same, (B4.hT.same SM2), B4.clen, m3, .inr (SM2 _ _ hv4), rws_dqA (fun _ h => by cases h) (Rws.rev (Rws.lsts (Lsts.same SM2) B4.hR)), wide hmr, by rw [List.length_reverse]; omega, good hmr fun t2 H5 B5' hy5 ht5 => ⟨rfl, ?_⟩⟩
      have S5 := made_same ny ndy B5'
      have B5 := B4.same S5
      have st5 : StAt H5 CS x p t xs := (st3.lsts (Lsts.same S4)).lsts (Lsts.same S5)
      have sy5 : StAt H5 CS y p t2 xs.reverse := ⟨dy, hy5, ht5⟩
      have hg5 := S5 _ _ (S4 _ _ hg3)
      refine ⟨_, _, rfl, ?_⟩
      have hu5 := hu2.lsts (Lsts.same (S3.trans (S4.trans S5)))
      refine ⟨_, rfl, .inl ⟨rfl, _, SqL.of hg5⟩, _, rfl, g, _, _, rfl, rfl, hg5, small1000 (by omega), ?_⟩
      have B6 := B5.put (o := .lst (xs ++ [V.ref u])) hg5 Hg gb gl
      have L6 := Lsts.put (o := .lst (xs ++ [V.ref u])) hg5
      have hg6 : upd H5 g (.lst (xs ++ [V.ref u])) g = some (.lst (xs ++ [V.ref u])) := upd_same
      refine ⟨_, rfl, g, _, 0, 0, rfl, rfl, hg6, ixN_of (by decide) (by rw [List.length_append]; show (0 : Int) < ((_ + 1 : Nat) : Int); omega), ?_⟩
      have B7 := B6.put (o := .lst ((xs ++ [V.ref u]).set 0 V.non)) hg6 Hg gb gl
      have L7 := Lsts.put (o := .lst ((xs ++ [V.ref u]).set 0 V.non)) hg6
      exact ⟨z, b, p, l, x, y, t, t2, m, rs, xs, u, ur, _, _, _, _, _, _, _, _, rfl, B7, (hu5.lsts L6).lsts L7, hur, (st5.lsts L6).lsts L7, (sy5.lsts L6).lsts L7, kn⟩
    case c4 =>
      rintro D σ H1 ⟨z, b, p, l, x, y, tx, ty, m, rs, xs, u, ur, t6, t7, t8, t10, t11, t14, t15, t16, rfl, B1, hu1, hur, sx1, sy1, kn⟩
      have n40 := B1.hn
      have hxl := B1.xlen
      obtain ⟨dx, hx, htx⟩ := id sx1
      obtain ⟨dy, hy, hty⟩ := id sy1
      obtain ⟨dp, ct, hp, hct⟩ := id B1.hT
      refine ⟨_, rfl, x, CS, dx, _, _, rfl, hx, TS.cl, TS.nT, rfl, _, rfl, p, dp, _, .ref CT, rfl, hp, N.ty hp, N.self, p, .ref p, colS.take m, rfl, B1.hT, col_words m, .inl ⟨p, colS.take m, rfl, B1.hT, col_words m, _, rfl, _, rfl, ?_⟩⟩
      rw [decide_eq_true rfl]
      refine iteF ?_
      refine ⟨_, rfl, x, dx, _, rfl, hx, x, p, tx, xs, rfl, sx1, xs.length, rfl, by omega, _, rfl, l, xs, rfl, .inl (SqL.of B1.hl), rfl, _, rfl, ?_⟩
      rw [decide_eq_true rfl]
      refine iteF ?_
      refine ⟨_, rfl, y, dy, _, rfl, hy, y, p, ty, xs.reverse, rfl, sy1, xs.reverse.length, rfl, by rw [List.length_reverse]; omega, _, rfl, l, xs, rfl, .inl (SqL.of B1.hl), rfl, _, rfl, ?_⟩
      rw [decide_eq_true (by rw [List.length_reverse])]
      refine iteF ?_
      refine ⟨_, rfl, by decide, by decide, ?_⟩
      refine for_range (fun i σ H' => ∃ (t7 t14 : Option V), σ = [some (.ref a), some (.int z), some (.ref b), some (.int m), some (.ref p), some (.ref l), t6, t7, t8, some (.ref u), t10, t11, some (.ref x), some (.ref y), t14, t15, t16] ∧ Bs H H' CT b p l m rs xs ∧ IntT H' (.ref u) ur ∧ StAt H' CS x p tx xs ∧ StAt H' CS y p ty xs.reverse)
        ⟨_, _, rfl, B1, hu1, sx1, sy1⟩ ?_ ?_
      · rintro i σ H2 hi ⟨t7, t14, rfl, B2, hu2, sx2, sy2⟩
        obtain ⟨dx, hx, htx⟩ := id sx2
        refine ⟨_, rfl, x, dx, _, rfl, hx, rfl, x, p, tx, xs, rfl, sx2, fun q nq => ?_⟩
        have SQ := same_newH (o := .lst xs) nq
        have Hq : H q = none := B2.S.free nq
        have qb : q ≠ b := (B2.hb.ne nq).symm
        have ql : q ≠ l := (ne_of_none B2.hl nq).symm
        have hq3 : upd H2 q (.lst xs) q = some (.lst xs) := upd_same
        have B3 := B2.same SQ
        have sx3 := sx2.lsts (Lsts.same SQ)
        have sy3 := sy2.lsts (Lsts.same SQ)
        have hu3 := hu2.lsts (Lsts.same SQ)
        generalize upd H2 q (.lst xs) = H3 at *
        refine ⟨_, rfl, _, _, _, _, _, rfl, .ty _, kd_ok (kd_lst hq3), kit_list .lst, _, rfl, ?_⟩
        refine iteF ?_
        refine ⟨_, rfl, _, rfl, .list (rs.map rowDt), .list (rs.map rowDt), .lst (SqL.of hq3) B3.hR.dp, .lst (SqL.of B3.hl) B3.hR.dp, rows_shaped rs, rows_shaped rs, _, rfl, ?_⟩
        rw [eqv_rows, decide_eq_true rfl]
        refine iteF ?_
        obtain ⟨dy, hy, hty⟩ := id sy3
        refine ⟨_, rfl, y, dy, _, rfl, hy, rfl, y, p, ty, xs.reverse, rfl, sy3, fun e ne => ?_⟩
        have SE := same_newH (o := .lst xs.reverse) ne
        have he : upd H3 e (.lst xs.reverse) e = some (.lst xs.reverse) := upd_same
        have B4 := B3.same SE
        refine ⟨_, rfl, l, xs, rfl, SqL.of B4.hl, fun e2 ne2 => ?_⟩
        have SE2 := same_newH (o := .lst xs.reverse) ne2
        have B5 := B4.same SE2
        refine ⟨.list (rs.reverse.map rowDt), .list (rs.reverse.map rowDt), .lst (SqL.of (SE2 _ _ he)) B5.hR.rev.dp, .lst (SqL.of upd_same) B5.hR.rev.dp, rows_shaped _, rows_shaped _, _, rfl, ?_⟩
        rw [eqv_rows, decide_eq_true rfl]
        refine iteF ?_
        have S5 := SE.trans SE2
        have hq5 := S5 _ _ hq3
        refine ⟨_, rfl, .inl ⟨rfl, _, SqL.of hq5⟩, _, rfl, q, _, _, rfl, rfl, hq5, small1000 (by omega), ?_⟩
        have L6 := (Lsts.same S5).trans (Lsts.put (o := .lst (xs ++ [V.ref u])) hq5)
        exact ⟨_, _, rfl, B5.put (o := .lst (xs ++ [V.ref u])) hq5 Hq qb ql, hu3.lsts L6, sx3.lsts L6, sy3.lsts L6⟩
      · rintro σ H2 ⟨t7, t14, rfl, B2, hu2, sx2, sy2⟩
        exact ⟨z, b, p, l, x, y, tx, ty, m, rs, xs, u, ur, _, _, _, _, _, _, _, _, rfl, B2, hu2, hur, sx2, sy2, kn⟩
    case c5 =>
      rintro D σ H1 ⟨z, b, p, l, x, y, tx, ty, m, rs, xs, u, ur, t6, t7, t8, t10, t11, t14, t15, t16, rfl, B1, hu1, hur, sx1, sy1, kn⟩
      have m1 := B1.m1
      have m3 := B1.m3
      have n40 := B1.hn
      have hxl := B1.xlen
      refine ⟨_, rfl, _, rfl, l, xs, rfl, SqL.of B1.hl, fun q nq => ?_⟩
      have ec : cutV xs none (some 5) = xs.take 5 := cut_take xs 5
      rw [ec]
      have SQ := same_newH (o := .lst (xs.take 5)) nq
      have hq2 : upd H1 q (.lst (xs.take 5)) q = some (.lst (xs.take 5)) := upd_same
      refine ⟨_, rfl, (by show 1 ≤ sizeLine; decide), fun e ne => ?_⟩
      have SE := same_newH (o := .lst [V.ref u]) ne
      refine ⟨q, e, _, _, rfl, rfl, SE _ _ hq2, upd_same, (by rw [List.length_take]; exact Nat.le_of_lt (small1000 (by show min 5 xs.length + 1 ≤ 1000; omega))), fun g ng => ?_⟩
      have SG := same_newH (o := .lst (xs.take 5 ++ [V.ref u])) ng
      have S14 := SQ.trans (SE.trans SG)
      have hg4 : upd (upd (upd H1 q (.lst (xs.take 5))) e (.lst [V.ref u])) g (.lst (xs.take 5 ++ [V.ref u])) g = some (.lst (xs.take 5 ++ [V.ref u])) := upd_same
      have B4 := B1.same S14
      have hu4 := hu1.lsts (Lsts.same S14)
      have sx4 := sx1.lsts (Lsts.same S14)
      have sy4 := sy1.lsts (Lsts.same S14)
      have gb : g ≠ b := fun q => by
        obtain ⟨ys, h⟩ := (B1.hb.same (SQ.trans SE)).lst
        rw [← q, ng] at h
        cases h
      generalize upd (upd (upd H1 q (.lst (xs.take 5))) e (.lst [V.ref u])) g (.lst (xs.take 5 ++ [V.ref u])) = H4 at *
      refine ⟨g, rfl, ⟨_, SqL.of hg4⟩, ?_⟩
      refine for_list (xs := xs.take 5 ++ [V.ref u]) (fun i σ H' => ∃ (t15 : Option V), σ = [some (.ref a), some (.int z), some (.ref b), some (.int m), some (.ref p), some (.ref l), t6, t7, t8, some (.ref u), t10, t11, some (.ref x), some (.ref y), t14, t15, t16] ∧ Bs H H' CT b p l m rs xs ∧ IntT H' (.ref u) ur ∧ StAt H' CS x p tx xs ∧ StAt H' CS y p ty xs.reverse ∧ H' g = some (.lst (xs.take 5 ++ [V.ref u])))
        ⟨_, rfl, B4, hu4, sx4, sy4, hg4⟩ (fun i σ H' _ ⟨_, _, _, _, _, _, h⟩ => SqL.of h) ?_ ?_
      · rintro i v σ H5 hi ⟨t15, rfl, B5, hu5, sx5, sy5, hg5⟩
        obtain ⟨r, hrv, hrm⟩ : ∃ r, IntT H5 v r ∧ r.length = m := by
          rcases List.mem_append.mp (List.mem_of_getElem? hi) with h | h
          · obtain ⟨r, hr, q⟩ := Rws.mem B5.hR (List.mem_of_mem_take h)
            exact ⟨r, q, B5.hm r hr⟩
          · rw [List.mem_singleton.mp h]
            exact ⟨ur, hu5, hur⟩
        have uniq : ∀ {H' : Hp} {r'}, IntT H' v r → IntT H' v r' → r' = r := fun h1 h2 => by
          obtain ⟨t1, e1, h1⟩ := h1
          obtain ⟨t2, e2, h2⟩ := h2
          rw [e1] at e2
          cases e2
          rw [h1] at h2
          have h3 : List.map V.int r = List.map V.int _ := HO.tup.inj (Option.some.inj h2)
          exact ((List.map_inj_right fun _ _ h => V.int.inj h).mp h3).symm
        have kn5 : Known H5 v := intT_known hrv (by omega)
        obtain ⟨dx, hx, _⟩ := id sx5
        have notF : ∀ {H'}, IntT H' v r → ¬ rowB H' v (m : Nat) = false := fun h q => by
          rw [intT_row h, decide_eq_true hrm] at q
          cases q
        refine ⟨_, rfl, _, rfl, x, dx, _, rfl, hx, x, p, tx, v, _, xs, m, rs, rfl, sx5, B5.hT, B5.clen, m3, B5.hR, kn5, fun q => absurd q (notF hrv), fun r' h1 _ H6 S6 => ?_⟩
        cases uniq hrv h1
        have B6 := B5.same S6
        have hrv6 := hrv.lsts (Lsts.same S6)
        have hD : ∀ {H'}, IntT H' v r → Dp K H' v (rowDt r) := fun ⟨t, e, h⟩ => by
          subst e
          exact .tup (SqT.of h) (dp_ints r)
        refine ⟨_, rfl, _, rfl, _, rfl, rowDt r, rs.map rowDt, hD hrv6, .lst (SqL.of B6.hl) B6.hR.dp, rowDt_shaped r, rows_shaped rs, ?_⟩
        rw [Own.any_rows]
        refine ⟨rfl, _, rfl, ite2 (fun hx => ?_) (fun _ => ?_)⟩
        · have hx' : (!decide (V.bl (decide (r ∈ rs)) = V.bl (decide (r ∈ rs)))) = true := hx
          rw [decide_eq_true rfl] at hx'
          cases hx'
        have sx6 := sx5.lsts (Lsts.same S6)
        have sy6 := sy5.lsts (Lsts.same S6)
        obtain ⟨dy, hy, _⟩ := id sy6
        refine ⟨_, rfl, _, rfl, y, dy, _, rfl, hy, y, p, ty, v, _, xs.reverse, m, rs.reverse, rfl, sy6, B6.hT, B6.clen, m3, B6.hR.rev, intT_known hrv6 (by omega), fun q => absurd q (notF hrv6), fun r' h1 _ H7 S7 => ?_⟩
        cases uniq hrv6 h1
        have B7 := B6.same S7
        have hrv7 := hrv6.lsts (Lsts.same S7)
        refine ⟨_, rfl, _, rfl, _, rfl, rowDt r, rs.map rowDt, hD hrv7, .lst (SqL.of B7.hl) B7.hR.dp, rowDt_shaped r, rows_shaped rs, ?_⟩
        rw [Own.any_rows]
        refine ⟨rfl, _, rfl, ite2 (fun hx => ?_) (fun _ => ?_)⟩
        · have hx' : (!decide (V.bl (decide (r ∈ rs.reverse)) = V.bl (decide (r ∈ rs)))) = true := hx
          rw [decide_eq_true (show V.bl (decide (r ∈ rs.reverse)) = V.bl (decide (r ∈ rs)) by rw [decide_eq_decide.mpr List.mem_reverse])] at hx'
          cases hx'
        obtain ⟨tv, ev, hv7⟩ := id hrv7
        refine ⟨_, rfl, _, rfl, ?_⟩
        rw [ev]
        refine ⟨b, tv, r, [b], rfl, B7.hb, List.mem_cons_self, (fun w hw => by rw [List.mem_singleton.mp hw]; exact B7.hb.lst), hv7, by omega, by omega, fun d v' H8 hd hbad hw B hb8 => ?_⟩
        have B8 := B7.but B hb8
        have L8 := Lsts.but B7.hb B
        have sx8 := (sx6.lsts (Lsts.same S7)).lsts L8
        have sy8 := (sy6.lsts (Lsts.same S7)).lsts L8
        have hu8 := ((hu5.lsts (Lsts.same S6)).lsts (Lsts.same S7)).lsts L8
        have hg8 := B _ _ gb (S7 _ _ (S6 _ _ hg5))
        obtain ⟨dx8, hx8, _⟩ := id sx8
        have hrow : rowB H8 v' (m : Nat) = false := by
          rw [dq_row hd, ← hrm]
          exact hbad
        refine ⟨_, rfl, x, dx8, _, rfl, hx8, x, p, tx, v', _, xs, m, rs, rfl, sx8, B8.hT, B8.clen, m3, B8.hR, dq_known hd hw, fun _ H9 S9 => ⟨_, rfl, _, rfl, ?_⟩, fun r' h1 h2 => ?_⟩
        · refine iteF ?_
          exact ⟨_, rfl, B8.same S9, hu8.lsts (Lsts.same S9), sx8.lsts (Lsts.same S9), sy8.lsts (Lsts.same S9), S9 _ _ hg8⟩
        · rw [intT_row h1, decide_eq_true h2] at hrow
          cases hrow
      · rintro σ H5 ⟨t15, rfl, B5, hu5, sx5, sy5, hg5⟩
        exact ⟨z, b, p, l, m, rs, xs, _, _, _, _, _, _, _, _, _, _, _, rfl, B5, kn⟩
    case c6 =>
      rintro D σ H1 ⟨z, b, p, l, m, rs, xs, t6, t7, t8, t9, t10, t11, t12, t13, t14, t15, t16, rfl, B1, kn⟩
      have m1 := B1.m1
      have m3 := B1.m3
      have ones : (List.replicate ((m : Nat) : Int).toNat [V.int 1]).flatten = (List.replicate m (1 : Int)).map V.int := by
        rw [rep_flat, List.map_replicate]
        rfl
      refine ⟨_, rfl, (by show 1 ≤ sizeLine; decide), fun t nt => ?_⟩
      have ST := same_newH (o := .tup [V.int 1]) nt
      refine ⟨_, rfl, t, m, [.int 1], rfl, rfl, upd_same, List.cons_ne_nil _ _, by omega, by omega, by decide, fun q H2 S2 hq => ?_⟩
      rw [ones] at hq
      refine ⟨(by show 1 ≤ sizeLine; decide), fun g ng => ?_⟩
      have SG := same_newH (o := .lst [V.ref q]) ng
      have S13 := ST.trans (S2.trans SG)
      have B3 := B1.same S13
      have hq3 := SG _ _ hq
      have hg3 : upd H2 g (.lst [V.ref q]) g = some (.lst [V.ref q]) := upd_same
      generalize upd H2 g (.lst [V.ref q]) = H3 at *
      intro x dx nx ndx nxd
      have SM : Same H3 (upd (upd H3 dx (.own x)) x (.ins CS dx [])) := fun q o e => by
        rw [upd_ne (ne_of_none e nx), upd_ne (ne_of_none e ndx)]
        exact e
      have hR : ∀ {H'}, Same H3 H' → Rws H' [List.replicate m 1] [V.ref q] := fun S => ⟨_, _, rfl, ⟨q, rfl, S _ _ hq3⟩, rfl⟩
      refine ⟨x, p, g, dx, _, m, [V.ref q], [List.replicate m 1].map rowDt, [], rfl, upd_same, (B3.hT.same SM), B3.clen, m3, .inl (SM _ _ hg3), rws_dqA (fun _ h => by cases h) (hR SM), ?_, by show 1 ≤ 60; decide, ⟨fun _ t4 H4 B hx4 ht4 => ⟨rfl, ?_⟩, fun i d hi hb _ => ?_⟩⟩
      · intro d hd
        rw [List.mem_singleton.mp hd]
        show (List.map PyData.int (List.replicate m 1)).length ≤ 1000
        rw [List.length_map, List.length_replicate]
        omega
      rotate_left
      · rw [List.mem_singleton.mp (List.mem_of_getElem? hi), isRow_rowDt, decide_eq_true List.length_replicate] at hb
        cases hb
      have S4 := made_same nx ndx B
      have B4 := B3.same S4
      have sx4 : StAt H4 CS x p t4 [V.ref q] := ⟨dx, hx4, ht4⟩
      have hR4 : Rws H4 [List.replicate m 1] [V.ref q] := hR S4
      clear hR
      -- (True,) * many
      refine ⟨(by show 1 ≤ sizeLine; decide), fun t5 nt5 => ?_⟩
      have ST5 := same_newH (o := .tup [V.bl true]) nt5
      refine ⟨_, rfl, t5, m, [.bl true], rfl, rfl, upd_same, List.cons_ne_nil _ _, by omega, by omega, by decide, fun q6 H6 S6 hq6 => ?_⟩
      rw [rep_flat] at hq6
      have S46 := ST5.trans S6
      have B6 := B4.same S46
      have sx6 := sx4.lsts (Lsts.same S46)
      obtain ⟨dx6, hx6, _⟩ := id sx6
      have hmem : V.bl true ∈ List.replicate ((m : Nat) : Int).toNat (V.bl true) := List.mem_replicate.mpr ⟨by omega, rfl⟩
      have hF6 : rowB H6 (.ref q6) (m : Nat) = false := rowB_bad hq6 ⟨_, hmem, rfl⟩
      refine ⟨_, rfl, x, dx6, _, rfl, hx6, x, p, t4, .ref q6, _, _, m, [List.replicate m 1], rfl, sx6, B6.hT, B6.clen, m3, Rws.lsts (Lsts.same S46) hR4, known_tupF hq6 (by rw [List.length_replicate]; omega) (fun w hw => by rw [(List.mem_replicate.mp hw).2]; rfl), fun _ H7 S7 => ⟨_, rfl, _, rfl, ?_⟩, fun r' h1 h2 => ?_⟩
      rotate_left
      · rw [intT_row h1, decide_eq_true h2] at hF6
        cases hF6
      refine iteF ?_
      have S47 := S46.trans S7
      have B7 := B4.same S47
      have sx7 := sx4.lsts (Lsts.same S47)
      -- (1,) * many
      refine ⟨(by show 1 ≤ sizeLine; decide), fun t8 nt8 => ?_⟩
      have ST8 := same_newH (o := .tup [V.int 1]) nt8
      refine ⟨_, rfl, t8, m, [.int 1], rfl, rfl, upd_same, List.cons_ne_nil _ _, by omega, by omega, by decide, fun q9 H9 S9 hq9 => ?_⟩
      rw [ones] at hq9
      have S49 := S47.trans (ST8.trans S9)
      have B9 := B4.same S49
      have sx9 := sx4.lsts (Lsts.same S49)
      obtain ⟨dx9, hx9, _⟩ := id sx9
      have hI9 : IntT H9 (.ref q9) (List.replicate m 1) := ⟨q9, rfl, hq9⟩
      refine ⟨_, rfl, x, dx9, _, rfl, hx9, x, p, t4, .ref q9, _, _, m, [List.replicate m 1], rfl, sx9, B9.hT, B9.clen, m3, Rws.lsts (Lsts.same S49) hR4, intT_known hI9 (by rw [List.length_replicate]; omega), fun q => ?_, fun r' h1 h2 H10 S10 => ⟨_, rfl, _, rfl, ?_⟩⟩
      · rw [intT_row hI9, decide_eq_true List.length_replicate] at q
        cases q
      have er : r' = List.replicate m 1 := by
        obtain ⟨t1, e1, h1⟩ := h1
        cases e1
        rw [hq9] at h1
        have h3 : List.map V.int (List.replicate m 1) = List.map V.int r' := HO.tup.inj (Option.some.inj h1)
        exact ((List.map_inj_right fun _ _ h => V.int.inj h).mp h3).symm
      rw [decide_eq_true (by rw [er]; exact List.mem_singleton.mpr rfl)]
      refine iteF ?_
      have S410 := S49.trans S10
      have B10 := B4.same S410
      -- [1] * many
      refine ⟨(by show 1 ≤ sizeLine; decide), fun l11 nl11 => ?_⟩
      have S11 := same_newH (o := .lst [V.int 1]) nl11
      refine ⟨_, rfl, l11, m, _, rfl, rfl, upd_same, by omega, by omega, ?_, fun l12 nl12 => ?_⟩
      · have e1 : [V.int 1].length = 1 := rfl
        rw [e1, Nat.one_mul]
        exact Nat.le_of_lt (small1000 (by omega))
      have S12 := same_newH (o := .lst (List.replicate ((m : Nat) : Int).toNat [V.int 1]).flatten) nl12
      have S412 := S410.trans (S11.trans S12)
      have B12 := B4.same S412
      have sx12 := sx4.lsts (Lsts.same S412)
      obtain ⟨dx12, hx12, _⟩ := id sx12
      refine ⟨_, rfl, x, dx12, _, rfl, hx12, x, p, t4, .ref l12, _, _, m, [List.replicate m 1], rfl, sx12, B12.hT, B12.clen, m3, Rws.lsts (Lsts.same S412) hR4, known_lst upd_same, fun _ H13 S13' => ⟨_, rfl, _, rfl, ?_⟩, fun r' h1 h2 => ?_⟩
      · refine iteF ?_
        exact kn _ _ ⟨_, _, _, _, _, _, _, _, _, _, _, _, _, _, _, _, rfl⟩ (B12.same S13').S
      · obtain ⟨t1, e1, h1⟩ := h1
        cases e1
        rw [upd_same] at h1
        cases h1
    · have hj : ∀ j : Int, j = (if (if ((ns.map V.int).length : Int) < 6 then ((ns.map V.int).length : Int) else 6) > 1 then (if ((ns.map V.int).length : Int) < 6 then ((ns.map V.int).length : Int) else 6) else 1) → 0 ≤ j ∧ j ≤ 8 := by
        intro j e
        subst e
        split <;> split <;> omega
      have hj := hj _ rfl
      refine ⟨_, rfl, a, _, rfl, .inl hS, _, _, rfl, _, _, rfl, _, rfl, by omega, by omega, ?_⟩
      refine for_range (fun i σ H' => ∃ t1 t2 t3 t4 t5 t6 t7 t8 t9 t10 t11 t12 t13 t14 t15 t16, σ = [some (.ref a), t1, t2, t3, t4, t5, t6, t7, t8, t9, t10, t11, t12, t13, t14, t15, t16] ∧ Same H H') ⟨none, none, none, none, none, none, none, none, none, none, none, none, none, none, none, none, rfl, Same.refl _⟩ ?_ ?_
      · rintro i σ H1 hi ⟨t1, t2, t3, t4, t5, t6, t7, t8, t9, t10, t11, t12, t13, t14, t15, t16, rfl, S1⟩
        refine ⟨_, rfl, _, rfl, a, ns, i, (by rw [Int.zero_add]; rfl), S1.seq hS, hlen, by omega, fun b H2 S2 nb1 hb2 => ?_⟩
        refine ⟨_, rfl, b, 3, rfl, hb2, by decide, by decide, fun d H3 d0 d1 B3 hb3 => ?_⟩
        refine ⟨_, _, rfl, rfl, ?_⟩
        have nb : H b = none := S1.free nb1
        have S3 : Same H H3 := B3.to_same (S1.trans S2) nb
        have ecols : [V.str "id", V.str "owner", V.str "size"] = colS.map V.str := rfl
        refine ⟨(by show 3 ≤ sizeLine; decide), fun l nl => ?_⟩
        refine ⟨_, rfl, _, rfl, l, _, rfl, SqL.of upd_same, fun l2 nl2 => ?_⟩
        intro x dx nx ndx nxd
        obtain ⟨m, hdm, hm1, hm3⟩ : ∃ m : Nat, d = (m : Int) - 1 ∧ 1 ≤ m ∧ m ≤ 3 := ⟨(d + 1).toNat, by omega, by omega, by omega⟩
        have em : (1 : Int) + d = ((m : Nat) : Int) := by omega
        have ec : cutV (colS.map V.str) none (some (1 + d)) = (colS.take m).map V.str := by rw [em, cut_take, List.map_take]
        have S4 : Same H3 (upd (upd H3 l (.lst (colS.map V.str))) l2 (.lst (cutV (colS.map V.str) none (some (1 + d))))) := (same_newH nl).trans (same_newH nl2)
        have hl2 : upd (upd H3 l (.lst (colS.map V.str))) l2 (.lst (cutV (colS.map V.str) none (some (1 + d)))) l2 = some (.lst (cutV (colS.map V.str) none (some (1 + d)))) := upd_same
        have hl2' : upd (upd (upd (upd H3 l (.lst (colS.map V.str))) l2 (.lst (cutV (colS.map V.str) none (some (1 + d))))) dx (.own x)) x (.ins CT dx []) l2 = some (.lst (cutV (colS.map V.str) none (some (1 + d)))) := by
          rw [upd_ne (ne_of_none hl2 nx), upd_ne (ne_of_none hl2 ndx)]
          exact hl2
        have hdue : dueV ((colS.take m).map V.str) = .non := by
          have : m = 1 ∨ m = 2 ∨ m = 3 := by omega
          rcases this with rfl | rfl | rfl <;> decide +kernel
        have hlen3 : ((colS.take m).map V.str).length ≤ 1000 := by
          rw [List.length_map, List.length_take]
          show min m 3 ≤ 1000
          omega
        refine ⟨x, l2, dx, _, rfl, upd_same, .inl (SqL.of hl2'), (by rw [ec]; exact hlen3), (by rw [ec]; exact ent_word (col_words m)), (by rw [ec]; exact hdue), fun H5 B5 hT => ⟨rfl, ?_⟩⟩
        rw [ec] at hT
        have S5 : Same H H5 := S3.trans (S4.trans (made_same nx ndx B5))
        have hb5 : Bag H5 b := hb3.same (S4.trans (made_same nx ndx B5))
        refine ⟨Nat.zero_le _, fun l6 nl6 => ?_⟩
        have S6 := same_newH (o := .lst []) nl6
        refine ⟨Nat.zero_le _, fun l7 nl7 => ?_⟩
        have S7 := same_newH (o := .lst []) nl7
        refine ⟨_, _, _, rfl, ?_⟩
        have h67 : l7 ≠ l6 := (ne_of_none upd_same nl7).symm
        have S57 := S6.trans S7
        exact ⟨_, b, x, l6, l7, m, _, _, _, _, _, _, _, _, _, _, (by rw [← em]; rfl), ⟨S5.trans S57, nb, S5.free nl6, hb5.same S57, hm1, hm3, hT.same S57, (hb5.ne nl6).symm, S7 _ _ upd_same, rfl, (fun _ h => by cases h), Nat.zero_le _⟩,
          ⟨(S5.trans S6).free nl7, ((hb5.same S6).ne nl7).symm, h67, upd_same⟩, fun σ' H8 hσ S8 => by
            obtain ⟨u1, u2, u3, u4, u5, u6, u7, u8, u9, u10, u11, u12, u13, u14, u15, u16, rfl⟩ := hσ
            exact ⟨u1, u2, u3, u4, u5, u6, u7, u8, u9, u10, u11, u12, u13, u14, u15, u16, rfl, S8⟩⟩
      · rintro σ H1 ⟨t1, t2, t3, t4, t5, t6, t7, t8, t9, t10, t11, t12, t13, t14, t15, t16, rfl, S1⟩
        exact k _
end
end K22

namespace K22
open PySem PySem.Spec PyProof.Rows L2 Own
def d_is_integer : He.DefD := ⟨("is_integer", none), "is_integer", "is_integer", defArgs s_is_integer, defBody s_is_integer, defScope s_is_integer, [], []⟩
def d_is_word : He.DefD := ⟨("is_word", none), "is_word", "is_word", defArgs s_is_word, defBody s_is_word, defScope s_is_word, [], []⟩
def d_copied : He.DefD := ⟨("copied", none), "copied", "copied", defArgs s_copied, defBody s_copied, defScope s_copied, [], []⟩
def d_BadRowsinit : He.DefD := ⟨("BadRows", some "__init__"), "__init__", "BadRows.__init__", defArgs s_BadRowsinit, defBody s_BadRowsinit, defScope s_BadRowsinit, [], []⟩
def d_first_bad : He.DefD := ⟨("first_bad", none), "first_bad", "first_bad", defArgs s_first_bad, defBody s_first_bad, defScope s_first_bad, [], []⟩
def d_Tableinit : He.DefD := ⟨("Table", some "__init__"), "__init__", "Table.__init__", defArgs s_Tableinit, defBody s_Tableinit, defScope s_Tableinit, [], []⟩
def d_Tablecontains : He.DefD := ⟨("Table", some "__contains__"), "__contains__", "Table.__contains__", defArgs s_Tablecontains, defBody s_Tablecontains, defScope s_Tablecontains, [], []⟩
def d_Tableeq : He.DefD := ⟨("Table", some "__eq__"), "__eq__", "Table.__eq__", defArgs s_Tableeq, defBody s_Tableeq, defScope s_Tableeq, [], []⟩
def d_Storeinit : He.DefD := ⟨("Store", some "__init__"), "__init__", "Store.__init__", defArgs s_Storeinit, defBody s_Storeinit, defScope s_Storeinit, [], []⟩
def d_Storelen : He.DefD := ⟨("Store", some "__len__"), "__len__", "Store.__len__", defArgs s_Storelen, defBody s_Storelen, defScope s_Storelen, [], []⟩
def d_Store_listed : He.DefD := ⟨("Store", some "listed"), "listed", "Store.listed", defArgs s_Store_listed, defBody s_Store_listed, defScope s_Store_listed, [], []⟩
def d_Storecontains : He.DefD := ⟨("Store", some "__contains__"), "__contains__", "Store.__contains__", defArgs s_Storecontains, defBody s_Storecontains, defScope s_Storecontains, [], []⟩
def d_law_bag : He.DefD := ⟨("_law_bag", none), "_law_bag", "_law_bag", defArgs s_law_bag, defBody s_law_bag, defScope s_law_bag, [], []⟩
def d_law_take : He.DefD := ⟨("_law_take", none), "_law_take", "_law_take", defArgs s_law_take, defBody s_law_take, defScope s_law_take, [], []⟩
def d_law_of : He.DefD := ⟨("_law_of", none), "_law_of", "_law_of", defArgs s_law_of, defBody s_law_of, defScope s_law_of, [], []⟩
def d_law_long : He.DefD := ⟨("_law_long", none), "_law_long", "_law_long", defArgs s_law_long, defBody s_law_long, defScope s_law_long, [], []⟩
def d_law_row : He.DefD := ⟨("_law_row", none), "_law_row", "_law_row", defArgs s_law_row, defBody s_law_row, defScope s_law_row, [], []⟩
def d_law_spoilt : He.DefD := ⟨("_law_spoilt", none), "_law_spoilt", "_law_spoilt", defArgs s_law_spoilt, defBody s_law_spoilt, defScope s_law_spoilt, [], []⟩
def d_law_told : He.DefD := ⟨("_law_told", none), "_law_told", "_law_told", defArgs s_law_told, defBody s_law_told, defScope s_law_told, [], []⟩
def d_law : He.DefD := ⟨("law", none), "law", "law", defArgs s_law, defBody s_law, defScope s_law, [], []⟩
def fn : List He.DefD := [d_is_integer, d_is_word, d_copied, d_BadRowsinit, d_first_bad, d_Tableinit, d_Tablecontains, d_Tableeq, d_Storeinit, d_Storelen, d_Store_listed, d_Storecontains, d_law_bag, d_law_take, d_law_of, d_law_long, d_law_row, d_law_spoilt, d_law_told, d_law]
def fa : List He.Fa := [.glo "is_integer", .glo "is_word", .glo "copied", .glo "first_bad", .glo "_law_bag", .glo "_law_take", .glo "_law_of", .glo "_law_long", .glo "_law_row", .glo "_law_spoilt", .glo "_law_told", .glo "law", .free "len", .free "range", .free "enumerate", .free "int", .free "abs", .free "list", .free "tuple", .free "all", .free "isinstance", .free "max", .free "min", .free "str", .free "bool", .free "repr", .free "sorted", .free "set", .free "sum", .free "any", .free "dict", .cls "Table", .noat "Table" "columns", .meth "Table" "__contains__", .meth "Table" "__eq__", .mkr "Table", .cls "Store", .noat "Store" "table", .noat "Store" "_rows", .meth "Store" "__len__", .meth "Store" "listed", .meth "Store" "__contains__", .mkr "Store", .int "WORD_LETTERS" 8, .int "MOST_COLUMNS" 3, .glo "KEPT", .glo "Table", .glo "Store", .glo "EmptyfiltersError", .glo "BadTable", .glo "TooManyRows", .glo "BadRows", .meth "BadRows" "__init__", .noat "BadRows" "at", .exm "BadRows" "BadRows" true]
section
variable {K : PySem.W.Frag} {h : Heap} {mg : Str → Option Value}
theorem F_is_integer (c : He.SaysD fa fn K) : ∃ fd, FunD K "is_integer" "is_integer" (defArgs s_is_integer) (defBody s_is_integer) (defScope s_is_integer) [] [] (He.fAd K ("is_integer", none)) fd := c.def_ 0 (d := d_is_integer) rfl
theorem b_is_integer {f : Addr} {fd : FuncData} (F : FunD K "is_integer" "is_integer" (defArgs s_is_integer) (defBody s_is_integer) (defScope s_is_integer) [] [] f fd) : Binds K fd ["thing"] [] := F.bindsN fun _ _ _ _ _ _ us hl => match us, hl with | [_], _ => rfl
theorem F_is_word (c : He.SaysD fa fn K) : ∃ fd, FunD K "is_word" "is_word" (defArgs s_is_word) (defBody s_is_word) (defScope s_is_word) [] [] (He.fAd K ("is_word", none)) fd := c.def_ 1 (d := d_is_word) rfl
theorem b_is_word {f : Addr} {fd : FuncData} (F : FunD K "is_word" "is_word" (defArgs s_is_word) (defBody s_is_word) (defScope s_is_word) [] [] f fd) : Binds K fd ["thing"] [] := F.bindsN fun _ _ _ _ _ _ us hl => match us, hl with | [_], _ => rfl
theorem F_copied (c : He.SaysD fa fn K) : ∃ fd, FunD K "copied" "copied" (defArgs s_copied) (defBody s_copied) (defScope s_copied) [] [] (He.fAd K ("copied", none)) fd := c.def_ 2 (d := d_copied) rfl
theorem b_copied {f : Addr} {fd : FuncData} (F : FunD K "copied" "copied" (defArgs s_copied) (defBody s_copied) (defScope s_copied) [] [] f fd) : Binds K fd ["thing"] [] := F.bindsN fun _ _ _ _ _ _ us hl => match us, hl with | [_], _ => rfl
theorem F_BadRowsinit (c : He.SaysD fa fn K) : ∃ fd, FunD K "__init__" "BadRows.__init__" (defArgs s_BadRowsinit) (defBody s_BadRowsinit) (defScope s_BadRowsinit) [] [] (He.fAd K ("BadRows", some "__init__")) fd := c.def_ 3 (d := d_BadRowsinit) rfl
theorem b_BadRowsinit {f : Addr} {fd : FuncData} (F : FunD K "__init__" "BadRows.__init__" (defArgs s_BadRowsinit) (defBody s_BadRowsinit) (defScope s_BadRowsinit) [] [] f fd) : Binds K fd ["self", "at"] [] := F.bindsN fun _ _ _ _ _ _ us hl => match us, hl with | [_, _], _ => rfl
theorem F_first_bad (c : He.SaysD fa fn K) : ∃ fd, FunD K "first_bad" "first_bad" (defArgs s_first_bad) (defBody s_first_bad) (defScope s_first_bad) [] [] (He.fAd K ("first_bad", none)) fd := c.def_ 4 (d := d_first_bad) rfl
theorem b_first_bad {f : Addr} {fd : FuncData} (F : FunD K "first_bad" "first_bad" (defArgs s_first_bad) (defBody s_first_bad) (defScope s_first_bad) [] [] f fd) : Binds K fd ["names"] [] := F.bindsN fun _ _ _ _ _ _ us hl => match us, hl with | [_], _ => rfl
theorem F_Tableinit (c : He.SaysD fa fn K) : ∃ fd, FunD K "__init__" "Table.__init__" (defArgs s_Tableinit) (defBody s_Tableinit) (defScope s_Tableinit) [] [] (He.fAd K ("Table", some "__init__")) fd := c.def_ 5 (d := d_Tableinit) rfl
theorem b_Tableinit {f : Addr} {fd : FuncData} (F : FunD K "__init__" "Table.__init__" (defArgs s_Tableinit) (defBody s_Tableinit) (defScope s_Tableinit) [] [] f fd) : Binds K fd ["self", "columns"] [] := F.bindsN fun _ _ _ _ _ _ us hl => match us, hl with | [_, _], _ => rfl
theorem F_Tablecontains (c : He.SaysD fa fn K) : ∃ fd, FunD K "__contains__" "Table.__contains__" (defArgs s_Tablecontains) (defBody s_Tablecontains) (defScope s_Tablecontains) [] [] (He.fAd K ("Table", some "__contains__")) fd := c.def_ 6 (d := d_Tablecontains) rfl
theorem b_Tablecontains {f : Addr} {fd : FuncData} (F : FunD K "__contains__" "Table.__contains__" (defArgs s_Tablecontains) (defBody s_Tablecontains) (defScope s_Tablecontains) [] [] f fd) : Binds K fd ["self", "thing"] [] := F.bindsN fun _ _ _ _ _ _ us hl => match us, hl with | [_, _], _ => rfl
theorem F_Tableeq (c : He.SaysD fa fn K) : ∃ fd, FunD K "__eq__" "Table.__eq__" (defArgs s_Tableeq) (defBody s_Tableeq) (defScope s_Tableeq) [] [] (He.fAd K ("Table", some "__eq__")) fd := c.def_ 7 (d := d_Tableeq) rfl
theorem b_Tableeq {f : Addr} {fd : FuncData} (F : FunD K "__eq__" "Table.__eq__" (defArgs s_Tableeq) (defBody s_Tableeq) (defScope s_Tableeq) [] [] f fd) : Binds K fd ["self", "other"] [] := F.bindsN fun _ _ _ _ _ _ us hl => match us, hl with | [_, _], _ => rfl
theorem F_Storeinit (c : He.SaysD fa fn K) : ∃ fd, FunD K "__init__" "Store.__init__" (defArgs s_Storeinit) (defBody s_Storeinit) (defScope s_Storeinit) [] [] (He.fAd K ("Store", some "__init__")) fd := c.def_ 8 (d := d_Storeinit) rfl
theorem b_Storeinit {f : Addr} {fd : FuncData} (F : FunD K "__init__" "Store.__init__" (defArgs s_Storeinit) (defBody s_Storeinit) (defScope s_Storeinit) [] [] f fd) : Binds K fd ["self", "table", "rows"] [] := F.bindsN fun _ _ _ _ _ _ us hl => match us, hl with | [_, _, _], _ => rfl
theorem F_Storelen (c : He.SaysD fa fn K) : ∃ fd, FunD K "__len__" "Store.__len__" (defArgs s_Storelen) (defBody s_Storelen) (defScope s_Storelen) [] [] (He.fAd K ("Store", some "__len__")) fd := c.def_ 9 (d := d_Storelen) rfl
theorem b_Storelen {f : Addr} {fd : FuncData} (F : FunD K "__len__" "Store.__len__" (defArgs s_Storelen) (defBody s_Storelen) (defScope s_Storelen) [] [] f fd) : Binds K fd ["self"] [] := F.bindsN fun _ _ _ _ _ _ us hl => match us, hl with | [_], _ => rfl
theorem F_Store_listed (c : He.SaysD fa fn K) : ∃ fd, FunD K "listed" "Store.listed" (defArgs s_Store_listed) (defBody s_Store_listed) (defScope s_Store_listed) [] [] (He.fAd K ("Store", some "listed")) fd := c.def_ 10 (d := d_Store_listed) rfl
theorem b_Store_listed {f : Addr} {fd : FuncData} (F : FunD K "listed" "Store.listed" (defArgs s_Store_listed) (defBody s_Store_listed) (defScope s_Store_listed) [] [] f fd) : Binds K fd ["self"] [] := F.bindsN fun _ _ _ _ _ _ us hl => match us, hl with | [_], _ => rfl
theorem F_Storecontains (c : He.SaysD fa fn K) : ∃ fd, FunD K "__contains__" "Store.__contains__" (defArgs s_Storecontains) (defBody s_Storecontains) (defScope s_Storecontains) [] [] (He.fAd K ("Store", some "__contains__")) fd := c.def_ 11 (d := d_Storecontains) rfl
theorem b_Storecontains {f : Addr} {fd : FuncData} (F : FunD K "__contains__" "Store.__contains__" (defArgs s_Storecontains) (defBody s_Storecontains) (defScope s_Storecontains) [] [] f fd) : Binds K fd ["self", "thing"] [] := F.bindsN fun _ _ _ _ _ _ us hl => match us, hl with | [_, _], _ => rfl
theorem F_law_bag (c : He.SaysD fa fn K) : ∃ fd, FunD K "_law_bag" "_law_bag" (defArgs s_law_bag) (defBody s_law_bag) (defScope s_law_bag) [] [] (He.fAd K ("_law_bag", none)) fd := c.def_ 12 (d := d_law_bag) rfl
theorem b_law_bag {f : Addr} {fd : FuncData} (F : FunD K "_law_bag" "_law_bag" (defArgs s_law_bag) (defBody s_law_bag) (defScope s_law_bag) [] [] f fd) : Binds K fd ["script", "at"] [] := F.bindsN fun _ _ _ _ _ _ us hl => match us, hl with | [_, _], _ => rfl
theorem F_law_take (c : He.SaysD fa fn K) : ∃ fd, FunD K "_law_take" "_law_take" (defArgs s_law_take) (defBody s_law_take) (defScope s_law_take) [] [] (He.fAd K ("_law_take", none)) fd := c.def_ 13 (d := d_law_take) rfl
theorem b_law_take {f : Addr} {fd : FuncData} (F : FunD K "_law_take" "_law_take" (defArgs s_law_take) (defBody s_law_take) (defScope s_law_take) [] [] f fd) : Binds K fd ["bag", "many"] [] := F.bindsN fun _ _ _ _ _ _ us hl => match us, hl with | [_, _], _ => rfl
theorem F_law_of (c : He.SaysD fa fn K) : ∃ fd, FunD K "_law_of" "_law_of" (defArgs s_law_of) (defBody s_law_of) (defScope s_law_of) [] [] (He.fAd K ("_law_of", none)) fd := c.def_ 14 (d := d_law_of) rfl
theorem b_law_of {f : Addr} {fd : FuncData} (F : FunD K "_law_of" "_law_of" (defArgs s_law_of) (defBody s_law_of) (defScope s_law_of) [] [] f fd) : Binds K fd ["bag", "some"] [] := F.bindsN fun _ _ _ _ _ _ us hl => match us, hl with | [_, _], _ => rfl
theorem F_law_long (c : He.SaysD fa fn K) : ∃ fd, FunD K "_law_long" "_law_long" (defArgs s_law_long) (defBody s_law_long) (defScope s_law_long) [] [] (He.fAd K ("_law_long", none)) fd := c.def_ 15 (d := d_law_long) rfl
theorem b_law_long {f : Addr} {fd : FuncData} (F : FunD K "_law_long" "_law_long" (defArgs s_law_long) (defBody s_law_long) (defScope s_law_long) [] [] f fd) : Binds K fd ["bag"] [] := F.bindsN fun _ _ _ _ _ _ us hl => match us, hl with | [_], _ => rfl
theorem F_law_row (c : He.SaysD fa fn K) : ∃ fd, FunD K "_law_row" "_law_row" (defArgs s_law_row) (defBody s_law_row) (defScope s_law_row) [] [] (He.fAd K ("_law_row", none)) fd := c.def_ 16 (d := d_law_row) rfl
theorem b_law_row {f : Addr} {fd : FuncData} (F : FunD K "_law_row" "_law_row" (defArgs s_law_row) (defBody s_law_row) (defScope s_law_row) [] [] f fd) : Binds K fd ["bag", "many"] [] := F.bindsN fun _ _ _ _ _ _ us hl => match us, hl with | [_, _], _ => rfl
theorem F_law_spoilt (c : He.SaysD fa fn K) : ∃ fd, FunD K "_law_spoilt" "_law_spoilt" (defArgs s_law_spoilt) (defBody s_law_spoilt) (defScope s_law_spoilt) [] [] (He.fAd K ("_law_spoilt", none)) fd := c.def_ 17 (d := d_law_spoilt) rfl
theorem b_law_spoilt {f : Addr} {fd : FuncData} (F : FunD K "_law_spoilt" "_law_spoilt" (defArgs s_law_spoilt) (defBody s_law_spoilt) (defScope s_law_spoilt) [] [] f fd) : Binds K fd ["bag", "row"] [] := F.bindsN fun _ _ _ _ _ _ us hl => match us, hl with | [_, _], _ => rfl
theorem F_law_told (c : He.SaysD fa fn K) : ∃ fd, FunD K "_law_told" "_law_told" (defArgs s_law_told) (defBody s_law_told) (defScope s_law_told) [] [] (He.fAd K ("_law_told", none)) fd := c.def_ 18 (d := d_law_told) rfl
theorem b_law_told {f : Addr} {fd : FuncData} (F : FunD K "_law_told" "_law_told" (defArgs s_law_told) (defBody s_law_told) (defScope s_law_told) [] [] f fd) : Binds K fd ["table", "rows"] [] := F.bindsN fun _ _ _ _ _ _ us hl => match us, hl with | [_, _], _ => rfl
theorem F_law (c : He.SaysD fa fn K) : ∃ fd, FunD K "law" "law" (defArgs s_law) (defBody s_law) (defScope s_law) [] [] (He.fAd K ("law", none)) fd := c.def_ 19 (d := d_law) rfl
theorem b_law {f : Addr} {fd : FuncData} (F : FunD K "law" "law" (defArgs s_law) (defBody s_law) (defScope s_law) [] [] f fd) : Binds K fd ["script"] [] := F.bindsN fun _ _ _ _ _ _ us hl => match us, hl with | [_], _ => rfl
theorem g_is_integer (X : K.In h) (G : h.Ns mainGlobals mg) (c : He.SaysD fa fn K) : mg "is_integer" = some (.ref (He.fAd K ("is_integer", none))) := He.glo_ok X G (c.fact 0 (f := .glo "is_integer") rfl)
theorem g_is_word (X : K.In h) (G : h.Ns mainGlobals mg) (c : He.SaysD fa fn K) : mg "is_word" = some (.ref (He.fAd K ("is_word", none))) := He.glo_ok X G (c.fact 1 (f := .glo "is_word") rfl)
theorem g_copied (X : K.In h) (G : h.Ns mainGlobals mg) (c : He.SaysD fa fn K) : mg "copied" = some (.ref (He.fAd K ("copied", none))) := He.glo_ok X G (c.fact 2 (f := .glo "copied") rfl)
theorem g_first_bad (X : K.In h) (G : h.Ns mainGlobals mg) (c : He.SaysD fa fn K) : mg "first_bad" = some (.ref (He.fAd K ("first_bad", none))) := He.glo_ok X G (c.fact 3 (f := .glo "first_bad") rfl)
theorem g_law_bag (X : K.In h) (G : h.Ns mainGlobals mg) (c : He.SaysD fa fn K) : mg "_law_bag" = some (.ref (He.fAd K ("_law_bag", none))) := He.glo_ok X G (c.fact 4 (f := .glo "_law_bag") rfl)
theorem g_law_take (X : K.In h) (G : h.Ns mainGlobals mg) (c : He.SaysD fa fn K) : mg "_law_take" = some (.ref (He.fAd K ("_law_take", none))) := He.glo_ok X G (c.fact 5 (f := .glo "_law_take") rfl)
theorem g_law_of (X : K.In h) (G : h.Ns mainGlobals mg) (c : He.SaysD fa fn K) : mg "_law_of" = some (.ref (He.fAd K ("_law_of", none))) := He.glo_ok X G (c.fact 6 (f := .glo "_law_of") rfl)
theorem g_law_long (X : K.In h) (G : h.Ns mainGlobals mg) (c : He.SaysD fa fn K) : mg "_law_long" = some (.ref (He.fAd K ("_law_long", none))) := He.glo_ok X G (c.fact 7 (f := .glo "_law_long") rfl)
theorem g_law_row (X : K.In h) (G : h.Ns mainGlobals mg) (c : He.SaysD fa fn K) : mg "_law_row" = some (.ref (He.fAd K ("_law_row", none))) := He.glo_ok X G (c.fact 8 (f := .glo "_law_row") rfl)
theorem g_law_spoilt (X : K.In h) (G : h.Ns mainGlobals mg) (c : He.SaysD fa fn K) : mg "_law_spoilt" = some (.ref (He.fAd K ("_law_spoilt", none))) := He.glo_ok X G (c.fact 9 (f := .glo "_law_spoilt") rfl)
theorem g_law_told (X : K.In h) (G : h.Ns mainGlobals mg) (c : He.SaysD fa fn K) : mg "_law_told" = some (.ref (He.fAd K ("_law_told", none))) := He.glo_ok X G (c.fact 10 (f := .glo "_law_told") rfl)
theorem g_law (X : K.In h) (G : h.Ns mainGlobals mg) (c : He.SaysD fa fn K) : mg "law" = some (.ref (He.fAd K ("law", none))) := He.glo_ok X G (c.fact 11 (f := .glo "law") rfl)
theorem free_all (X : K.In h) (G : h.Ns mainGlobals mg) (c : He.SaysD fa fn K) : Free mg := ⟨He.free_ok X G (c.fact 12 (f := .free "len") rfl), He.free_ok X G (c.fact 13 (f := .free "range") rfl), He.free_ok X G (c.fact 14 (f := .free "enumerate") rfl), He.free_ok X G (c.fact 15 (f := .free "int") rfl), He.free_ok X G (c.fact 16 (f := .free "abs") rfl), He.free_ok X G (c.fact 17 (f := .free "list") rfl), He.free_ok X G (c.fact 18 (f := .free "tuple") rfl), He.free_ok X G (c.fact 19 (f := .free "all") rfl), He.free_ok X G (c.fact 20 (f := .free "isinstance") rfl), He.free_ok X G (c.fact 21 (f := .free "max") rfl), He.free_ok X G (c.fact 22 (f := .free "min") rfl), He.free_ok X G (c.fact 23 (f := .free "str") rfl), He.free_ok X G (c.fact 24 (f := .free "bool") rfl), He.free_ok X G (c.fact 25 (f := .free "repr") rfl), He.free_ok X G (c.fact 26 (f := .free "sorted") rfl), He.free_ok X G (c.fact 27 (f := .free "set") rfl), He.free_ok X G (c.fact 28 (f := .free "sum") rfl), He.free_ok X G (c.fact 29 (f := .free "any") rfl), He.free_ok X G (c.fact 30 (f := .free "dict") rfl)⟩
theorem x_0 (c : He.SaysD fa fn K) : (He.Fa.cls "Table").ok K = true := c.fact 31 (f := .cls "Table") rfl
theorem x_1 (c : He.SaysD fa fn K) : (He.Fa.noat "Table" "columns").ok K = true := c.fact 32 (f := .noat "Table" "columns") rfl
theorem x_2 (c : He.SaysD fa fn K) : (He.Fa.meth "Table" "__contains__").ok K = true := c.fact 33 (f := .meth "Table" "__contains__") rfl
theorem x_3 (c : He.SaysD fa fn K) : (He.Fa.meth "Table" "__eq__").ok K = true := c.fact 34 (f := .meth "Table" "__eq__") rfl
theorem x_4 (c : He.SaysD fa fn K) : (He.Fa.mkr "Table").ok K = true := c.fact 35 (f := .mkr "Table") rfl
theorem x_5 (c : He.SaysD fa fn K) : (He.Fa.cls "Store").ok K = true := c.fact 36 (f := .cls "Store") rfl
theorem x_6 (c : He.SaysD fa fn K) : (He.Fa.noat "Store" "table").ok K = true := c.fact 37 (f := .noat "Store" "table") rfl
theorem x_7 (c : He.SaysD fa fn K) : (He.Fa.noat "Store" "_rows").ok K = true := c.fact 38 (f := .noat "Store" "_rows") rfl
theorem x_8 (c : He.SaysD fa fn K) : (He.Fa.meth "Store" "__len__").ok K = true := c.fact 39 (f := .meth "Store" "__len__") rfl
theorem x_9 (c : He.SaysD fa fn K) : (He.Fa.meth "Store" "listed").ok K = true := c.fact 40 (f := .meth "Store" "listed") rfl
theorem x_10 (c : He.SaysD fa fn K) : (He.Fa.meth "Store" "__contains__").ok K = true := c.fact 41 (f := .meth "Store" "__contains__") rfl
theorem x_11 (c : He.SaysD fa fn K) : (He.Fa.mkr "Store").ok K = true := c.fact 42 (f := .mkr "Store") rfl
theorem x_12 (c : He.SaysD fa fn K) : (He.Fa.int "WORD_LETTERS" 8).ok K = true := c.fact 43 (f := .int "WORD_LETTERS" 8) rfl
theorem x_13 (c : He.SaysD fa fn K) : (He.Fa.int "MOST_COLUMNS" 3).ok K = true := c.fact 44 (f := .int "MOST_COLUMNS" 3) rfl
theorem x_14 (c : He.SaysD fa fn K) : (He.Fa.glo "KEPT").ok K = true := c.fact 45 (f := .glo "KEPT") rfl
theorem x_15 (c : He.SaysD fa fn K) : (He.Fa.glo "Table").ok K = true := c.fact 46 (f := .glo "Table") rfl
theorem x_16 (c : He.SaysD fa fn K) : (He.Fa.glo "Store").ok K = true := c.fact 47 (f := .glo "Store") rfl
theorem x_17 (c : He.SaysD fa fn K) : (He.Fa.glo "EmptyfiltersError").ok K = true := c.fact 48 (f := .glo "EmptyfiltersError") rfl
theorem x_18 (c : He.SaysD fa fn K) : (He.Fa.glo "BadTable").ok K = true := c.fact 49 (f := .glo "BadTable") rfl
theorem x_19 (c : He.SaysD fa fn K) : (He.Fa.glo "TooManyRows").ok K = true := c.fact 50 (f := .glo "TooManyRows") rfl
theorem x_20 (c : He.SaysD fa fn K) : (He.Fa.glo "BadRows").ok K = true := c.fact 51 (f := .glo "BadRows") rfl
theorem x_21 (c : He.SaysD fa fn K) : (He.Fa.meth "BadRows" "__init__").ok K = true := c.fact 52 (f := .meth "BadRows" "__init__") rfl
theorem x_22 (c : He.SaysD fa fn K) : (He.Fa.noat "BadRows" "at").ok K = true := c.fact 53 (f := .noat "BadRows" "at") rfl
theorem x_23 (c : He.SaysD fa fn K) : (He.Fa.exm "BadRows" "BadRows" true).ok K = true := c.fact 54 (f := .exm "BadRows" "BadRows" true) rfl
end
/-! ### the hook: the facts, and some more -/
def neB (K : PySem.W.Frag) (C : Addr) : Bool :=
  (PySem.W.findIn K (.ref C) "__class__" == some (some (.builtin "object.__class__"))) && (PySem.W.specialIn K (.builtin "object.__class__") "__get__" == some (some (.builtin "getset_descriptor.__get__"))) &&
  (PySem.W.takesIn K (.builtin "object.__class__") == some true) && (PySem.W.mroIn K C (.type "object") == some true) && (PySem.W.findIn K (.ref C) "__ne__" == some (some (.builtin "object.__ne__"))) &&
  (PySem.W.kitOne K (.type "list") (.ref C) == some false) && (PySem.W.kitOne K (.type "tuple") (.ref C) == some false) && (PySem.W.kitOne K (.type "str") (.ref C) == some false) &&
  PySem.W.notFirst K C (.type "list") && PySem.W.notFirst K C (.type "tuple") && PySem.W.notFirst K C (.type "str")
theorem ne_at {K : PySem.W.Frag} {C : Addr} (c : Cls K C) (h : neB K C = true) : NeAt K C := by
  unfold neB at h
  simp only [Bool.and_eq_true] at h
  obtain ⟨⟨⟨⟨⟨⟨⟨⟨⟨⟨h1, h2⟩, h3⟩, h4⟩, h5⟩, h6⟩, h7⟩, h8⟩, h9⟩, h10⟩, h11⟩ := h
  exact ⟨c, eq_of_beq h1, eq_of_beq h2, eq_of_beq h3, eq_of_beq h4, eq_of_beq h5, eq_of_beq h6, eq_of_beq h7, eq_of_beq h8, h9, h10, h11⟩
def exB (K : PySem.W.Frag) : Bool := He.tupB K "KEPT" (keptL.map He.Dv.str) && (baseB K (He.ga K "EmptyfiltersError") && (oexB K (He.ga K "BadRows") && (excCB K (He.ga K "BadRows") &&
  (decide (PySem.W.kitOne K (.ref (He.ga K "BadRows")) (.ref (He.ga K "EmptyfiltersError")) = some true) && (decide (PySem.W.kitAny K (.ref (He.ga K "BadRows")) [.ref (He.ga K "BadTable"), .ref (He.ga K "TooManyRows")] = some false) && neB K (He.ga K "Table"))))))
abbrev AlM : Type := He.AlD × Bool
def asM (g : Addr → Option Obj) : List Addr := cStatics :: He.asD g 5
def obsMG (g : Addr → Option Obj) : AlM := (He.obsD fa fn (He.frG g (asM g)), exB (He.frG g (asM g)))
def valM : AlM := (He.valD fn, true)
def SaysM (K : PySem.W.Frag) : Prop := He.SaysD fa fn K ∧ exB K = true
def hkM : PySem.W.Hook where
  α := AlM
  obs := fun s => obsMG s.heap.get?
  val := fun _ => valM
  says := fun _ h => ∃ K : PySem.W.Frag, K.In h ∧ SaysM K
  of := fun _ _ e => ⟨_, He.frG_in, congrArg (fun z : AlM => z.1) e, congrArg (fun z : AlM => z.2) e⟩
  keeps := fun _ _ _ ⟨K, hK, c⟩ k => ⟨K, PySem.W.Frag.In.keeps hK k, c⟩
abbrev R : PySem.W.OpenRow := PySem.W.OpenLaw.row PySem.Challenge.rw_emptyfilters_k22_stores_made
def ob (s : PySem.W.SharedT) : AlM := obsMG (HandSHeadRun.getT s)
theorem ob_eq (s : PySem.W.SharedT) : ob s = hkM.obs s.abs := by
  have e : HandSHeadRun.getT s = s.abs.heap.get? := funext (HandSHeadRun.getT_eq s)
  unfold ob
  rw [e] <;> rfl
theorem run (w : World) : HandSHeadRun.RunEq R (PySem.W.view R.prog [26]) hkM ob 4000 ["_wall", "__name__", "KEPT", "WORD_LETTERS", "is_integer", "is_word", "copied", "EmptyfiltersError", "BadTable", "BadRows", "TooManyRows", "Store", "MOST_COLUMNS", "first_bad", "Table", "_law_bag", "_law_take", "_law_of", "_law_long", "_law_row", "_law_spoilt", "_law_told"] w := by
  intro os
  kernel_rfl
end K22

namespace K22
open PySem PySem.Spec PyProof.Rows L2 Own
theorem strs_dv {K : PySem.W.Frag} (l : List Str) : (l.map He.Dv.str).map (He.Dv.v K) = l.map V.str := by
  rw [List.map_map]
  rfl
theorem facts {P : Program} {w : World} {K : PySem.W.Frag} {h : Heap} {mg : Str → Option Value} {f : Addr} (X : K.In h) (G : h.Ns mainGlobals mg) (hfa : mg ("law" : Str) = some (.ref f)) (s : SaysM K) :
    ∃ fd : FuncData, (∀ (s : Shared) (v : Value), BindsTo s fd ⟨[v], []⟩ [("script", v)]) ∧ ∀ base : Heap, K.In base → base.Ns mainGlobals mg → FnOk P w K mg base CX0 7 f fd ["script"] (spLaw K) := by
  obtain ⟨c, hex⟩ := s
  obtain ⟨hex, ex2⟩ := Bool.and_eq_true_iff.mp hex
  obtain ⟨exBase, ex3⟩ := Bool.and_eq_true_iff.mp ex2
  obtain ⟨exOex, ex4⟩ := Bool.and_eq_true_iff.mp ex3
  obtain ⟨exExc, ex5⟩ := Bool.and_eq_true_iff.mp ex4
  obtain ⟨exIn, ex6⟩ := Bool.and_eq_true_iff.mp ex5
  obtain ⟨exNot, exNe⟩ := Bool.and_eq_true_iff.mp ex6
  have BI := baseB_ok exBase
  have OX := oexB_ok exOex
  obtain ⟨XF, XC⟩ := excCB_ok exExc
  obtain ⟨fd1, F1⟩ := F_copied c
  obtain ⟨fd2, F2⟩ := F_is_word c
  obtain ⟨fd3, F3⟩ := F_first_bad c
  obtain ⟨fd4, F4⟩ := F_Tableinit c
  obtain ⟨fd5, F5⟩ := F_BadRowsinit c
  obtain ⟨fdi, Fi⟩ := F_is_integer c
  obtain ⟨fdtc, Ftc⟩ := F_Tablecontains c
  obtain ⟨fdte, Fte⟩ := F_Tableeq c
  obtain ⟨fdsi, Fsi⟩ := F_Storeinit c
  obtain ⟨fdsl, Fsl⟩ := F_Storelen c
  obtain ⟨fdsd, Fsd⟩ := F_Store_listed c
  obtain ⟨fdsc, Fsc⟩ := F_Storecontains c
  obtain ⟨fd6, F6⟩ := F_law_bag c
  obtain ⟨fd7, F7⟩ := F_law_take c
  obtain ⟨fd8, F8⟩ := F_law_of c
  obtain ⟨fd9, F9⟩ := F_law_long c
  obtain ⟨fd10, F10⟩ := F_law_row c
  obtain ⟨fd11, F11⟩ := F_law_spoilt c
  obtain ⟨fd14, F14⟩ := F_law_told c
  obtain ⟨fd, F⟩ := F_law c
  have e := hfa.symm.trans (g_law X G c)
  cases e
  have b := FunD.bindsA (ps := ["script"]) F fun _ _ _ _ _ _ us hl => match us, hl with | [_], _ => rfl
  have T0 := free_all X G c
  have T : Txt K mg (He.ga K "KEPT") := { T0 with
    g_KEPT := He.glo_ok X G (x_14 c)
    s_KEPT := fun H => by
      have q := He.tupB_ok hex H
      rw [strs_dv] at q
      exact q
    g_WORD_LETTERS := He.int_ok X G (x_12 c)
    g_MOST_COLUMNS := He.int_ok X G (x_13 c) }
  have TC : TxC K (He.ga K "Table") := ⟨He.cls_ok (x_0 c), He.noat_ok (x_1 c)⟩
  have N : NeAt K (He.ga K "Table") := ne_at TC.cl exNe
  have TG : TxG mg (He.ga K "Table") := { T0 with g_Table := He.glo_ok X G (x_15 c) }
  have TS : TxS K (He.ga K "Store") := ⟨He.cls_ok (x_5 c), He.noat_ok (x_6 c), He.noat_ok (x_7 c)⟩
  have TE : TxE K mg (He.ga K "EmptyfiltersError") (He.ga K "BadTable") (He.ga K "TooManyRows") (He.ga K "BadRows") := { T0 with
    g_EmptyfiltersError := He.glo_ok X G (x_17 c)
    g_BadTable := He.glo_ok X G (x_18 c)
    g_TooManyRows := He.glo_ok X G (x_19 c)
    g_BadRows := He.glo_ok X G (x_20 c)
    own := He.exm_ok (x_23 c)
    inB := of_decide_eq_true exIn
    notC := of_decide_eq_true exNot
    exc := XC }
  have M := He.meth_ok (x_21 c)
  refine ⟨fd, fun s v => b s [v] rfl, fun base _ _ => ?_⟩
  have c1 : Cal P w K mg base CX0 1 "copied" _ fd1 ["thing"] spCopied := ⟨ok_copied F1 T0, g_copied X G c, F1.kp, b_copied F1⟩
  have c2 : Cal P w K mg base CX0 1 "is_word" _ fd2 ["thing"] spIsWord := ⟨ok_is_word F2 T, g_is_word X G c, F2.kp, b_is_word F2⟩
  have ci : Cal P w K mg base CX0 1 "is_integer" _ fdi ["thing"] spIsInt := ⟨ok_is_integer Fi T0, g_is_integer X G c, Fi.kp, b_is_integer Fi⟩
  have c3 : Cal P w K mg base CX0 2 "first_bad" _ fd3 ["names"] (spFirstBadA K) := ⟨ok_first_bad F3 T c2, g_first_bad X G c, F3.kp, b_first_bad F3⟩
  have c5 : CalE P w K mg base CX0 2 "BadRows" (He.ga K "BadRows") _ fd5 ["self", "at"] (spErrRow (He.ga K "BadRows")) :=
    ⟨ok_BadRowsinit F5 T0 BI (He.glo_ok X G (x_17 c)) OX (He.noat_ok (x_22 c)) c1, OX, M.at_, beq_iff_eq.mp M.fn, He.glo_ok X G (x_20 c), b_BadRowsinit F5⟩
  have c4 : CalI P w K mg base CX0 3 "Table" (He.ga K "Table") _ fd4 ["self", "columns"] (spTableA K (He.ga K "Table")) := ⟨ok_Tableinit F4 T TC c3, He.mkr_ok (x_4 c), He.glo_ok X G (x_15 c), b_Tableinit F4⟩
  have ctc : CalM P w K mg base CX0 2 (He.ga K "Table") "__contains__" _ fdtc ["self", "thing"] (spContains (He.ga K "Table")) := ⟨ok_Tablecontains Ftc T TC ci, He.meth_ok (x_2 c), b_Tablecontains Ftc⟩
  have cte : CalM P w K mg base CX0 1 (He.ga K "Table") "__eq__" _ fdte ["self", "other"] (spEqT (He.ga K "Table")) := ⟨ok_Tableeq Fte TG TC N, He.meth_ok (x_3 c), b_Tableeq Fte⟩
  have oks := ok_StoreinitX Fsi T0 TS ctc c5
  have csX : CalI P w K mg base (L2.CX P w) 4 "Store" (He.ga K "Store") _ fdsi ["self", "table", "rows"] (spStoreX (He.ga K "Table") (He.ga K "Store") (He.ga K "BadRows")) := ⟨oks, He.mkr_ok (x_11 c), He.glo_ok X G (x_16 c), b_Storeinit Fsi⟩
  have cs : CalI P w K mg base CX0 4 "Store" (He.ga K "Store") _ fdsi ["self", "table", "rows"] (fun vs H Q _ => spStoreX (He.ga K "Table") (He.ga K "Store") (He.ga K "BadRows") vs H Q E0) := ⟨fn0 oks, He.mkr_ok (x_11 c), He.glo_ok X G (x_16 c), b_Storeinit Fsi⟩
  have csl : CalM P w K mg base CX0 1 (He.ga K "Store") "__len__" _ fdsl ["self"] _ := ⟨ok_Storelen Fsl T0 TS, He.meth_ok (x_8 c), b_Storelen Fsl⟩
  have csd : CalM P w K mg base CX0 1 (He.ga K "Store") "listed" _ fdsd ["self"] _ := ⟨ok_Storelisted Fsd T0 TS, He.meth_ok (x_9 c), b_Store_listed Fsd⟩
  have csc : CalM P w K mg base CX0 3 (He.ga K "Store") "__contains__" _ fdsc ["self", "thing"] (spInS (He.ga K "Table") (He.ga K "Store")) := ⟨ok_Storecontains Fsc T0 TS ctc, He.meth_ok (x_10 c), b_Storecontains Fsc⟩
  have c6 : Cal P w K mg base CX0 1 "_law_bag" _ fd6 ["script", "at"] (spBag K) := ⟨ok_bag F6 T0, g_law_bag X G c, F6.kp, b_law_bag F6⟩
  have c7 : Cal P w K mg base CX0 1 "_law_take" _ fd7 ["bag", "many"] spTake := ⟨ok_take F7 T0, g_law_take X G c, F7.kp, b_law_take F7⟩
  have c8 : Cal P w K mg base CX0 2 "_law_of" _ fd8 ["bag", "some"] (spOf K) := ⟨ok_of F8 T0 c7, g_law_of X G c, F8.kp, b_law_of F8⟩
  have c9 : Cal P w K mg base CX0 2 "_law_long" _ fd9 ["bag"] spNumber := ⟨ok_long F9 T0 c7, g_law_long X G c, F9.kp, b_law_long F9⟩
  have c10 : Cal P w K mg base CX0 3 "_law_row" _ fd10 ["bag", "many"] spRow := ⟨ok_row F10 T0 c9, g_law_row X G c, F10.kp, b_law_row F10⟩
  have c11 : Cal P w K mg base CX0 3 "_law_spoilt" _ fd11 ["bag", "row"] spSpoilt := ⟨ok_spoilt F11 T0 c7 c8, g_law_spoilt X G c, F11.kp, b_law_spoilt F11⟩
  have c14 : Cal P w K mg base CX0 6 "_law_told" _ fd14 ["table", "rows"] (spTold K (He.ga K "Table")) := ⟨ok_told F14 TE XF (He.noat_ok (x_22 c)) csX, g_law_told X G c, F14.kp, b_law_told F14⟩
  exact ok_law F T0 TC TS N c6 c7 c8 c10 c11 c14 c4 cs csc cte csl csd
end K22
open PySem PySem.W PySem.Calls PyProof.Rows
set_option maxHeartbeats 0 in
theorem PySem.Challenge.cw_emptyfilters_k22_stores_made_holds : PySem.Challenge.rw_emptyfilters_k22_stores_made.Holds := by
  w_on; o_law
  refine HandSHeadRun.head_any (r := OpenLaw.row PySem.Challenge.rw_emptyfilters_k22_stores_made) (q := view (OpenLaw.row PySem.Challenge.rw_emptyfilters_k22_stores_made).prog [26]) (H := K22.hkM) (ob := K22.ob) (M := 4000) (loose := ["_wall", "__name__", "KEPT", "WORD_LETTERS", "is_integer", "is_word", "copied", "EmptyfiltersError", "BadTable", "BadRows", "TooManyRows", "Store", "MOST_COLUMNS", "first_bad", "Table", "_law_bag", "_law_take", "_law_of", "_law_long", "_law_row", "_law_spoilt", "_law_told"]) (d := HandSHeadRun.topDef (OpenLaw.row PySem.Challenge.rw_emptyfilters_k22_stores_made).prog 26) (kwd := []) K22.ob_eq
    (by kernel_rfl) (fun s => by kernel_rfl) K22.run (by kernel_rfl) (by kernel_rfl) (by kernel_rfl) (by rfl) (by first | assumption | decide +kernel) (by decide +kernel) ⟨rfl, rfl, rfl, rfl, rfl, by decide +kernel⟩ ?hw ?hc
  case hw => w_witness2
  case hc =>
    refine L2.walk_ofE (l := PySem.Challenge.rw_emptyfilters_k22_stores_made) (n := 63) (k := 7) (x := "script") (CX := L2.CX0) rfl (by decide) (by kernel_rfl) ⟨rfl, by decide, by decide⟩ ?F (fun _ _ _ _ z => z)
    intro w mg fa h Y G hmg0
    obtain ⟨K, KX, c⟩ := Y
    have hmg : mg ("law" : PySem.Str) = some (.ref fa) := by
      have e : (HandSHeadRun.topDef (OpenLaw.row PySem.Challenge.rw_emptyfilters_k22_stores_made).prog 26).name = ("law" : PySem.Str) := by kernel_rfl
      rw [← e]
      exact hmg0
    obtain ⟨fd, hb, hF⟩ := K22.facts (P := (PySem.Challenge.rw_emptyfilters_k22_stores_made).prog) (w := w) KX G hmg c
    exact ⟨K, fd, K22.spLaw K, KX, hb, fun H a ns hl _ hS => ⟨a, ns, rfl, hS, hl, fun _ => rfl⟩, hF⟩
