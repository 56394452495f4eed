import PyProof.Rows.All
import Wide.All
import OpenK.AllK
import Wide.FinOn
import HandS.ForMost
import HandS.IsInst
import HandS.Conv
import HandS.DictComp
import HandS.Deep
import HandS.NoneIn
import HandS.Style
import HandS.TupAny
import HandS.OwnEq
import HandS.More
import HandS.Flow
import HandS.Codes
import HandS.Walk
import HandS.StrMore
import KE.GoesMore
import KE.GoesEnum
import HandS.Defaults
import HandS.IterNext
import HandS.IterVal
import KE.KOwnIter
import HandS.DeepEq
import KE.KOpsOwn
import HandS.ExcInit
import HandS.ExcField
import HandS.WordsExc
import HandS.List
import HandS.SetFor
import PyProof.EqKinds
import PyProof.NeKinds
import PyProof.TupleOfSeq
import HandS.Exc
import HandS.TryMany
import HandS.Lambda
import HandS.EndTab
import KE.KNestM
import PySem.Challenge.RW_turnsets_k20_whole_rules_compared
set_option Elab.async false
set_option linter.all false

set_option maxRecDepth 100000
set_option maxHeartbeats 4000000
namespace Ts
open PySem L2
section
variable {X : Cx} {CX : CXT} {k : Nat} {f C : Addr} {fd : FuncData} {ps : List Str} {sp : Sp} {E : XK}
/-- a def of the text run below a builtin of this body -/
theorem run_at {A : Around} {pins : List (Addr × Obj)} {σ : St} {H : Hp} {s : Shared} {Q : VK} {us : List Value} {vs : List V} (F : FnOk X.prog X.w X.K X.mg X.base CX k f fd ps sp) (hr : Room k A) (hfr : A.frames = X.A.frames) (hb : Binds X.K fd ps []) (hx : Passes CX X E)
    (I : Inv X pins σ H s) (r : Vals vs us) (h : sp vs H Q E) : wpAny (model X.prog X.w) A (call (.ref f) us) (EP X pins σ Q) X.xe s := by
  have hl : us.length = ps.length := by rw [← r.length]; exact F.len _ _ _ _ h
  have e0 : Env0 X.prog X.w X.K X.mg X.base A X.stack s H := by
    have e := I.env0
    exact ⟨by rw [hfr]; exact e.frames, e.mod, e.bs, e.bsz, e.funs, e.frf, e.hok, e.bare⟩
  refine wpAny_call (codeAny_mono (F.run A X.stack s H ⟨us, []⟩ us vs Q E hr e0 (by
    have := hb s us I.kIn (by simpa using hl)
    simpa using this) r h) fun r s' hq => ?_)
  cases r with
  | error e => exact hx pins σ H s e s' I hq
  | ok fl =>
    cases fl with
    | ret u => exact I.after hq
    | next => exact False.elim hq
    | brk => exact False.elim hq
    | cont => exact False.elim hq
/-- x in o, o of an own class with its own look -/
def rInC (C : Addr) (sp : Sp) (E : XK) : R2 := fun x y H Q => ∃ a dx fs, y = .ref a ∧ H a = some (.ins C dx fs) ∧ sp [.ref a, x] H (fun v H' => ∃ b, v = .bl b ∧ Q (.bl b) H') E
def rNotInC (C : Addr) (sp : Sp) (E : XK) : R2 := fun x y H Q => ∃ a dx fs, y = .ref a ∧ H a = some (.ins C dx fs) ∧ sp [.ref a, x] H (fun v H' => ∃ b, v = .bl b ∧ Q (.bl (!b)) H') E
theorem op_inC (F : FnOk X.prog X.w X.K X.mg X.base CX k f fd ps sp) (m : Meth X.K C "__contains__" f) (hr : Room k X.A) (hb : Binds X.K fd ps []) (hx : Passes CX X E) : OpR X (compareOp .In) (rInC C sp E) := by
  intro pins s σ H x y v u Q I rx ry hq
  obtain ⟨a, dx, fs, rfl, ha, hsp⟩ := hq
  cases ry
  obtain ⟨mA, J, _⟩ := ins_get I.hok ha
  obtain ⟨od, J, _⟩ := J.look
  obtain ⟨mm, hF⟩ := I.fr
  refine PySem.W.in_K hF I.ok.mod.kin J m.at_ m.fn ?_
  refine wpAny_mono (run_at F hr rfl hb hx I (us := [.ref a, v]) (.cons (show RelV (.ref a) (.ref a) from rfl) (.cons rx .nil)) hsp) (fun r s' hq => ?_) fun _ _ x => x
  obtain ⟨z, H', I', rz, b, rfl, q⟩ := hq
  cases rz
  exact wpAny_truthy_bool ⟨.bl b, H', I', rfl, q⟩
theorem op_notinC (F : FnOk X.prog X.w X.K X.mg X.base CX k f fd ps sp) (m : Meth X.K C "__contains__" f) (hr : Room k X.A) (hb : Binds X.K fd ps []) (hx : Passes CX X E) : OpR X (compareOp .NotIn) (rNotInC C sp E) := by
  intro pins s σ H x y v u Q I rx ry hq
  obtain ⟨a, dx, fs, rfl, ha, hsp⟩ := hq
  cases ry
  obtain ⟨mA, J, _⟩ := ins_get I.hok ha
  obtain ⟨od, J, _⟩ := J.look
  obtain ⟨mm, hF⟩ := I.fr
  refine PySem.W.notIn_K hF I.ok.mod.kin J m.at_ m.fn ?_
  refine wpAny_mono (run_at F hr rfl hb hx I (us := [.ref a, v]) (.cons (show RelV (.ref a) (.ref a) from rfl) (.cons rx .nil)) hsp) (fun r s' hq => ?_) fun _ _ x => x
  obtain ⟨z, H', I', rz, b, rfl, q⟩ := hq
  cases rz
  exact wpAny_truthy_bool ⟨.bl (!b), H', I', rfl, q⟩
/-- len(o) -/
def rLenC (C : Addr) (sp : Sp) (E : XK) : List V → Hp → VK → Prop := fun xs H Q => ∃ a dx fs, xs = [.ref a] ∧ H a = some (.ins C dx fs) ∧ sp [.ref a] H (fun v H' => ∃ n : Int, v = .int n ∧ (0 ≤ n ∧ n < 2 ^ 63) ∧ Q (.int n) H') E
theorem call_lenC (F : FnOk X.prog X.w X.K X.mg X.base CX k f fd ps sp) (m : Meth X.K C "__len__" f) (hr : Room (k + 1) X.A) (hb : Binds X.K fd ps []) (hx : Passes CX X E) : CallR X (.builtin "len") (rLenC C sp E) := by
  intro pins s σ H xs us Q I r hq
  obtain ⟨a, dx, fs, rfl, ha, hsp⟩ := hq
  obtain ⟨u, rfl, ru⟩ := vals1 r
  cases ru
  obtain ⟨mA, J, _⟩ := ins_get I.hok ha
  obtain ⟨od, J, _⟩ := J.look
  obtain ⟨mm, hF⟩ := I.fr
  refine PySem.W.len_K hF I.ok.mod.kin J m.at_ m.fn ?_
  refine wpAny_mono (run_at F hr.in1 rfl hb hx I (us := [.ref a]) (.cons (show RelV (.ref a) (.ref a) from rfl) .nil) hsp) (fun r s' hq => ?_) fun _ _ x => x
  obtain ⟨z, H', I', rz, n, rfl, hn, q⟩ := hq
  obtain ⟨t, rfl⟩ := rz
  exact ⟨hn, .int n, H', I'.tok _, ⟨_, rfl⟩, q⟩
/-- the sort of a value, as == wants to know it -/
inductive TyE (H : Hp) : V → Value → Prop where
  | non : TyE H .non (.type "NoneType")
  | bl (x : Bool) : TyE H (.bl x) (.type "bool")
  | int (i : Int) : TyE H (.int i) (.type "int")
  | str (x : Str) : TyE H (.str x) (.type "str")
  | lst {a : Addr} {xs : List V} (e : H a = some (.lst xs)) : TyE H (.ref a) (.type "list")
  | tup {a : Addr} {xs : List V} (e : H a = some (.tup xs)) : TyE H (.ref a) (.type "tuple")
  | dK {a : Addr} {kvs : List (Key × V)} (e : H a = some (.dK kvs)) : TyE H (.ref a) (.type "dict")
  | ins {a C dx : Addr} {fs : List (Str × V)} (e : H a = some (.ins C dx fs)) : TyE H (.ref a) (.ref C)
theorem ty_looks {pins : List (Addr × Obj)} {σ : St} {H : Hp} {s : Shared} {y : V} {u tb : Value} (I : Inv X pins σ H s) (r : RelV y u) (ty : TyE H y tb) : PySem.W.Looks (model X.prog X.w) s.heap (typeOf u) tb := by
  have lk : ∀ {a : Addr} {o : Obj} {c : Value}, s.heap.get? a = some o → o.cls = c → PySem.W.Looks (model X.prog X.w) s.heap (typeOf (.ref a)) c := fun {a o c} e h => h ▸ (PySem.W.Looks.ld e).andThen .now
  cases ty with
  | non => cases (show u = Value.none from r); exact PySem.W.Looks.of_pure rfl
  | bl y => cases (show u = Value.bool y from r); exact PySem.W.Looks.of_pure rfl
  | int i => obtain ⟨t, q⟩ := (show ∃ t, u = Value.int i t from r); cases q; exact PySem.W.Looks.of_pure rfl
  | str y => obtain ⟨t, q⟩ := (show ∃ t, u = Value.str y t from r); cases q; exact PySem.W.Looks.of_pure rfl
  | @lst a xs ea =>
    cases (show u = Value.ref a from r)
    obtain ⟨_, _, n, _, h1⟩ := (show ObjOk X.prog X.w H s.heap a (.lst xs) from I.hok a _ ea)
    exact lk h1 rfl
  | @tup a xs ea =>
    cases (show u = Value.ref a from r)
    obtain ⟨_, _, _, o, h1, h2, _⟩ := (show ObjOk X.prog X.w H s.heap a (.tup xs) from I.hok a _ ea)
    exact lk h1 h2
  | @dK a kvs ea =>
    cases (show u = Value.ref a from r)
    obtain ⟨_, _, vs, _, o, es, ep, h1, h2, _⟩ := (show ObjOk X.prog X.w H s.heap a (.dK kvs) from I.hok a _ ea)
    exact lk h1 h2.1
  | @ins a C dx fs ea =>
    cases (show u = Value.ref a from r)
    obtain ⟨mA, J, _⟩ := ins_get I.hok ea
    obtain ⟨od, J, _⟩ := J.look
    exact J.type
/-- o == y -/
def rEqC (K : PySem.W.Frag) (C : Addr) (sp : Sp) (E : XK) : R2 := fun x y H Q => ∃ a dx fs tb, x = .ref a ∧ H a = some (.ins C dx fs) ∧ TyE H y tb ∧ PySem.W.notFirst K C tb = true ∧ sp [.ref a, y] H (fun v H' => ∃ b, v = .bl b ∧ Q (.bl b) H') E
def rNeC (K : PySem.W.Frag) (C : Addr) (sp : Sp) (E : XK) : R2 := fun x y H Q => ∃ a dx fs tb, x = .ref a ∧ H a = some (.ins C dx fs) ∧ TyE H y tb ∧ PySem.W.notFirst K C tb = true ∧ sp [.ref a, y] H (fun v H' => ∃ b, v = .bl b ∧ Q (.bl (!b)) H') E
theorem op_eqC (F : FnOk X.prog X.w X.K X.mg X.base CX k f fd ps sp) (m : Meth X.K C "__eq__" f) (hr : Room k X.A) (hb : Binds X.K fd ps []) (hx : Passes CX X E) : OpR X (compareOp .Eq) (rEqC X.K C sp E) := by
  intro pins s σ H x y v u Q I rx ry hq
  obtain ⟨a, dx, fs, tb, rfl, ha, ty, hn, hsp⟩ := hq
  cases rx
  obtain ⟨mA, J, _⟩ := ins_get I.hok ha
  obtain ⟨od, J, _⟩ := J.look
  obtain ⟨mm, hF⟩ := I.fr
  show wpAny (model X.prog X.w) X.A (richCompare .Eq _ u) (EP X pins σ Q) X.xe s
  refine PySem.W.cmp_K (op := .Eq) (tb := tb) hr.units0 hF I.ok.mod.kin J (ty_looks I ry ty) hn m.at_ m.fn ?_
  refine wpAny_mono (run_at F hr rfl hb hx I (us := [.ref a, u]) (.cons (show RelV (.ref a) (.ref a) from rfl) (.cons ry .nil)) hsp) (fun r s' hq => ?_) fun _ _ x => x
  obtain ⟨z, H', I', rz, b, rfl, q⟩ := hq
  cases rz
  exact ⟨.bl b, H', I', rfl, q⟩
section
open PySem.W
open PyProof.Rows (Fr)
variable {prog : Program} {w : World} {A : Around} {E : Value → Shared → Prop} {s : Shared} {K : Frag} {h₀ : Heap} {L : Addr} {m : Str → Option Value} {x f C : Addr} {ox : Obj} {od : Option Obj} {b tb : Value}
theorem ne_own_K {Q : Value → Shared → Prop} (hu : A.units + 1 < cLine) (F : Fr h₀ L s.heap m) (X₀ : K.In h₀) (I : InstAt s.heap x ox C od) (hb : Looks (model prog w) s.heap (typeOf b) tb) (hn : notFirst K C tb = true)
    (hne : findIn K (.ref C) "__ne__" = some (some (.builtin "object.__ne__"))) (hs : findIn K (.ref C) "__eq__" = some (some (.ref f))) (hf : isFn K (.ref f) = true) (ho : subIn K (.ref C) (.type "object") = some true)
    (h : wpAny (model prog w) A.in1 (call (.ref f) [.ref x, b]) (fun v s' => ∃ r, v = .bool r ∧ Q (.bool (!r)) s') E s) : wpAny (model prog w) A (richCompare .NotEq (.ref x) b) Q E s := by
  have X := X₀.keeps F.keep
  have body : wpAny (model prog w) A.in1 (Builtin.«object.__ne__» ⟨[.ref x, b], []⟩) (GQ.FinOf prog w A (wants (fun v s' => ∃ r, v = .bool r ∧ Q v s') E)) (fun e s' => wants (fun v s' => ∃ r, v = .bool r ∧ Q v s') E (.error e) s') s := by
    unfold Builtin.«object.__ne__»
    repeat (first
      | with_reducible refine wpAny_cRoomFor hu ?_
      | (refine wpAny_bind (m := callSpecialIfBound? (.ref x) (Str.ofString "__eq__") [b]) (ifBound_K X I hs hf (wpAny_mono h (fun r s' hr => by
          obtain ⟨r, rfl, hq⟩ := hr
          repeat (first | exact ⟨_, rfl, hq⟩ | exact wpAny_pure ⟨_, rfl, hq⟩ | (refine wpAny_bind (m := truthy (.bool _)) (wpAny_truthy_bool ?_)) | wp_step)) fun _ _ e => e)))
      | wp_step)
  have bind : bindSpecial (.builtin "object.__ne__") (.ref x) = pure (.builtin "object.__ne__", [.ref x]) := PySem.F.cmp_object.ne.bind (.ref x)
  have one : wpAny (model prog w) A (tryCompare (.ref x) "__ne__" b) (fun r s' => ∃ v, r = some v ∧ Q v s') E s := by
    unfold tryCompare
    refine wpAny_bind ?_
    simp only [callSpecialIfBound?, bindSpecialIfBound?]
    refine wpAny_holding (wpAny_bind (wpAny_bind (wpAny_bind (I.type.here ((looks_findIn X hne).here ?_)))))
    have fin : wpAny (model prog w) A (call (.builtin "object.__ne__") ([.ref x] ++ [b])) (fun v s' => ∃ r, v = .bool r ∧ Q v s') E s :=
      wpAny_call (codeAny_call_builtin PySem.F.cmp_object.ne.plain PySem.F.cmpEntry_ne (check_slot PySem.F.cmpKind_ne PySem.F.cmpSplit_ne (I.type.andThen (looks_subIn X ho)) (PySem.F.cmpArgs_ne _ _) body))
    simp only [bind]
    refine wpAny_bind (wpAny_askSetting (wpAny_ite ?_))
    split
    · refine wpAny_bind (wpAny_pure (wpAny_pure ?_))
      refine wpAny_bind (wpAny_mono fin (fun v s' z => ?_) fun _ _ e => e)
      obtain ⟨r, rfl, q⟩ := z
      refine wpAny_pure ?_
      exact wpAny_pure ⟨_, rfl, q⟩
    · refine wpAny_tryCatch (wpAny_bind (wpAny_pure (wpAny_pure ?_)))
      refine wpAny_bind (wpAny_mono fin (fun v s' z => ?_) fun _ _ e => e)
      obtain ⟨r, rfl, q⟩ := z
      refine wpAny_pure ?_
      exact wpAny_pure ⟨_, rfl, q⟩
  unfold richCompare
  simp only [oneThing_ref]
  refine wpAny_holding (wpAny_bind (wpAny_cRoomFor (Nat.lt_of_succ_lt hu) ?_))
  refine wpAny_bind (I.type.here (wpAny_bind (hb.here ?_)))
  split
  · rename_i q
    have e : subIn K tb (.ref C) = some false := by
      rcases Bool.or_eq_true_iff.mp hn with e | e
      · rw [beq_iff_eq.mp e] at q; simp at q
      · exact beq_iff_eq.mp e
    refine wpAny_bind ((looks_subIn X e).here ?_)
    simp only [Bool.false_eq_true, if_false]
    refine wpAny_bind (wpAny_mono one (fun r s' z => ?_) fun _ _ e => e)
    obtain ⟨v, rfl, hq⟩ := z
    exact wpAny_pure hq
  · refine wpAny_bind (wpAny_pure ?_)
    simp only [Bool.false_eq_true, if_false]
    refine wpAny_bind (wpAny_mono one (fun r s' z => ?_) fun _ _ e => e)
    obtain ⟨v, rfl, hq⟩ := z
    exact wpAny_pure hq
end
section
variable {X : Cx} {CX : CXT} {k : Nat} {f C : Addr} {fd : FuncData} {ps : List Str} {sp : Sp} {E : XK}
theorem op_neC (F : FnOk X.prog X.w X.K X.mg X.base CX k f fd ps sp) (m : Meth X.K C "__eq__" f) (hne : PySem.W.findIn X.K (.ref C) "__ne__" = some (some (.builtin "object.__ne__"))) (ho : PySem.W.subIn X.K (.ref C) (.type "object") = some true) (hr : Room (k + 1) X.A) (hb : Binds X.K fd ps []) (hx : Passes CX X E) : OpR X (compareOp .NotEq) (rNeC X.K C sp E) := by
  intro pins s σ H x y v u Q I rx ry hq
  obtain ⟨a, dx, fs, tb, rfl, ha, ty, hn, hsp⟩ := hq
  cases rx
  obtain ⟨mA, J, _⟩ := ins_get I.hok ha
  obtain ⟨od, J, _⟩ := J.look
  obtain ⟨mm, hF⟩ := I.fr
  show wpAny (model X.prog X.w) X.A (richCompare .NotEq _ u) (EP X pins σ Q) X.xe s
  refine ne_own_K (tb := tb) (by have := hr.un; omega) hF I.ok.mod.kin J (ty_looks I ry ty) hn hne m.at_ m.fn ho ?_
  refine wpAny_mono (run_at F hr.in1 rfl hb hx I (us := [.ref a, u]) (.cons (show RelV (.ref a) (.ref a) from rfl) (.cons ry .nil)) hsp) (fun r s' hq => ?_) fun _ _ x => x
  obtain ⟨z, H', I', rz, b, rfl, q⟩ := hq
  cases rz
  exact ⟨b, rfl, .bl (!b), H', I', rfl, q⟩
end
end
end Ts

set_option maxRecDepth 100000
set_option maxHeartbeats 4000000
namespace Ts
open PySem L2
/-! ### enumerate(tuple) -/
set_option maxHeartbeats 4000000 in
theorem meets_enum_T (t : Addr) (its : Array Value) :
    Meets (Builtin.«enumerate.__new__» ⟨[.type "enumerate", .ref t], []⟩) (fun _ R s => s.heap.IsTuple t its ∧
      R (.ok (.ret (.ref (s.heap.push { cls := .type "tuple_iterator", data := .fields #[.ref t, .int 0 0] }).objs.size)))
        { s with heap := (s.heap.push { cls := .type "tuple_iterator", data := .fields #[.ref t, .int 0 0] }).push { cls := .type "enumerate", data := .fields #[.none, .bool false, .ref s.heap.objs.size, rawInt 0, .none, .none] } }) :=
  .of_wp fun prog w A R s h => by
    obtain ⟨hp, g, d, tk, os⟩ := s
    obtain ⟨hT, h⟩ := h
    have hsub := sub_enumerate
    wp_walk
    refine wpAny_stack_any fun st => wpAny_pure ?_
    split
    · rename_i c _ _ _ _ _
      cases (c == Value.type "enumerate")
      · wp_walk using wpAny_pyIter_tuple hT
        exact ⟨_, rfl, h⟩
      · wp_walk using wpAny_pyIter_tuple hT
        exact ⟨_, rfl, h⟩
    · wp_walk using wpAny_pyIter_tuple hT
      exact ⟨_, rfl, h⟩

section
variable {prog : Program} {w : World} {A : Around} {E : Value → Shared → Prop} {s : Shared}
theorem call_enum_T {t : Addr} {its : Array Value} {Q : Value → Shared → Prop} (hT : s.heap.IsTuple t its)
    (k : ∀ g, IsEnum g (s.heap.objs.size + 1) s.heap.objs.size 0 .none → g.IsTupleIter s.heap.objs.size t 0 → (∀ b o, s.heap.get? b = some o → g.get? b = some o) → Q (.ref (s.heap.objs.size + 1)) { s with heap := g }) :
    wpAny (model prog w) A (call (.type "enumerate") [.ref t]) Q E s := by
  refine callType_new F.called_enumerate (by decide) (F.typeCall_enumerate_1 _) (F.newCall_enumerate_1 _) (fun o => F.args_object_init_2 o _) F.entry_enumerate_new (meets_enum_T t its) ⟨hT, ?_⟩
  have z : (s.heap.push { cls := .type "tuple_iterator", data := .fields #[.ref t, .int 0 0] }).objs.size = s.heap.objs.size + 1 := Heap.size_push ..
  show _ ∧ _
  rw [z]
  have en : IsEnum ((s.heap.push { cls := .type "tuple_iterator", data := .fields #[.ref t, .int 0 0] }).push { cls := .type "enumerate", data := .fields #[.none, .bool false, .ref s.heap.objs.size, rawInt 0, .none, .none] }) (s.heap.objs.size + 1) s.heap.objs.size 0 .none := by
    have q := Heap.get?_push_size (s.heap.push { cls := .type "tuple_iterator", data := .fields #[.ref t, .int 0 0] }) (o := { cls := .type "enumerate", data := .fields #[.none, .bool false, .ref s.heap.objs.size, rawInt 0, .none, .none] }) rfl
    rw [z] at q
    exact q
  exact ⟨⟨_, en, rfl⟩, k _ en ⟨_, Heap.get?_push_of_some _ (Heap.get?_push_size _ rfl), rfl, rfl⟩ fun b o y => Heap.get?_push_of_some _ (Heap.get?_push_of_some _ y)⟩
end
/-- the tuple at a as it stands at each turn, each item in a new pair -/
def IteT (K : PySem.W.Frag) (a : Addr) : It :=
  ⟨fun i H => ∃ (xs : List V) (x : V), SqT K H a xs ∧ xs[i]? = some x, fun i H v H' => ∃ T x, v = .ref T ∧ H T = none ∧ H' = upd H T (.tup [.int (i : Nat), x]) ∧ ∀ xs, SqT K H a xs → xs[i]? = some x, fun i H => ∃ xs : List V, SqT K H a xs ∧ xs.length = i⟩
theorem turn_enumT {P : Program} {w : World} {K : PySem.W.Frag} {elts : List Expr} {kk : Nat} {tpos : Pos} (a e it : Addr) :
    Turn P w K (.Tuple elts kk tpos) (IteT K a) [e, it] e (fun i h => (∃ old, IsEnum h e it ((i : Nat) : Int) old) ∧ h.IsTupleIter it a i ∧ e ≠ it ∧ a ≠ it ∧ e ≠ a) where
  mem := by simp
  obj := fun i h st b hb => by
    obtain ⟨⟨old, en⟩, ⟨o, ho, hc, hd⟩, _⟩ := st
    rcases (show b = e ∨ b = it by simpa using hb) with z | z
    · rw [z]; exact ⟨_, en, fun v q => nomatch q⟩
    · rw [z]; exact ⟨o, ho, fun v q => by rw [hd] at q; cases q⟩
  keep := fun i h h' st k => let ⟨⟨old, en⟩, hi, r⟩ := st; ⟨⟨old, k e (by simp) _ en⟩, hi.at fun o y => k it (by simp) o y, r⟩
  item := by
    intro X hP hw hK hc i pins s σ H E I hf st hg
    subst hP hw hK
    obtain ⟨⟨old, en⟩, hit, hne, hai, hea⟩ := st
    obtain ⟨xs, x, hq, hx⟩ := hg
    obtain ⟨its, rv, p, hz⟩ := I.tuple hq
    obtain ⟨u, hu, ru⟩ := rv.get hx
    have pT : s.heap.IsTuple a its.toArray := p
    have hil : i < its.toArray.size := by
      have q := (List.getElem?_eq_some_iff.mp hu).1
      simpa using q
    have l1 : e < s.heap.objs.size := Heap.lt_size en
    have l2 : it < s.heap.objs.size := by obtain ⟨_, q, _⟩ := hit; exact Heap.lt_size q
    have hh1 : X.A.in1.handled = none := I.ok.hd hc
    refine wpAny_pyNext_enum_itemD (Draws.tuple hh1 it a hai its.toArray) en ⟨hit, pT⟩ hil hne (by simp [hne, hea]) fun x' g tk hx' ho st' hT hsz hk => ?_
    have ex : x' = u := by
      have q : its.toArray[i]? = some u := by simpa using hu
      rw [q] at hx'
      exact (Option.some.inj hx').symm
    subst ex
    refine ⟨_, rfl, wpAny_letOwnedTupleGo_enum (s := { s with heap := g, toks := tk + 1 }) ho fun g2 he' sb => ?_⟩
    have hT2 : g2.get? s.heap.objs.size = some { cls := .type "tuple", data := .seq #[.int i tk, x'] } := (sb.2 _ (Nat.ne_of_gt l1)).trans hT
    have new : ObjOk X.prog X.w (upd H s.heap.objs.size (.tup [.int (i : Nat), x])) g2 s.heap.objs.size (.tup [.int (i : Nat), x]) :=
      ⟨by show 2 ≤ sizeLine; decide, [.int i tk, x'], .cons ⟨_, rfl⟩ (.cons ru .nil), ⟨_, hT2, rfl, _, rfl⟩⟩
    have I1 : Inv X pins σ (upd H s.heap.objs.size (.tup [.int (i : Nat), x])) { s with heap := g2, toks := tk + 1 } :=
      I.turnedNew (ch := [e, it]) (fun b o hb y => (sb.2 b (fun z => hb (by simp [z]))).trans (hk b o (fun z => hb (by simp [z])) (fun z => hb (by simp [z])) y)) hf (Nat.le_refl _) new
    refine ⟨.ref s.heap.objs.size, _, I1, rfl, ⟨_, x, rfl, I.hok.fresh (Nat.le_refl _), rfl, fun ys hy => by rw [I.tuple_inj hy hq]; exact hx⟩, ⟨⟨x', ?_⟩, st'.1.at fun o y => (sb.2 it (Ne.symm hne)).trans y, hne, hai, hea⟩, fun b hb => ?_⟩
    · rw [show ((i + 1 : Nat) : Int) = (i : Int) + 1 by omega]
      exact he'
    · have lb : b < s.heap.objs.size := by
        rcases (show b = e ∨ b = it by simpa using hb) with z | z
        · rw [z]; exact l1
        · rw [z]; exact l2
      rw [upd_ne (Nat.ne_of_lt lb)]
      exact (hf b hb).1
  done := by
    intro X hP hw hK hc i pins s σ H E I hf st hg
    subst hP hw hK
    obtain ⟨⟨old, en⟩, hit, hne, hai, hea⟩ := st
    obtain ⟨xs, hq, hx⟩ := hg
    obtain ⟨its, rv, p, hz⟩ := I.tuple hq
    have pT : s.heap.IsTuple a its.toArray := p
    have hh1 : X.A.in1.handled = none := I.ok.hd hc
    have ei : its.toArray.size = i := by rw [← hx, rv.length]; simp
    obtain ⟨f0, f1, f2, f3, f4, f5⟩ := hf it (by simp)
    refine wpAny_pyNext_enum_endD (Draws.tuple hh1 it a hai its.toArray) en (by rw [ei]; exact ⟨hit, pT⟩) fun g eb => ⟨rfl, I.turned (t' := s.toks) (fun b o hb y => eb b o hb y) f0 f1 f3 f4 f5⟩
  self := fun A i s Q E st h => let ⟨⟨_, en⟩, _⟩ := st; wpAny_pyIter_enum en h
def iEnumT (K : PySem.W.Frag) (ta : TA) : TI := fun σ H R => ta σ H fun vs H1 => ∃ a xs, vs = [.ref a] ∧ SqT K H1 a xs ∧ R (IteT K a) H1
theorem pi_enumT {X : Cx} {e : Expr} {ta : TA} {p pos tpos : Pos} {elts : List Expr} {kk : Nat} (hg : Gl X "enumerate") (hm : X.mg "enumerate" = none) (ha : PA X [e] ta) (hs : starEach [e] X.env = [(false, eval e X.env)] := by rfl) :
    PI X (.Tuple elts kk tpos) (.Call (.Name "enumerate" p) [e] [] pos) (iEnumT X.K ta) := by
  refine ⟨fun pins s σ H R I h => ?_⟩
  refine wpAny_Call_Name_kw (ld_blt I hg hm PyProof.Rows.boot_enumerate (PyProof.Rows.callWith_type1 (thn (ha.run pos pins s σ H _ I h) fun us s1 z => ?_) hs rfl))
  obtain ⟨vs, H1, I1, r1, a, xs, ex, hq, q⟩ := z
  subst ex
  obtain ⟨u, rfl, ru⟩ := vals1 r1
  cases ru
  obtain ⟨its, rv, p', hz⟩ := I1.tuple hq
  have pT : s1.heap.IsTuple a its.toArray := p'
  obtain ⟨oa, hoa, _⟩ := id pT
  have la : a < s1.heap.objs.size := Heap.lt_size hoa
  refine call_enum_T pT fun g en hit hk => wpAny_pyIter_enum en ?_
  have I2 : Inv X pins σ H1 { s1 with heap := g } := I1.kept (t' := s1.toks) hk
  refine ⟨s1.heap.objs.size + 1, [s1.heap.objs.size + 1, s1.heap.objs.size], _, _, H1, rfl, I2, turn_enumT a (s1.heap.objs.size + 1) s1.heap.objs.size, ⟨⟨.none, en⟩, hit, Nat.succ_ne_self _, Nat.ne_of_lt la, Nat.ne_of_gt (Nat.lt_succ_of_lt la)⟩, fun b hb => ?_, q⟩
  have ge : s1.heap.objs.size ≤ b := by
    rcases (show b = s1.heap.objs.size + 1 ∨ b = s1.heap.objs.size by simpa using hb) with z | z
    · rw [z]; exact Nat.le_add_right _ _
    · rw [z]; exact Nat.le_refl _
  exact I1.fpOk ge (I1.hok.fresh ge)
theorem walk_enumT {K : PySem.W.Frag} {a : Addr} {xs : List V} : Walk (IteT K a) xs.length (fun H => SqT K H a xs) (YPair (fun i => some (.int (i : Nat))) (fun i => xs[i]?)) := by
  refine ⟨fun i _ hi q => ⟨xs, xs[i], q, by simp [hi]⟩, fun _ q => ⟨xs, q, rfl⟩, fun i H v H' _ q y => ?_⟩
  obtain ⟨T, x, y1, y2, y3, y4⟩ := y
  exact ⟨T, .int (i : Nat), x, y1, y2, y3, rfl, y4 xs q⟩
/-! ### one rule or another -/
section
variable {X : Cx} {e : Expr}
theorem pe_or' {t u : TE} (a : PE X e t) (b : PE X e u) : PE X e (fun σ H Q => t σ H Q ∨ u σ H Q) := ⟨fun pins s σ H Q I h => h.elim (a.run pins s σ H Q I) (b.run pins s σ H Q I)⟩
theorem pg_or {t u : TG} (a : PG X e t) (b : PG X e u) : PG X e (fun v σ H Q => t v σ H Q ∨ u v σ H Q) := ⟨fun pins s σ H v w Q I r h => h.elim (a.run pins s σ H v w Q I r) (b.run pins s σ H v w Q I r)⟩
theorem pi_or {tg : Expr} {t u : TI} (a : PI X tg e t) (b : PI X tg e u) : PI X tg e (fun σ H R => t σ H R ∨ u σ H R) := ⟨fun pins s σ H R I h => h.elim (a.run pins s σ H R I) (b.run pins s σ H R I)⟩
theorem op_or' {f : Value → Value → Sem Value} {r q : R2} (a : OpR X f r) (b : OpR X f q) : OpR X f (fun x y H Q => r x y H Q ∨ q x y H Q) := fun pins s σ H x y v u Q I rx ry h => h.elim (a pins s σ H x y v u Q I rx ry) (b pins s σ H x y v u Q I rx ry)
theorem ps_or {st : Stmt} {t u : TS} (a : PS X st t) (b : PS X st u) : PS X st (fun D σ H => t D σ H ∨ u D σ H) := ⟨fun pins s σ H D I h => h.elim (a.run pins s σ H D I) (b.run pins s σ H D I)⟩
theorem call_or {f : Value} {r q : List V → Hp → VK → Prop} (a : CallR X f r) (b : CallR X f q) : CallR X f (fun xs H Q => r xs H Q ∨ q xs H Q) := fun pins s σ H xs us Q I rv h => h.elim (a pins s σ H xs us Q I rv) (b pins s σ H xs us Q I rv)
end
end Ts

set_option maxRecDepth 100000
set_option maxHeartbeats 4000000
namespace Ts
open PySem L2
section
variable {X : Cx}
/-- a local takes a dict comprehension on one line -/
theorem ps_setDc {i : Nat} {y : Str} {py : Pos} {kx vx tg iter : Expr} {ifs : List Expr} {scope : Scope} {own : List (Str × Nat)} {pos spos : Pos} {wi : TI} {g : TG} {tt : TT} {tk tv : TE} (hc : X.calm = true) (hN : X.N.Nodup) (hy : X.N[i]? = some y) (hyl : X.env.scope.names.lookup y = some .local)
    (hsw : swapsWith (.DictComp kx vx [⟨tg, iter, ifs, 0⟩] scope pos) (some (.Name y py)) spos.line X.env = pure true) (hi : PI X tg iter wi) (ok : BlkOk X.N X.env.scope scope own)
    (hg : ∀ (s : Shared) (H : Hp) (C : Addr) (cl : List (Str × Addr)) (fp : List Addr), PG (X.blk s H scope (compEnvC scope cl C X.env) fp) tg g) (ht : ∀ (s : Shared) (H : Hp) (C : Addr) (cl : List (Str × Addr)) (fp : List Addr), PTs (X.blk s H scope (compEnvC scope cl C X.env) fp) ifs tt)
    (hk : ∀ (s : Shared) (H : Hp) (C : Addr) (cl : List (Str × Addr)) (fp : List Addr), PE (X.blk s H scope (compEnvC scope cl C X.env) fp) kx tk)
    (he : ∀ (s : Shared) (H : Hp) (C : Addr) (cl : List (Str × Addr)) (fp : List Addr), PE (X.blk s H scope (compEnvC scope cl C X.env) fp) vx tv) (hs : ∀ x, foldedSetIterable iter X.env x = pure x := by intro _; rfl) :
    PS X (.Assign [.Name y py] (.DictComp kx vx [⟨tg, iter, ifs, 0⟩] scope pos) spos) (tAsg (tDc wi g tt tk tv (own.map (·.2))) (gName i)) := by
  refine ⟨fun pins s σ H D I h => ?_⟩
  rw [exec_Assign_Name_used _ _ _ _ hsw]
  refine wpAny_bind (wpAny_standAt (wpAny_bind ?_))
  show wpAny _ X.A (do let _ ← comprehension (.DictComp kx vx [⟨tg, iter, ifs, 0⟩] scope pos) scope X.env (firstIterPos [⟨tg, iter, ifs, 0⟩] pos) newDict false (eval iter X.env) (some (assign (.Name y py) X.env))) _ _ s
  have h' : tDc wi g tt tk tv (own.map (·.2)) σ H (fun x H1 => gName i x σ H1 D.nx) := h
  refine wpAny_bind (thn (dc_core (Qf := fun _ s' => SP X pins D .next s') hc hN I hi ok hg ht hk he hs h' fun L C s' m H' I' q hn f => ?_) fun _ s' z => wpAny_pure (wpAny_pure z))
  show wpAny _ _ (assign (.Name y py) X.env (.ref L)) _ _ _
  refine wpAny_assign_Name (store_ok2 (v := V.ref L) I' hN hy (.inl hyl) rfl (fun s2 I2 ⟨a, sb, za⟩ => ?_) (.inr hyl))
  obtain ⟨f0, f1, f2, f3, f4, f5⟩ := f
  have ca : C ≠ a := by
    rcases za with z | z
    · rw [z]; exact f1
    · exact fun e => f4 y a z e.symm
  refine ⟨m, hn.sameBut sb ca, fun h3 sb3 => ?_⟩
  exact ⟨_, H', I2.turned (t' := s2.toks) (fun b o hb e => (sb3.2 b hb).trans e) f0 f1 f3 f4 f5, q⟩
theorem swd_true {kx vx : Expr} {gs : List Comprehension} {scope : Scope} {pos py : Pos} {y : Str} {l : Nat} {env : Env} (hk : env.scope.kind = .function) (hy : env.scope.names.lookup y = some .local) (hl : (py.line == pos.line) = true)
    (ha : (scope.names.any fun (n, k) => n == y && (k == .local || k == .cell)) = false) : swapsWith (.DictComp kx vx gs scope pos) (some (.Name y py)) l env = pure true := by
  have k1 : env.kindOf y = some .local := hy
  have k2 : env.blockKind = .function := by unfold Env.blockKind; rw [hk]; rfl
  unfold swapsWith
  simp only [k1, k2, ha, Expr.pos, hl]
  rfl
/-- a dict comprehension over what walks -/
theorem dc_it {J : It} {n : Nat} {G : Hp → Prop} {Y : Nat → Hp → V → Hp → Prop} (w : Walk J n G Y) {g : TG} {tt : TT} {tk tv : TE} {vs : List Nat} {σ : St} {H1 : Hp} {D : Addr} {Qd : Hp → Prop} (Pv : Nat → Hp → Prop) (h0 : Pv 0 (upd H1 D (.dK []))) (hG : ∀ i H, i ≤ n → Pv i H → G H)
    (hs : ∀ i x H H', i < n → Pv i H → Y i H x H' → g x (wipe σ vs) H' fun σ2 H2 => wipe σ2 vs = wipe σ vs ∧ tt σ2 H2 fun b H3 =>
      if b = true then tk σ2 H3 fun y H4 => tv σ2 H4 fun z H5 => ∃ kvs k, y = kV k ∧ H5 D = some (.dK kvs) ∧ kvs.length < sizeLine ∧ Pv (i + 1) (upd H5 D (.dK (putK kvs k z))) else Pv (i + 1) H3) (hd : ∀ H, Pv n H → Qd H) :
    ∃ W : Nat → Nat → Hp → Prop, (∃ m, W 0 m (upd H1 D (.dK []))) ∧ ∀ i m H, W i m H →
      (J.stop i H ∧ Qd H) ∨ (J.go i H ∧ ∃ Nx : Hp → Prop, (∀ H', Nx H' → ∃ m', m' < m ∧ W (i + 1) m' H') ∧ ∀ x H', J.yld i H x H' → g x (wipe σ vs) H' fun σ2 H2 => wipe σ2 vs = wipe σ vs ∧ tt σ2 H2 fun b H3 =>
        if b = true then tk σ2 H3 fun y H4 => tv σ2 H4 fun z H5 => ∃ kvs k, y = kV k ∧ H5 D = some (.dK kvs) ∧ kvs.length < sizeLine ∧ Nx (upd H5 D (.dK (putK kvs k z))) else Nx H3) := by
  refine ⟨fun i m H => m = n - i ∧ i ≤ n ∧ Pv i H, ⟨n, by simp, Nat.zero_le _, h0⟩, ?_⟩
  rintro i m H ⟨rfl, le, p⟩
  have q := hG i H le p
  by_cases lt : i < n
  · exact .inr ⟨w.goes i H lt q, Pv (i + 1), fun H' p' => ⟨n - (i + 1), by omega, rfl, lt, p'⟩, fun x H' y => hs i x H H' lt p (w.yields i H x H' lt q y)⟩
  · obtain rfl : i = n := by omega
    exact .inl ⟨w.stops H q, hd H p⟩
end
end Ts

set_option maxRecDepth 100000
namespace Ts
open PySem L2
def top (i : Nat) : Stmt := PySem.Challenge.pw_turnsets_k20_whole_rules_compared.main.body.getD i (.Pass ⟨0, 0, 0, 0⟩)
abbrev s__wall : Stmt := top 0
abbrev s_BadRow_init : Stmt := inClass (top 3) 0
abbrev s_NoBox_init : Stmt := inClass (top 4) 0
abbrev s_BadMove_init : Stmt := inClass (top 5) 0
abbrev s_Locked_init : Stmt := inClass (top 7) 0
abbrev s_BadRule_init : Stmt := inClass (top 9) 0
abbrev s_is_name : Stmt := top 15
abbrev s_is_number : Stmt := top 16
abbrev s_is_price : Stmt := top 17
abbrev s_is_row : Stmt := top 18
abbrev s_check_rows : Stmt := top 19
abbrev s_check_box : Stmt := top 20
abbrev s_is_place : Stmt := top 21
abbrev s_check_place : Stmt := top 22
abbrev s_Tree_init : Stmt := inClass (top 23) 0
abbrev s_Tree_eq : Stmt := inClass (top 23) 1
abbrev s_Tree_len : Stmt := inClass (top 23) 2
abbrev s_Tree_contains : Stmt := inClass (top 23) 3
abbrev s_Tree_rows : Stmt := inClass (top 23) 4
abbrev s_Tree_folder : Stmt := inClass (top 23) 5
abbrev s_Tree_kind : Stmt := inClass (top 23) 6
abbrev s_Tree_price : Stmt := inClass (top 23) 7
abbrev s_Tree_inside : Stmt := inClass (top 23) 8
abbrev s_Tree_below : Stmt := inClass (top 23) 9
abbrev s_Tree_way : Stmt := inClass (top 23) 10
abbrev s_Tree_steps : Stmt := inClass (top 23) 11
abbrev s_Tree_more : Stmt := inClass (top 23) 12
abbrev s_Tree_less : Stmt := inClass (top 23) 13
abbrev s_Tree_moved : Stmt := inClass (top 23) 14
abbrev s_Tree_opened : Stmt := inClass (top 23) 15
abbrev s_check_turns : Stmt := top 25
abbrev s_check_trees : Stmt := top 26
abbrev s_values_of : Stmt := top 27
abbrev s_with_values : Stmt := top 28
abbrev s_Meaning_init : Stmt := inClass (top 29) 0
abbrev s_Meaning_eq : Stmt := inClass (top 29) 1
abbrev s_Meaning_len : Stmt := inClass (top 29) 2
abbrev s_Meaning_iter : Stmt := inClass (top 29) 3
abbrev s_Meaning_contains : Stmt := inClass (top 29) 4
abbrev s_Meaning_xor : Stmt := inClass (top 29) 5
abbrev s_Meaning_and : Stmt := inClass (top 29) 6
abbrev s_Meaning_or : Stmt := inClass (top 29) 7
abbrev s_Meaning_sub : Stmt := inClass (top 29) 8
abbrev s_Meaning_invert : Stmt := inClass (top 29) 9
abbrev s_Meaning_value : Stmt := inClass (top 29) 10
abbrev s_Meaning_states : Stmt := inClass (top 29) 11
abbrev s_Meaning_price : Stmt := inClass (top 29) 12
abbrev s_check_rule : Stmt := top 34
abbrev s_turns_behind : Stmt := top 35
abbrev s_moved : Stmt := top 36
abbrev s_back : Stmt := top 37
abbrev s_goals : Stmt := top 38
abbrev s_unlike_moves : Stmt := top 39
abbrev s_L_stream : Stmt := top 41
abbrev s_L_draw : Stmt := top 42
abbrev s_L_pick : Stmt := top 43
abbrev s_L_name : Stmt := top 44
abbrev s_L_kinds : Stmt := top 45
abbrev s_L_prices : Stmt := top 46
abbrev s_L_rows : Stmt := top 47
abbrev s_L_way : Stmt := top 48
abbrev s_L_some : Stmt := top 49
abbrev s_L_open : Stmt := top 50
abbrev s_L_meaning : Stmt := top 51
abbrev s_L_beneath : Stmt := top 52
abbrev s_L_unlike : Stmt := top 53
abbrev s_L_refused : Stmt := top 54
abbrev s_L_refusals_right : Stmt := top 55
abbrev s_law : Stmt := top 56
end Ts

set_option maxRecDepth 100000
set_option maxHeartbeats 4000000
namespace Ts
open PySem L2
/-! ### how a def stands -/
structure DefAt (K : PySem.W.Frag) (mg : Str → Option Value) (x : Str) (st : Stmt) (ps : List Str) where
  f : Addr
  fd : FuncData
  F : Fun K x x st f fd
  b : Binds K fd ps []
  g : mg x = some (.ref f)
structure MethAt (K : PySem.W.Frag) (C : Addr) (x q : Str) (st : Stmt) (ps : List Str) where
  f : Addr
  fd : FuncData
  F : Fun K x q st f fd
  b : Binds K fd ps []
  m : Meth K C x f
structure TxB (mg : Str → Option Value) : Prop where
  len : mg "len" = none
  abs : mg "abs" = none
  int : mg "int" = none
  str : mg "str" = none
  bool : mg "bool" = none
  list : mg "list" = none
  tuple : mg "tuple" = none
  dict : mg "dict" = none
  range : mg "range" = none
  enumerate : mg "enumerate" = none
  isinstance : mg "isinstance" = none
  all : mg "all" = none
theorem lk {l : List (Option V)} {i : Nat} {v : V} (h : l[i]? = some (some v)) : l[i]? = some (some v) := h
/-! ### the draws -/
/-- all but a is kept -/
def SB (a : Addr) (H H' : Hp) : Prop := ∀ b o, b ≠ a → H b = some o → H' b = some o
theorem SB.refl (a : Addr) (H : Hp) : SB a H H := fun _ _ _ h => h
theorem SB.trans {a : Addr} {H H1 H2 : Hp} (x : SB a H H1) (y : SB a H1 H2) : SB a H H2 := fun b o n h => y b o n (x b o n h)
theorem SB.of {a : Addr} {H H' : Hp} (x : Same H H') : SB a H H' := fun b o _ h => x b o h
theorem Same.new {H : Hp} {p : Addr} {o : HO} (h : H p = none) : Same H (upd H p o) := fun b u e => by rw [upd_ne (ne_of_none e h)]; exact e
theorem SB.upd {a p : Addr} {H : Hp} {o : HO} (h : H p = none) : SB a H (L2.upd H p o) := SB.of (Same.new h)
theorem SB.seqL {K : PySem.W.Frag} {a l : Addr} {H H' : Hp} {xs : List V} (x : SB a H H') (n : l ≠ a) (h : SqL K H l xs) : SqL K H' l xs := by
  rcases h with (h | ⟨o, h⟩) | h
  · exact .inl (.inl (x _ _ n h))
  · exact .inl (.inr ⟨o, x _ _ n h⟩)
  · exact .inr h
theorem SB.free {a b : Addr} {H H' : Hp} (x : SB a H H') (n : b ≠ a) (h : H' b = none) : H b = none := by
  cases q : H b with
  | none => rfl
  | some o =>
    rw [x b o n q] at h
    cases h
/-- at a a stream of draws of which at most n are mixed numbers -/
def Stm (H : Hp) (a : Addr) (n : Int) : Prop := ∃ x y z : Int, H a = some (.lst [.int x, .int y, .int z]) ∧ 0 ≤ x ∧ 0 ≤ y ∧ y < 1099511627776 ∧ 0 ≤ z ∧ z ≤ n
theorem Stm.mono {H : Hp} {a : Addr} {n m : Int} (h : Stm H a n) (k : n ≤ m) : Stm H a m := by
  obtain ⟨x, y, z, e, h1, h2, h3, h4, h5⟩ := h
  exact ⟨x, y, z, e, h1, h2, h3, h4, Int.le_trans h5 k⟩
theorem Stm.ne {H : Hp} {a p : Addr} {n : Int} (h : Stm H a n) (hp : H p = none) : a ≠ p := by
  obtain ⟨x, y, z, e, _⟩ := h
  exact ne_of_none e hp
theorem Stm.same {H H' : Hp} {a : Addr} {n : Int} (h : Stm H a n) (s : Same H H') : Stm H' a n := by
  obtain ⟨x, y, z, e, r⟩ := h
  exact ⟨x, y, z, s _ _ e, r⟩
theorem Stm.upd {H : Hp} {a p : Addr} {o : HO} {n : Int} (h : Stm H a n) (hp : H p = none) : Stm (upd H p o) a n := h.same (Same.new hp)
theorem ne_lit {i : Int} (h : i ≠ 0) : i ≠ 0 := h
theorem fm_in (q : Int) {m : Int} (h : 1 ≤ m) : 0 ≤ q.fmod m ∧ q.fmod m < m := by
  rw [Int.fmod_eq_emod_of_nonneg q (by omega)]
  exact ⟨Int.emod_nonneg _ (by omega), Int.emod_lt_of_pos _ (by omega)⟩
def spStream (K : PySem.W.Frag) : Sp := fun vs H Q _ => ∃ (a : Addr) (ns : List Int) (k : Int), vs = [.ref a, .int k] ∧ SqL K H a (ns.map V.int) ∧ 0 ≤ k ∧ k ≤ 1000 ∧
  ∀ (p : Addr) (x y : Int), H p = none → 0 ≤ x → 0 ≤ y → y < 1099511627776 → Q (.ref p) (upd H p (.lst [.int x, .int y, .int 0]))
def spDraw : Sp := fun vs H Q _ => ∃ (a : Addr) (m n : Int), vs = [.ref a, .int m] ∧ Stm H a n ∧ n ≤ 1099511627776 ∧ 1 ≤ m ∧ m ≤ 1000000 ∧
  ∀ (r : Int) (H' : Hp), 0 ≤ r → r < m → Stm H' a (n + 1) → (∀ b, b ≠ a → H' b = H b) → Q (.int r) H'
section
variable {P : Program} {w : World} {K : PySem.W.Frag} {mg : Str → Option Value} {base : Heap}
theorem sc_stream : FnScope ["_law_script", "_law_k", "_law_cell"] ["_law_script", "_law_k"] (defScope s_L_stream) := ⟨rfl, rfl, rfl, by decide +kernel, rfl, by decide +kernel, by decide +kernel⟩
theorem ok_stream (D : DefAt K mg "_law_stream" s_L_stream ["_law_script", "_law_k"]) (B : TxB mg) : FnOk P w K mg base CX0 2 D.f D.fd ["_law_script", "_law_k"] (spStream K) := by
  refine D.F.ok sc_stream (fun vs H Q E h => ?_) (fun cdv A outer s H vs Q E hr h => ?_)
  · obtain ⟨a, ns, k, rfl, _⟩ := h
    rfl
  · obtain ⟨a, ns, k, rfl, hS, h0, h1, hq⟩ := h
    refine ⟨_, pss_cons (ps_set (i := 2) sc_stream.nd rfl (.inl rfl) (pe_ifExp (pt_cmpR op_lt (pv 1) (pe_callB call_len_seq (by rfl) B.len PySem.boot_len (pa_cons (pv 0) pa_nil)) (nomark _)) (pe_callB call_abs (by rfl) B.abs (by decide +kernel) (pa_cons (pe_ix ix_list (pv 0) (pv 1) (fun _ _ => rfl)) pa_nil)) pe_int))
      (pss_one (ps_ret (pe_lst (pa_cons (pe_ifExp (pt_cmpR op_ge (pv 2) (pe_op op_pow pe_int pe_int) (nomark _)) (pv 2) pe_int) (pa_cons (pe_op op_add (pe_op op_modN (pe_callTy call_int1 (by rfl) B.int (by decide +kernel) (pa_cons (pv 2) pa_nil)) pe_int) (pe_op op_mul pe_int (pv 1))) (pa_cons pe_int pa_nil)))))), ?_⟩
    refine ⟨_, rfl, _, rfl, a, _, rfl, .inl hS, _, _, rfl, rfl, _, rfl, ?_⟩
    have fin : ∀ c : Int, 0 ≤ c → 0 ≤ c.fmod 2147483647 + 31 * k ∧ c.fmod 2147483647 + 31 * k < 1099511627776 := fun c hc => by
      have e := Int.fmod_eq_emod_of_nonneg c (show (0 : Int) ≤ 2147483647 by decide)
      omega
    refine ite2 (fun h => ?_) (fun h => ?_)
    · have hlt := of_decide_eq_true h
      rw [List.length_map] at hlt
      obtain ⟨v, hv⟩ : ∃ v, ns[k.toNat]? = some v := ⟨ns[k.toNat]'(by omega), List.getElem?_eq_getElem (by omega)⟩
      refine ⟨_, rfl, _, rfl, a, _, _, .int v, rfl, rfl, hS, at_of (j := k.toNat) (by omega) (by rw [List.getElem?_map, hv]; rfl), _, rfl, ?_⟩
      have hc : (0 : Int) ≤ if v < 0 then -v else v := by split <;> omega
      generalize (if v < 0 then -v else v) = c at hc
      refine ⟨_, rfl, _, _, rfl, rfl, ⟨by decide, by decide, by decide⟩, _, _, rfl, rfl, _, rfl, ?_⟩
      refine ite2 (fun h => ?_) (fun h => ?_)
      · exact ⟨_, rfl, _, rfl, .inl ⟨_, rfl, _, _, rfl, rfl, ne_lit (by decide), _, rfl, _, _, rfl, rfl, .inl ⟨by decide, by decide⟩, _, _, rfl, rfl, (by show 3 ≤ sizeLine; decide), fun p hp => hq p _ _ hp hc (fin c hc).1 (fin c hc).2⟩⟩
      · exact ⟨_, rfl, .inl ⟨_, rfl, _, _, rfl, rfl, ne_lit (by decide), _, rfl, _, _, rfl, rfl, .inl ⟨by decide, by decide⟩, _, _, rfl, rfl, (by show 3 ≤ sizeLine; decide), fun p hp => hq p _ _ hp (by decide) (fin c hc).1 (fin c hc).2⟩⟩
    · have hc : (0 : Int) ≤ 0 := Int.le_refl 0
      refine ⟨_, rfl, _, _, rfl, rfl, ⟨by decide, by decide, by decide⟩, _, _, rfl, rfl, _, rfl, ?_⟩
      refine ite2 (fun h => ?_) (fun h => ?_)
      · exact ⟨_, rfl, _, rfl, .inl ⟨_, rfl, _, _, rfl, rfl, ne_lit (by decide), _, rfl, _, _, rfl, rfl, .inl ⟨by decide, by decide⟩, _, _, rfl, rfl, (by show 3 ≤ sizeLine; decide), fun p hp => hq p _ _ hp hc (fin 0 hc).1 (fin 0 hc).2⟩⟩
      · exact ⟨_, rfl, .inl ⟨_, rfl, _, _, rfl, rfl, ne_lit (by decide), _, rfl, _, _, rfl, rfl, .inl ⟨by decide, by decide⟩, _, _, rfl, rfl, (by show 3 ≤ sizeLine; decide), fun p hp => hq p _ _ hp (by decide) (fin 0 hc).1 (fin 0 hc).2⟩⟩
theorem sc_draw : FnScope ["_law_stream_here", "_law_many", "_law_digit", "_law_spread"] ["_law_stream_here", "_law_many"] (defScope s_L_draw) := ⟨rfl, rfl, rfl, by decide +kernel, rfl, by decide +kernel, by decide +kernel⟩
theorem ok_draw (D : DefAt K mg "_law_draw" s_L_draw ["_law_stream_here", "_law_many"]) (B : TxB mg) : FnOk P w K mg base CX0 2 D.f D.fd ["_law_stream_here", "_law_many"] spDraw := by
  refine D.F.ok sc_draw (fun vs H Q E h => ?_) (fun cdv A outer s H vs Q E hr h => ?_)
  · obtain ⟨a, m, n, rfl, _⟩ := h
    rfl
  · obtain ⟨a, m, n, rfl, ⟨x, y, z, e, hx, hy, hy1, hz, hzn⟩, hn, hm, hm1, hq⟩ := h
    have eS := SqL.of (K := K) e
    refine ⟨_, pss_cons (ps_if (pt_cmpR op_gt (pe_ix ix_list (pv 0) pe_int (fun _ _ => rfl)) pe_int (nomark _))
        (pss_cons (ps_set (i := 2) sc_draw.nd rfl (.inl rfl) (pe_op op_modN (pe_callTy call_int1 (by rfl) B.int (by decide +kernel) (pa_cons (pe_ix ix_list (pv 0) pe_int (fun _ _ => rfl)) pa_nil)) (pv 1)))
        (pss_cons (ps_asg (pe_op op_fdivN (pe_ix ix_list (pv 0) pe_int (fun _ _ => rfl)) (pv 1)) (pg_sub (pv 0) pe_int set_list))
        (pss_one (ps_ret (pv 2))))) pss_nil)
      (pss_cons (ps_asg (pe_op op_add (pe_ix ix_list (pv 0) pe_int (fun _ _ => rfl)) pe_int) (pg_sub (pv 0) pe_int set_list))
      (pss_cons (ps_set (i := 3) sc_draw.nd rfl (.inl rfl) (pe_op op_modN (pe_op op_pow (pe_callTy call_int1 (by rfl) B.int (by decide +kernel) (pa_cons (pe_op op_add (pe_op op_add (pe_ix ix_list (pv 0) pe_int (fun _ _ => rfl)) (pe_op op_mul pe_int (pe_ix ix_list (pv 0) pe_int (fun _ _ => rfl)))) pe_int) pa_nil)) pe_int) pe_int))
      (pss_one (ps_ret (pe_op op_modN (pe_op op_fdivN (pe_op op_modN (pe_callTy call_int1 (by rfl) B.int (by decide +kernel) (pa_cons (pe_op op_mul (pe_op op_add (pv 3) (pe_ix ix_list (pv 0) pe_int (fun _ _ => rfl))) pe_int) pa_nil)) pe_int) pe_int) (pv 1)))))), ?_⟩
    have g0 : ∀ x y z : Int, atI [V.int x, .int y, .int z] 0 = some (.int x) := fun _ _ _ => rfl
    have g1 : ∀ x y z : Int, atI [V.int x, .int y, .int z] 1 = some (.int y) := fun _ _ _ => rfl
    have g2 : ∀ x y z : Int, atI [V.int x, .int y, .int z] 2 = some (.int z) := fun _ _ _ => rfl
    refine ⟨_, rfl, a, _, _, _, rfl, rfl, eS, g0 _ _ _, _, _, rfl, rfl, _, rfl, ?_⟩
    refine ite2 (fun h => ?_) (fun h => ?_)
    · have hx0 := of_decide_eq_true h
      refine ⟨_, rfl, a, _, _, _, rfl, rfl, eS, g0 _ _ _, .inl ⟨_, rfl, _, rfl, _, _, rfl, rfl, (by omega), ?_⟩⟩
      refine ⟨_, rfl, a, _, _, _, rfl, rfl, eS, g0 _ _ _, _, rfl, _, _, rfl, rfl, ⟨by omega, by omega⟩, _, rfl, a, _, _, 0, rfl, rfl, e, rfl, _, rfl, ?_⟩
      have e2 := Int.fdiv_eq_ediv_of_nonneg x (show (0 : Int) ≤ m by omega)
      exact hq _ _ (fm_in _ hm).1 (fm_in _ hm).2 ⟨x.fdiv m, y, z, upd_same, by rw [e2]; exact Int.ediv_nonneg hx (by omega), hy, hy1, hz, by omega⟩ fun b hb => upd_ne hb
    · refine ⟨_, rfl, a, _, _, _, rfl, rfl, eS, g2 _ _ _, _, _, rfl, rfl, _, rfl, a, _, _, 2, rfl, rfl, e, rfl, ?_⟩
      have e' : (upd H a (.lst [V.int x, .int y, .int (z + 1)])) a = some (.lst [V.int x, .int y, .int (z + 1)]) := upd_same
      have eS' := SqL.of (K := K) e'
      refine ⟨_, rfl, a, _, _, _, rfl, rfl, eS', g1 _ _ _, _, rfl, a, _, _, _, rfl, rfl, eS', g2 _ _ _, _, _, rfl, rfl, .inl ⟨by decide, by decide⟩, _, _, rfl, rfl, _, _, rfl, rfl, .inl ⟨_, rfl, _, _, rfl, rfl, ⟨by decide, by decide, by omega⟩, _, _, rfl, rfl, ne_lit (by decide), ?_⟩⟩
      have e3 := Int.fmod_eq_emod_of_nonneg ((y + 7919 * (z + 1) + 104729) ^ (5 : Int).toNat) (show (0 : Int) ≤ 2147483647 by decide)
      generalize (y + 7919 * (z + 1) + 104729) ^ (5 : Int).toNat = g at e3
      have b1 := Int.emod_nonneg g (show (2147483647 : Int) ≠ 0 by decide)
      have b2 := Int.emod_lt_of_pos g (show (0 : Int) < 2147483647 by decide)
      rw [← e3] at b1 b2
      generalize g.fmod 2147483647 = u at b1 b2
      refine ⟨_, rfl, _, rfl, a, _, _, _, rfl, rfl, eS', g2 _ _ _, _, _, rfl, rfl, _, _, rfl, rfl, .inl ⟨by omega, by omega⟩, .inl ⟨_, rfl, _, _, rfl, rfl, ne_lit (by decide), _, _, rfl, rfl, ⟨by decide, by decide⟩, _, rfl, _, _, rfl, rfl, by omega, ?_⟩⟩
      exact hq _ _ (fm_in _ hm).1 (fm_in _ hm).2 ⟨x, y, z + 1, upd_same, hx, hy, hy1, by omega, by omega⟩ fun b hb => upd_ne hb
end
end Ts

set_option maxRecDepth 100000
set_option maxHeartbeats 4000000
namespace Ts
open PySem L2
/-- an item of a list, or a sign of a text, that is drawn -/
def spPick (K : PySem.W.Frag) : Sp := fun vs H Q _ =>
  (∃ (a l : Addr) (n : Int) (xs : List V), vs = [.ref a, .ref l] ∧ Stm H a n ∧ n ≤ 1099511627776 ∧ l ≠ a ∧ SqL K H l xs ∧ 1 ≤ xs.length ∧ xs.length ≤ 1000000 ∧
    ∀ (v : V) (H' : Hp), v ∈ xs → Stm H' a (n + 1) → SB a H H' → (∀ b, H b = none → H' b = none) → Q v H') ∨
  (∃ (a : Addr) (z : Str) (n : Int), vs = [.ref a, .str z] ∧ Stm H a n ∧ n ≤ 1099511627776 ∧ 1 ≤ z.length ∧ z.length ≤ 1000000 ∧
    ∀ (c : Nat) (H' : Hp), c ∈ z.cps.toList → Stm H' a (n + 1) → SB a H H' → (∀ b, H b = none → H' b = none) → Q (.str ⟨#[c]⟩) H')
theorem sb_eq {a : Addr} {H H' : Hp} (h : ∀ b, b ≠ a → H' b = H b) : SB a H H' := fun b o n e => by rw [h b n]; exact e
theorem free_eq {a : Addr} {n : Int} {H H' : Hp} (s : Stm H a n) (h : ∀ b, b ≠ a → H' b = H b) (b : Addr) (hb : H b = none) : H' b = none := by rw [h b (s.ne hb).symm]; exact hb
/-- a name as it is drawn: 1, 2, 3 or 8 letters -/
def Low (z : Str) : Prop := ∀ c ∈ z.cps.toList, 97 ≤ c ∧ c ≤ 122
def Drawn (z : Str) : Prop := (z.length = 1 ∨ z.length = 2 ∨ z.length = 3 ∨ z.length = 8) ∧ Low z
def NameShape (z : Str) : Prop := ((z.length = 1 ∨ z.length = 2 ∨ z.length = 3 ∨ z.length = 8) ∨ z.length = 4) ∧ Low z
theorem Drawn.shape {z : Str} (h : Drawn z) : NameShape z := ⟨.inl h.1, h.2⟩
def spName : Sp := fun vs H Q _ => ∃ (a : Addr) (n : Int), vs = [.ref a] ∧ Stm H a n ∧ n ≤ 549755813888 ∧
  ∀ (z : Str) (H' : Hp), Drawn z → Stm H' a (n + 9) → SB a H H' → Q (.str z) H'
theorem abc_low : ∀ c ∈ ("abcdefghijklmnopqrstuvwxyz" : Str).cps.toList, 97 ≤ c ∧ c ≤ 122 := by decide +kernel
theorem abc_len : ("abcdefghijklmnopqrstuvwxyz" : Str).length = 26 := by decide +kernel
theorem join_empty : ∀ (ys : List Str), (Str.join ("" : Str) ys).cps.toList = (ys.map fun y => y.cps.toList).flatten
  | [] => rfl
  | [x] => by simp [Str.join]
  | x :: y :: r => by
    have ih := join_empty (y :: r)
    have e : ("" : Str).cps.toList = [] := by decide +kernel
    show ((x.cps ++ ("" : Str).cps) ++ (Str.join "" (y :: r)).cps).toList = _
    rw [Array.toList_append, Array.toList_append, ih, e]
    simp
theorem tYes_if {σ : St} {H : Hp} {A B : Hp → Prop} (h : A H) : tYes σ H (fun b H3 => if b = true then A H3 else B H3) := by
  show if true = true then A H else B H
  rw [if_pos rfl]
  exact h
/-- signs put together -/
def signs (cs : List Nat) : List Str := cs.map fun c => ⟨#[c]⟩
theorem join_signs (cs : List Nat) : (Txt.join ("" : Str) (signs cs)).cps.toList = cs := by
  rw [TL.join_eq, join_empty]
  unfold signs
  induction cs with
  | nil => rfl
  | cons c r ih =>
    simp only [List.map_cons, List.flatten_cons] at ih ⊢
    rw [ih]
    rfl
theorem len_toList (z : Str) : z.length = z.cps.toList.length := by simp [Str.length]
section
variable {P : Program} {w : World} {K : PySem.W.Frag} {mg : Str → Option Value} {base : Heap}
theorem sc_pick : FnScope ["_law_stream_here", "_law_things"] ["_law_stream_here", "_law_things"] (defScope s_L_pick) := ⟨rfl, rfl, rfl, by decide +kernel, rfl, by decide +kernel, by decide +kernel⟩
theorem ok_pick (D : DefAt K mg "_law_pick" s_L_pick ["_law_stream_here", "_law_things"]) (Dd : DefAt K mg "_law_draw" s_L_draw ["_law_stream_here", "_law_many"]) (B : TxB mg) : FnOk P w K mg base CX0 3 D.f D.fd ["_law_stream_here", "_law_things"] (spPick K) := by
  have G : FnOk P w K mg base CX0 2 Dd.f Dd.fd ["_law_stream_here", "_law_many"] spDraw := ok_draw Dd B
  refine D.F.ok sc_pick (fun vs H Q E h => ?_) (fun cdv A outer s H vs Q E hr h => ?_)
  · rcases h with ⟨a, l, n, xs, rfl, _⟩ | ⟨a, z, n, rfl, _⟩ <;> rfl
  · rcases h with ⟨a, l, n, xs, rfl, hs, hn, la, hl, h1, h2, hq⟩ | ⟨a, z, n, rfl, hs, hn, h1, h2, hq⟩
    · refine ⟨_, pss_one (ps_ret (pe_ix ix_list (pv 1) (pe_call G hr rfl Dd.g Dd.F.kp Dd.b .nil pass0 (pa_cons (pv 0) (pa_cons (pe_callB call_len_seq (by rfl) B.len PySem.boot_len (pa_cons (pv 1) pa_nil)) pa_nil))) (fun _ _ => rfl))), ?_⟩
      refine ⟨_, rfl, _, rfl, _, rfl, l, xs, rfl, .inl hl, a, xs.length, n, rfl, hs, hn, by omega, by omega, fun r H' r0 r1 hs' he => ?_⟩
      have hk : r.toNat < xs.length := by omega
      exact ⟨l, xs, r, xs[r.toNat], rfl, rfl, (sb_eq he).seqL la hl, at_of (j := r.toNat) (by omega) (List.getElem?_eq_getElem hk), hq _ _ (List.getElem_mem hk) hs' (sb_eq he) (free_eq hs he)⟩
    · refine ⟨_, pss_one (ps_ret (pe_item_str (pv 1) (pe_call G hr rfl Dd.g Dd.F.kp Dd.b .nil pass0 (pa_cons (pv 0) (pa_cons (pe_callB call_len (by rfl) B.len PySem.boot_len (pa_cons (pv 1) pa_nil)) pa_nil))) (fun _ _ => rfl))), ?_⟩
      refine ⟨_, rfl, _, rfl, _, rfl, _, z.length, rfl, ⟨Nat.le_trans h2 (by decide), rfl⟩, a, z.length, n, rfl, hs, hn, by omega, by omega, fun r H' r0 r1 hs' he => ?_⟩
      have hk : r.toNat < z.cps.size := by
        have : z.length = z.cps.size := rfl
        omega
      exact ⟨z, r, z.cps[r.toNat], rfl, rfl, r0, by omega, r1, Array.getElem?_eq_getElem hk, hq _ _ (by simp) hs' (sb_eq he) (free_eq hs he)⟩
theorem sc_name : FnScope ["_law_stream_here", "_law_size", "_law_k"] ["_law_stream_here"] (defScope s_L_name) := ⟨rfl, rfl, rfl, by decide +kernel, rfl, by decide +kernel, by decide +kernel⟩
theorem ok_name (D : DefAt K mg "_law_name" s_L_name ["_law_stream_here"]) (Dp : DefAt K mg "_law_pick" s_L_pick ["_law_stream_here", "_law_things"]) (Dd : DefAt K mg "_law_draw" s_L_draw ["_law_stream_here", "_law_many"]) (B : TxB mg) :
    FnOk P w K mg base CX0 4 D.f D.fd ["_law_stream_here"] spName := by
  have Gd : FnOk P w K mg base CX0 2 Dd.f Dd.fd ["_law_stream_here", "_law_many"] spDraw := ok_draw Dd B
  have Gp : FnOk P w K mg base CX0 3 Dp.f Dp.fd ["_law_stream_here", "_law_things"] (spPick K) := ok_pick Dp Dd B
  refine D.F.ok sc_name (fun vs H Q E h => ?_) (fun cdv A outer s H vs Q E hr h => ?_)
  · obtain ⟨a, n, rfl, _⟩ := h
    rfl
  · obtain ⟨a, n, rfl, hs, hn, hq⟩ := h
    refine ⟨_, pss_cons (ps_set (i := 1) sc_name.nd rfl (.inl rfl) (pe_ix ix_list (pe_lst (pa_cons pe_int (pa_cons pe_int (pa_cons pe_int (pa_cons pe_int (pa_cons pe_int pa_nil)))))) (pe_call Gd (hr.mono (by decide)) rfl Dd.g Dd.F.kp Dd.b .nil pass0 (pa_cons (pv 0) (pa_cons pe_int pa_nil))) (fun _ _ => rfl)))
      (pss_one (ps_ret (pe_join pe_str (pe_lc (own := [("_law_k", 2)]) (g := gName 2) (tt := tYes) (by rfl) sc_name.nd (pi_range1 (by rfl) B.range (pa_cons (pv 1) pa_nil)) (blkOk_by (N := ["_law_stream_here", "_law_size", "_law_k"]) (sc := defScope s_L_name) (by decide +kernel))
        (fun _ _ _ _ _ => pg_name (i := 2) sc_name.nd rfl (Or.inl rfl)) (fun _ _ _ _ _ => pts_nil) (fun _ _ _ _ _ => pe_call Gp hr rfl Dp.g Dp.F.kp Dp.b .nil pass0 (pa_cons (pv 0) (pa_cons pe_str pa_nil))))))), ?_⟩
    refine ⟨(by show 5 ≤ sizeLine; decide), fun l hl => ?_⟩
    refine ⟨_, rfl, a, 5, n, rfl, hs.upd hl, by omega, by decide, by decide, fun r H1 r0 r1 hs1 he1 => ?_⟩
    have la : l ≠ a := (hs.ne hl).symm
    have e1 : H1 l = some (.lst [V.int 1, .int 1, .int 2, .int 3, .int 8]) := by rw [he1 l la]; exact upd_same
    have sb1 : SB a H H1 := (SB.upd hl).trans (sb_eq he1)
    obtain ⟨m, hm, hm4⟩ : ∃ m : Int, atI [V.int 1, .int 1, .int 2, .int 3, .int 8] r = some (.int m) ∧ (m = 1 ∨ m = 2 ∨ m = 3 ∨ m = 8) := by
      obtain rfl | rfl | rfl | rfl | rfl : r = 0 ∨ r = 1 ∨ r = 2 ∨ r = 3 ∨ r = 4 := by omega
      · exact ⟨1, rfl, by decide⟩
      · exact ⟨1, rfl, by decide⟩
      · exact ⟨2, rfl, by decide⟩
      · exact ⟨3, rfl, by decide⟩
      · exact ⟨8, rfl, by decide⟩
    refine ⟨l, _, r, .int m, rfl, rfl, SqL.of e1, hm, ⟨_, rfl⟩, ?_⟩
    refine ⟨_, rfl, m, rfl, by omega, by omega, fun Dl hD => ?_⟩
    refine lc_range (lo := 0) (n := m.toNat) (fun i H2 => ∃ cs : List Nat, cs.length = i ∧ (∀ c ∈ cs, 97 ≤ c ∧ c ≤ 122) ∧ H2 Dl = some (.lst ((signs cs).map V.str)) ∧ Stm H2 a (n + 1 + i) ∧ SB a H1 H2) ?_ ?_ ?_
    · exact ⟨[], rfl, (fun c hc => by cases hc), upd_same, (by simpa using hs1.upd (o := .lst []) hD), SB.upd hD⟩
    · rintro i H2 hi ⟨cs, hcl, hlow, hDl, hs2, sb2⟩
      refine ⟨rfl, tYes_if ?_⟩
      have Da : Dl ≠ a := (hs1.ne hD).symm
      refine ⟨_, rfl, .inr ⟨a, _, _, rfl, hs2, by omega, by rw [abc_len]; decide, by rw [abc_len]; decide, fun c H3 hc hs3 sb3 _ => ?_⟩⟩
      refine ⟨(signs cs).map V.str, sb3 _ _ Da hDl, ?_, cs ++ [c], by simp [hcl], ?_, ?_, ?_, ?_⟩
      · rw [List.length_map]
        unfold signs
        rw [List.length_map, hcl]
        exact Nat.lt_of_lt_of_le hi (Nat.le_trans (show m.toNat ≤ 8 by omega) (by decide))
      · intro d hd
        rcases List.mem_append.mp hd with h | h
        · exact hlow d h
        · rw [List.mem_singleton.mp h]; exact abc_low c hc
      · rw [upd_same]; simp [signs]
      · have q := hs3
        obtain ⟨x, y, z, e, r⟩ := q
        refine ⟨x, y, z, ?_, r.1, r.2.1, r.2.2.1, r.2.2.2.1, by have := r.2.2.2.2; push_cast; omega⟩
        rw [upd_ne Da.symm]; exact e
      · intro b o hb e
        rw [upd_ne (fun q => by rw [q, hD] at e; cases e)]
        exact sb3 b o hb (sb2 b o hb e)
    · rintro H2 ⟨cs, hcl, hlow, hDl, hs2, sb2⟩
      refine ⟨_, Dl, signs cs, rfl, rfl, .inl (SqL.of hDl), ?_, ?_⟩
      · have e0 : ("" : Str).length = 0 := by decide +kernel
        rw [e0]
        have : ((signs cs).map (·.length)).sum = cs.length := by
          unfold signs
          clear hDl hcl hlow
          induction cs with
          | nil => rfl
          | cons c r ih => simp only [List.map_cons, List.sum_cons, ih, List.length_cons]; show 1 + r.length = r.length + 1; omega
        rw [this, hcl]; omega
      · refine hq _ _ ⟨?_, ?_⟩ (hs2.mono (by omega)) (sb1.trans sb2)
        · rw [len_toList, join_signs, hcl]; omega
        · intro c hc
          rw [join_signs] at hc
          exact hlow c hc
end
end Ts

set_option maxRecDepth 100000
set_option maxHeartbeats 4000000
namespace Ts
open PySem L2
/-! ### rows of trees -/
structure Row where
  nm : Str
  fo : Str
  ki : Str
  pr : Option Int
  deriving DecidableEq
def prV : Option Int → V
  | none => .non
  | some i => .int i
def rowVs (r : Row) : List V := [.str r.nm, .str r.fo, .str r.ki, prV r.pr]
structure RowsAt (H : Hp) (as : List Addr) (rs : List Row) : Prop where
  len : as.length = rs.length
  at_ : ∀ (i : Nat) (a : Addr) (r : Row), as[i]? = some a → rs[i]? = some r → H a = some (.tup (rowVs r))
theorem RowsAt.same {H H' : Hp} {as : List Addr} {rs : List Row} (h : RowsAt H as rs) (s : Same H H') : RowsAt H' as rs := ⟨h.len, fun i a r ha hr => s _ _ (h.at_ i a r ha hr)⟩
theorem RowsAt.sb {H H' : Hp} {as : List Addr} {rs : List Row} {p : Addr} {xs : List V} (h : RowsAt H as rs) (hp : H p = some (.lst xs)) (s : SB p H H') : RowsAt H' as rs :=
  ⟨h.len, fun i a r ha hr => s _ _ (fun q => by have e := h.at_ i a r ha hr; rw [q, hp] at e; cases e) (h.at_ i a r ha hr)⟩
theorem RowsAt.nil {H : Hp} : RowsAt H [] [] := ⟨rfl, fun i a r ha => by simp at ha⟩
theorem RowsAt.snoc {H : Hp} {as : List Addr} {rs : List Row} {a : Addr} {r : Row} (h : RowsAt H as rs) (ha : H a = some (.tup (rowVs r))) : RowsAt H (as ++ [a]) (rs ++ [r]) := by
  refine ⟨by simp [h.len], fun i b q hb hq => ?_⟩
  rcases Nat.lt_or_ge i as.length with hi | hi
  · rw [List.getElem?_append_left hi] at hb
    rw [List.getElem?_append_left (h.len ▸ hi)] at hq
    exact h.at_ i b q hb hq
  · rw [List.getElem?_append_right hi] at hb
    rw [List.getElem?_append_right (h.len ▸ hi)] at hq
    have e0 : i - as.length = 0 := by
      have := (List.getElem?_eq_some_iff.mp hb).1
      simp at this
      omega
    have e1 : i - rs.length = 0 := by rw [← h.len]; exact e0
    rw [e0] at hb
    rw [e1] at hq
    simp at hb hq
    subst hb; subst hq
    exact ha
def kinds3 : List Str := ["folder", "item", "shut"]
def PriceOk : Option Int → Prop
  | none => True
  | some i => 1 ≤ i
/-- what a row must be behind others -/
structure Fits (pre : List Row) (r : Row) : Prop where
  shape : NameShape r.nm
  top : r.nm ≠ ("top" : Str)
  new : r.nm ∉ pre.map (·.nm)
  home : r.fo = ("top" : Str) ∨ ∃ q ∈ pre, q.nm = r.fo ∧ q.ki = ("folder" : Str)
  kind : r.ki ∈ kinds3
  price : PriceOk r.pr
def Valid (rs : List Row) : Prop := ∀ i r, rs[i]? = some r → Fits (rs.take i) r
theorem Valid.nil : Valid [] := fun i r h => by simp at h
theorem Valid.snoc {rs : List Row} {r : Row} (h : Valid rs) (f : Fits rs r) : Valid (rs ++ [r]) := by
  intro i q hq
  rcases Nat.lt_or_ge i rs.length with hi | hi
  · rw [List.getElem?_append_left hi] at hq
    rw [List.take_append_of_le_length (Nat.le_of_lt hi)]
    exact h i q hq
  · rw [List.getElem?_append_right hi] at hq
    have e0 : i - rs.length = 0 := by
      have := (List.getElem?_eq_some_iff.mp hq).1
      simp at this
      omega
    rw [e0] at hq
    simp at hq
    subst hq
    have e : i = rs.length := by omega
    rw [e, List.take_append_of_le_length (Nat.le_refl _), List.take_length]
    exact f
/-! ### looking for texts in lists -/
theorem eqV_str (x y : Str) : eqV (.str x) (.str y) = decide (x = y) := by
  by_cases h : x = y
  · subst h
    simp [eqV]
  · simp [eqV, h]
theorem inV_strs (z : Str) : ∀ l : List Str, inV (.str z) (l.map V.str) = decide (z ∈ l)
  | [] => by simp [inV]
  | x :: l => by
    have ih := inV_strs z l
    unfold inV at ih ⊢
    rw [List.map_cons, List.any_cons, ih, eqV_str]
    by_cases h : x = z
    · subst h; simp
    · have h' : ¬ z = x := fun e => h e.symm
      simp [h, h']
theorem flat_strs (l : List Str) : (l.map V.str).all flatV = true := by
  rw [List.all_eq_true]
  intro v hv
  obtain ⟨z, _, rfl⟩ := List.mem_map.mp hv
  rfl
theorem low_cat {x y : Str} (hx : Low x) (hy : Low y) : Low (x ++ y) := by
  intro c hc
  have e : (x ++ y).cps.toList = x.cps.toList ++ y.cps.toList := by
    show (x.cps ++ y.cps).toList = _
    simp
  rw [e] at hc
  rcases List.mem_append.mp hc with h | h
  · exact hx c h
  · exact hy c h
theorem len_cat (x y : Str) : (x ++ y).length = x.length + y.length := by
  show (x.cps ++ y.cps).size = _
  simp [Str.length]
end Ts
namespace Ts
open PySem L2
/-! ### dicts by what they have -/
structure MemD (H : Hp) (d : Addr) (l : List Str) : Prop where
  ex : ∃ kv : List (Key × V), H d = some (.dK kv) ∧ (∀ z : Str, (valV kv (.inr z : Key)).isSome = decide (z ∈ l)) ∧ kv.length ≤ l.length
theorem MemD.same {H H' : Hp} {d : Addr} {l : List Str} (m : MemD H d l) (e : H' d = H d) : MemD H' d l := by
  obtain ⟨kv, h⟩ := m.ex
  exact ⟨kv, by rw [e]; exact h⟩
theorem putK_le (kv : List (Key × V)) (k : Key) (v : V) : (putK kv k v).length ≤ kv.length + 1 := by
  unfold putK
  split
  · rw [List.length_map]; exact Nat.le_succ _
  · rw [List.length_append, List.length_singleton]; exact Nat.le_refl _
theorem mem_put {kv : List (Key × V)} {l : List Str} (h : ∀ z : Str, (valV kv (.inr z : Key)).isSome = decide (z ∈ l)) (x : Str) (v : V) (z : Str) : (valV (putK kv (.inr x) v) (.inr z : Key)).isSome = decide (z ∈ l ++ [x]) := by
  rw [valV_put]
  by_cases e : z = x
  · subst e
    simp
  · have e' : ¬ (Sum.inr z : Key) = Sum.inr x := fun q => e (Sum.inr.inj q)
    rw [if_neg e', h z]
    simp [e]
theorem MemD.put {H : Hp} {d : Addr} {l : List Str} {kv : List (Key × V)} (hk : ∀ z : Str, (valV kv (.inr z : Key)).isSome = decide (z ∈ l)) (hl : kv.length ≤ l.length) (x : Str) (v : V) : MemD (upd H d (.dK (putK kv (.inr x) v))) d (l ++ [x]) :=
  ⟨_, upd_same, mem_put hk x v, by have := putK_le kv (.inr x) v; rw [List.length_append, List.length_singleton]; omega⟩
/-- rows as tuples or lists -/
structure SeqRows (H : Hp) (as : List Addr) (rs : List Row) : Prop where
  len : as.length = rs.length
  at_ : ∀ (i : Nat) (a : Addr) (r : Row), as[i]? = some a → rs[i]? = some r → H a = some (.tup (rowVs r)) ∨ H a = some (.lst (rowVs r))
theorem SeqRows.same {H H' : Hp} {as : List Addr} {rs : List Row} (h : SeqRows H as rs) (s : Same H H') : SeqRows H' as rs := ⟨h.len, fun i a r ha hr => (h.at_ i a r ha hr).imp (s _ _) (s _ _)⟩
theorem RowsAt.seq {H : Hp} {as : List Addr} {rs : List Row} (h : RowsAt H as rs) : SeqRows H as rs := ⟨h.len, fun i a r ha hr => .inl (h.at_ i a r ha hr)⟩
/-- what a row must be behind others, names and folders that stand already -/
structure FitsB (ns hs : List Str) (pre : List Row) (r : Row) : Prop where
  shape : NameShape r.nm
  top : r.nm ≠ ("top" : Str)
  new : r.nm ∉ ns ++ pre.map (·.nm)
  home : r.fo ∈ hs ++ (pre.filter fun q => decide (q.ki = ("folder" : Str))).map (·.nm)
  kind : r.ki ∈ kinds3
  price : PriceOk r.pr
theorem Fits.b {pre : List Row} {r : Row} (f : Fits pre r) : FitsB [] [("top" : Str)] pre r :=
  ⟨f.shape, f.top, by simpa using f.new, by
    rcases f.home with h | ⟨q, hq, h1, h2⟩
    · rw [h]; simp
    · refine List.mem_append.mpr (.inr (List.mem_map.mpr ⟨q, List.mem_filter.mpr ⟨hq, decide_eq_true h2⟩, h1⟩)), f.kind, f.price⟩
end Ts

set_option maxRecDepth 100000
set_option maxHeartbeats 4000000
namespace Ts
open PySem L2
def kindsL : List Str := ["folder", "folder", "item", "item", "item", "shut"]
def pricesL : List (Option Int) := [some 1, some 1, some 1, some 2, some 3, some 7, none]
def spKinds : Sp := fun vs H Q _ => vs = [] ∧ ∀ p, H p = none → Q (.ref p) (upd H p (.lst (kindsL.map V.str)))
def spPrices : Sp := fun vs H Q _ => vs = [] ∧ ∀ p, H p = none → Q (.ref p) (upd H p (.lst (pricesL.map prV)))
/-- the rows of a drawn tree: n mixed draws before, at most 13 more a row -/
def spRows (K : PySem.W.Frag) : Sp := fun vs H Q _ => ∃ (a kl pl : Addr) (many n : Int) (ks : List Str) (ps : List (Option Int)), vs = [.ref a, .int many, .ref kl, .ref pl] ∧ Stm H a n ∧ n ≤ 549755800000 ∧ 0 ≤ many ∧ many ≤ 40 ∧ kl ≠ a ∧ pl ≠ a ∧
  SqL K H kl (ks.map V.str) ∧ SqL K H pl (ps.map prV) ∧ 1 ≤ ks.length ∧ ks.length ≤ 1000 ∧ 1 ≤ ps.length ∧ ps.length ≤ 1000 ∧ (∀ k ∈ ks, k ∈ kinds3) ∧ (∀ q ∈ ps, PriceOk q) ∧
  ∀ (p : Addr) (as : List Addr) (rs : List Row) (H' : Hp), H p = none → p ≠ a → H' p = some (.lst (as.map V.ref)) → RowsAt H' as rs → Valid rs → (rs.length : Int) ≤ many → (1 ≤ many → rs ≠ []) → (∀ r ∈ rs, r.ki ∈ ks ∧ r.pr ∈ ps ∧ Drawn r.nm) → SB a H H' → Stm H' a (n + 13 * many) → Q (.ref p) H'
def folderNames (rs : List Row) : List Str := (rs.filter fun r => decide (r.ki = ("folder" : Str))).map (·.nm)
theorem top_len : ("top" : Str).length = 3 := by decide +kernel
theorem mem_cutV {xs : List V} {lo hi : Option Int} {v : V} (h : v ∈ cutV xs lo hi) : v ∈ xs := List.mem_of_mem_drop (List.mem_of_mem_take h)
theorem seq_ref {K : PySem.W.Frag} {H H' : Hp} {l : Addr} {xs : List V} (e : H' l = H l) (h : SqL K H l xs) : SqL K H' l xs := by
  rcases h with (h | ⟨o, h⟩) | h
  · exact .inl (.inl (by rw [e]; exact h))
  · exact .inl (.inr ⟨o, by rw [e]; exact h⟩)
  · exact .inr h
section
variable {P : Program} {w : World} {K : PySem.W.Frag} {mg : Str → Option Value} {base : Heap}
theorem sc_kinds : FnScope [] [] (defScope s_L_kinds) := ⟨rfl, rfl, rfl, by decide +kernel, rfl, by decide +kernel, by decide +kernel⟩
theorem ok_kinds (D : DefAt K mg "_law_kinds" s_L_kinds []) : FnOk P w K mg base CX0 2 D.f D.fd [] spKinds := by
  refine D.F.ok sc_kinds (fun vs H Q E h => ?_) (fun cdv A outer s H vs Q E hr h => ?_)
  · obtain ⟨rfl, _⟩ := h
    rfl
  · obtain ⟨rfl, hq⟩ := h
    refine ⟨_, pss_one (ps_ret (pe_lst (pa_cons pe_str (pa_cons pe_str (pa_cons pe_str (pa_cons pe_str (pa_cons pe_str (pa_cons pe_str pa_nil)))))))), ?_⟩
    exact ⟨(by show 6 ≤ sizeLine; decide), fun p hp => hq p hp⟩
theorem sc_prices : FnScope [] [] (defScope s_L_prices) := ⟨rfl, rfl, rfl, by decide +kernel, rfl, by decide +kernel, by decide +kernel⟩
theorem ok_prices (D : DefAt K mg "_law_prices" s_L_prices []) : FnOk P w K mg base CX0 2 D.f D.fd [] spPrices := by
  refine D.F.ok sc_prices (fun vs H Q E h => ?_) (fun cdv A outer s H vs Q E hr h => ?_)
  · obtain ⟨rfl, _⟩ := h
    rfl
  · obtain ⟨rfl, hq⟩ := h
    refine ⟨_, pss_one (ps_ret (pe_lst (pa_cons pe_int (pa_cons pe_int (pa_cons pe_int (pa_cons pe_int (pa_cons pe_int (pa_cons pe_int (pa_cons pe_non pa_nil))))))))), ?_⟩
    exact ⟨(by show 7 ≤ sizeLine; decide), fun p hp => hq p hp⟩
abbrev nRows : List Str := ["_law_stream_here", "_law_many", "_law_kinds_here", "_law_prices_here", "_law_rows_here", "_law_folders", "_law_names", "_law_k", "_law_name_here", "_law_kind", "_law_folder"]
theorem sc_rows : FnScope nRows ["_law_stream_here", "_law_many", "_law_kinds_here", "_law_prices_here"] (defScope s_L_rows) := ⟨rfl, rfl, rfl, by decide +kernel, rfl, by decide +kernel, by decide +kernel⟩
/-- what stands between two turns -/
structure RowsI (a p fl nl : Addr) (H0 H : Hp) (ks : List Str) (ps : List (Option Int)) (m : Int) (i : Nat) (as : List Addr) (rs : List Row) : Prop where
  hp : H p = some (.lst (as.map V.ref))
  hf : H fl = some (.lst ((("top" : Str) :: folderNames rs).map V.str))
  hn : H nl = some (.lst ((("top" : Str) :: rs.map (·.nm)).map V.str))
  rows : RowsAt H as rs
  val : Valid rs
  len : rs.length ≤ i
  mem : ∀ r ∈ rs, r.ki ∈ ks ∧ r.pr ∈ ps ∧ Drawn r.nm
  sb : SB a H0 H
  st : Stm H a m
theorem RowsI.step {a p fl nl : Addr} {H0 H H' : Hp} {ks : List Str} {ps : List (Option Int)} {m m' : Int} {i j : Nat} {as : List Addr} {rs : List Row} (h : RowsI a p fl nl H0 H ks ps m i as rs) (np : p ≠ a) (nf : fl ≠ a) (nn : nl ≠ a) (s : SB a H H') (hs : Stm H' a m') (hj : i ≤ j) :
    RowsI a p fl nl H0 H' ks ps m' j as rs := by
  obtain ⟨x, y, z, e, _⟩ := id h.st
  exact ⟨s _ _ np h.hp, s _ _ nf h.hf, s _ _ nn h.hn, h.rows.sb e s, h.val, Nat.le_trans h.len hj, h.mem, h.sb.trans s, hs⟩
theorem sign_at {z : Str} (h : Low z) {r : Int} (h0 : 0 ≤ r) (h1 : r < (z.length : Int)) : ∃ c, z.cps[r.toNat]? = some c ∧ Low ⟨#[c]⟩ := by
  have hk : r.toNat < z.cps.size := by
    have : z.length = z.cps.size := rfl
    omega
  refine ⟨z.cps[r.toNat], Array.getElem?_eq_getElem hk, fun c hc => ?_⟩
  have e : c = z.cps[r.toNat] := by simpa using hc
  rw [e]
  exact h _ (by simp)
theorem low_q : Low ("q" : Str) := by unfold Low; decide +kernel
theorem low_aj : Low ("abcdefghij" : Str) := by unfold Low; decide +kernel
theorem low_kp : Low ("klmnop" : Str) := by unfold Low; decide +kernel
theorem len_q : ("q" : Str).length = 1 := by decide +kernel
theorem len_aj : ("abcdefghij" : Str).length = 10 := by decide +kernel
theorem len_kp : ("klmnop" : Str).length = 6 := by decide +kernel
theorem szl {n : Nat} (h : n ≤ 1000) : n ≤ sizeLine := Nat.le_of_lt (small1000 h)
theorem folders_le (rs : List Row) : (folderNames rs).length ≤ rs.length := by
  unfold folderNames
  rw [List.length_map]
  exact List.length_filter_le _ _
theorem mem_folders {rs : List Row} {z : Str} (h : z ∈ folderNames rs) : ∃ q ∈ rs, q.nm = z ∧ q.ki = ("folder" : Str) := by
  obtain ⟨q, hq, e⟩ := List.mem_map.mp h
  obtain ⟨h1, h2⟩ := List.mem_filter.mp hq
  exact ⟨q, h1, e, of_decide_eq_true h2⟩
theorem folders_snoc (rs : List Row) (r : Row) : folderNames (rs ++ [r]) = folderNames rs ++ (if r.ki = ("folder" : Str) then [r.nm] else []) := by
  unfold folderNames
  rw [List.filter_append, List.map_append]
  by_cases h : r.ki = ("folder" : Str)
  · rw [if_pos h]; simp [h]
  · rw [if_neg h]; simp [h]
theorem q_top (c d : Nat) : (("q" : Str) ++ ⟨#[c]⟩) ++ ⟨#[d]⟩ ≠ ("top" : Str) := fun e => by
  have h : (#[113, c, d] : Array Nat) = #[116, 111, 112] := congrArg Str.cps e
  simp at h
theorem ok_rows (D : DefAt K mg "_law_rows" s_L_rows ["_law_stream_here", "_law_many", "_law_kinds_here", "_law_prices_here"]) (Dn : DefAt K mg "_law_name" s_L_name ["_law_stream_here"]) (Dp : DefAt K mg "_law_pick" s_L_pick ["_law_stream_here", "_law_things"]) (Dd : DefAt K mg "_law_draw" s_L_draw ["_law_stream_here", "_law_many"]) (B : TxB mg) :
    FnOk P w K mg base CX0 5 D.f D.fd ["_law_stream_here", "_law_many", "_law_kinds_here", "_law_prices_here"] (spRows K) := by
  have Gp : FnOk P w K mg base CX0 3 Dp.f Dp.fd ["_law_stream_here", "_law_things"] (spPick K) := ok_pick Dp Dd B
  have Gn : FnOk P w K mg base CX0 4 Dn.f Dn.fd ["_law_stream_here"] spName := ok_name Dn Dp Dd B
  refine D.F.ok sc_rows (fun vs H Q E h => ?_) (fun cdv A outer s H vs Q E hr h => ?_)
  · obtain ⟨a, kl, pl, many, n, ks, ps, rfl, _⟩ := h
    rfl
  · obtain ⟨a, kl, pl, many, n, ks, ps, rfl, hs, hn, hm0, hm1, hka, hpa, hks, hps, k1, k2, p1, p2, hkok, hpok, hq⟩ := h
    have hr2 : Room 3 _ := hr.mono (by decide)
    refine ⟨_, pss_cons (ps_par3 (i := 4) (j := 5) (l := 6) rfl sc_rows.nd rfl rfl rfl (by decide) (by decide) (by decide) rfl rfl rfl (pa_cons (pe_lst pa_nil) (pa_cons (pe_lst (pa_cons pe_str pa_nil)) (pa_cons (pe_lst (pa_cons pe_str pa_nil)) pa_nil))) (by rfl))
      (pss_cons (ps_for PassesOwn.never rfl (pi_range1 (by rfl) B.range (pa_cons (pv 1) pa_nil)) (pg_name (i := 7) sc_rows.nd rfl (Or.inl rfl))
        (pss_cons (ps_set (i := 8) sc_rows.nd rfl (.inl rfl) (pe_call Gn hr rfl Dn.g Dn.F.kp Dn.b .nil pass0 (pa_cons (pv 0) pa_nil)))
        (C8.pss_cut (ps_if (pt_cmpR op_in_seq (pv 8) (pv 6) (by rfl)) (pss_one (ps_set (i := 8) sc_rows.nd rfl (.inl rfl) (pe_op op_add_str (pe_op op_add_str pe_str (pe_item_str pe_str (pe_op op_mod (pv 7) pe_int) (fun _ _ => rfl))) (pe_item_str pe_str (pe_op op_mod (pe_op op_fdiv (pv 7) pe_int) pe_int) (fun _ _ => rfl))))) pss_nil)
        (pss_cons (ps_par (i := 9) (j := 10) rfl sc_rows.nd rfl rfl (by decide) rfl rfl (pa_cons (pe_call Gp hr2 rfl Dp.g Dp.F.kp Dp.b .nil pass0 (pa_cons (pv 0) (pa_cons (pv 2) pa_nil))) (pa_cons (pe_call Gp hr2 rfl Dp.g Dp.F.kp Dp.b .nil pass0 (pa_cons (pv 0) (pa_cons (pe_op op_cat (pe_slice sl_list (pv 5) (po_some (pe_un un_neg pe_int)) po_none) (pe_lst (pa_cons pe_str pa_nil))) pa_nil))) pa_nil)) (by rfl))
        (pss_one (ps_if (pt_cmpR op_notIn_seq (pv 8) (pv 6) (by rfl))
          (pss_cons (ps_expr (pe_bm PySem.F.plainAttrs_list PySem.F.slot_list_append PySem.F.type_list_append mt_append (pv 6) (pa_cons (pv 8) pa_nil)))
          (pss_cons (ps_expr (pe_bm PySem.F.plainAttrs_list PySem.F.slot_list_append PySem.F.type_list_append mt_append (pv 4) (pa_cons (pe_tup (pa_cons (pv 8) (pa_cons (pv 10) (pa_cons (pv 9) (pa_cons (pe_call Gp hr2 rfl Dp.g Dp.F.kp Dp.b .nil pass0 (pa_cons (pv 0) (pa_cons (pv 3) pa_nil))) pa_nil))))) pa_nil)))
          (pss_one (ps_expr (pe_bm PySem.F.plainAttrs_list PySem.F.slot_list_extend PySem.F.type_list_extend mt_extend (pv 5) (pa_cons (pe_ifExp (pt_cmpR op_eq (pv 9) pe_str (nomark _)) (pe_lst (pa_cons (pv 8) pa_nil)) (pe_lst pa_nil)) pa_nil)))))) pss_nil))))))
      (pss_one (ps_ret (pv 4)))), ?_⟩
    refine ⟨Nat.zero_le _, fun p hp => ⟨(by show 1 ≤ sizeLine; decide), fun fl hfl => ⟨(by show 1 ≤ sizeLine; decide), fun nl hnl => ⟨_, _, _, rfl, ?_⟩⟩⟩⟩
    have hpf : p ≠ fl := fun q => by rw [← q, upd_same] at hfl; cases hfl
    have hfn : fl ≠ nl := fun q => by rw [← q, upd_same] at hnl; cases hnl
    have hpn : p ≠ nl := fun q => by rw [← q, upd_ne hpf, upd_same] at hnl; cases hnl
    have sp : Same H (upd (upd (upd H p (.lst [])) fl (.lst [V.str ("top" : Str)])) nl (.lst [V.str ("top" : Str)])) := (Same.new hp).trans ((Same.new hfl).trans (Same.new hnl))
    have pa : p ≠ a := (hs.ne hp).symm
    have fa : fl ≠ a := ((hs.upd hp).ne hfl).symm
    have na : nl ≠ a := (((hs.upd hp).upd hfl).ne hnl).symm
    refine ⟨_, rfl, many, rfl, by omega, by omega, ?_⟩
    refine for_range (lo := 0) (n := many.toNat) (fun i σ H' => ∃ (as : List Addr) (rs : List Row) (vk vn vki vf : Option V), σ = [some (.ref a), some (.int many), some (.ref kl), some (.ref pl), some (.ref p), some (.ref fl), some (.ref nl), vk, vn, vki, vf] ∧ RowsI a p fl nl H H' ks ps (n + 13 * i) i as rs ∧ (0 < i → rs ≠ [])) ?_ ?_ ?_
    · refine ⟨[], [], none, none, none, none, rfl, ⟨?_, ?_, upd_same, RowsAt.nil, Valid.nil, Nat.le_refl _, (fun r hr => by cases hr), SB.of sp, by simpa using hs.same sp⟩, fun h => absurd h (Nat.lt_irrefl _)⟩
      · rw [upd_ne hpn, upd_ne hpf, upd_same]; rfl
      · rw [upd_ne hfn, upd_same]; rfl
    · rintro i σ H1 hi ⟨as, rs, vk, vn, vki, vf, rfl, R, hne⟩
      have hi40 : i < 40 := by omega
      have hrl := R.len
      refine ⟨_, rfl, a, _, rfl, R.st, by omega, fun z H2 hz hs2 sb2 => ?_⟩
      have R2 := R.step pa fa na sb2 hs2 (Nat.le_refl i)
      refine ⟨fun σ' H' => ∃ (z : Str), Drawn z ∧ (z ∈ ("top" : Str) :: rs.map (·.nm) → z ≠ ("top" : Str)) ∧ σ' = [some (.ref a), some (.int many), some (.ref kl), some (.ref pl), some (.ref p), some (.ref fl), some (.ref nl), some (.int (0 + i)), some (.str z), vki, vf] ∧ H' = H2, ?_, ?_⟩
      · refine ⟨_, rfl, _, rfl, nl, _, rfl, .inl (SqL.of R2.hn), rfl, flat_strs _, _, rfl, ?_⟩
        refine ite2 (fun _ => ?_) (fun hcn => ?_)
        · obtain ⟨c, hc, lc⟩ := sign_at low_aj (r := (0 + (i : Int)) % 10) (by omega) (by rw [len_aj]; omega)
          obtain ⟨d, hd, ld⟩ := sign_at low_kp (r := ((0 + (i : Int)) / 10) % 6) (by omega) (by rw [len_kp]; omega)
          refine ⟨_, rfl, _, _, rfl, rfl, (by show (0 : Int) < 10; decide), _, _, c, rfl, rfl, by omega, by omega, by rw [len_aj]; omega, hc, _, _, rfl, rfl, (by show 2 ≤ sizeLine; decide), ?_⟩
          refine ⟨_, rfl, _, _, rfl, rfl, ⟨by decide, by decide⟩, _, _, rfl, rfl, (by show (0 : Int) < 6; decide), _, _, d, rfl, rfl, by omega, by omega, by rw [len_kp]; omega, hd, _, _, rfl, rfl, (by show 3 ≤ sizeLine; decide), ?_⟩
          exact ⟨_, ⟨.inr (.inr (.inl (by rw [len_cat, len_cat, len_q]; rfl))), low_cat (low_cat low_q lc) ld⟩, fun _ => q_top _ _, rfl, rfl⟩
        · refine ⟨z, hz, fun hm => absurd ?_ hcn, rfl, rfl⟩
          rw [if_neg Bool.false_ne_true, inV_strs]
          exact decide_eq_true hm
      · rintro σ' H' ⟨z, hz, hzt, rfl, rfl⟩
        refine ⟨_, rfl, _, rfl, .inl ⟨a, kl, _, _, rfl, R2.st, by omega, hka, R2.sb.seqL hka hks, by simpa using k1, by simp; omega, fun v H3 hv hs3 sb3 _ => ?_⟩⟩
        obtain ⟨ki, hki, rfl⟩ := List.mem_map.mp hv
        have R3 := R2.step pa fa na sb3 hs3 (Nat.le_refl i)
        refine ⟨_, rfl, _, rfl, _, rfl, _, rfl, fl, _, rfl, SqL.of R3.hf, fun q1 hq1 => ⟨(by show 1 ≤ sizeLine; decide), fun q2 hq2 => ?_⟩⟩
        have q12 : q1 ≠ q2 := fun e => by rw [← e, upd_same] at hq2; cases hq2
        have hcl := cutV_length ((("top" : Str) :: folderNames rs).map V.str) (some (-4)) none
        have hfle := folders_le rs
        refine ⟨q1, q2, _, _, rfl, rfl, by rw [upd_ne q12]; exact upd_same, upd_same, ?_, fun q3 hq3 => ?_⟩
        · refine szl ?_
          rw [List.length_map, List.length_cons] at hcl
          show _ + 1 ≤ 1000
          omega
        have s4 := (Same.new (o := .lst (cutV ((("top" : Str) :: folderNames rs).map V.str) (some (-4)) none)) hq1).trans ((Same.new (o := .lst [V.str ("top" : Str)]) hq2).trans (Same.new (o := .lst (cutV ((("top" : Str) :: folderNames rs).map V.str) (some (-4)) none ++ [V.str ("top" : Str)])) hq3))
        have R4 := R3.step pa fa na (SB.of s4) (hs3.same s4) (Nat.le_refl i)
        have q3a : q3 ≠ a := (((hs3.upd hq1).upd hq2).ne hq3).symm
        refine .inl ⟨a, q3, _, _, rfl, R4.st, by omega, q3a, SqL.of upd_same, by simp, ?_, fun v2 H5 hv2 hs5 sb5 _ => ?_⟩
        · rw [List.length_append]
          rw [List.length_map, List.length_cons] at hcl
          show _ + 1 ≤ 1000000
          omega
        obtain ⟨fo, hfo, rfl⟩ : ∃ fo : Str, (fo = ("top" : Str) ∨ fo ∈ folderNames rs) ∧ v2 = .str fo := by
          rcases List.mem_append.mp hv2 with h | h
          · obtain ⟨fo, h1, rfl⟩ := List.mem_map.mp (mem_cutV h)
            exact ⟨fo, List.mem_cons.mp h1, rfl⟩
          · exact ⟨_, .inl rfl, List.mem_singleton.mp h⟩
        have R5 := R4.step pa fa na sb5 hs5 (Nat.le_refl i)
        refine ⟨_, _, rfl, _, rfl, _, rfl, nl, _, rfl, .inl (SqL.of R5.hn), rfl, flat_strs _, _, rfl, ?_⟩
        have hin : (if true = true then !inV (.str z) ((("top" : Str) :: rs.map (·.nm)).map V.str) else inV (.str z) ((("top" : Str) :: rs.map (·.nm)).map V.str)) = !decide (z ∈ (("top" : Str) :: rs.map (·.nm))) := by
          rw [if_pos rfl, inV_strs]
        refine ite2 (fun hc => ?_) (fun hcn => ?_)
        · have hc' : (if true = true then !inV (.str z) ((("top" : Str) :: rs.map (·.nm)).map V.str) else inV (.str z) ((("top" : Str) :: rs.map (·.nm)).map V.str)) = true := hc
          rw [hin] at hc'
          have hz' : z ∉ (("top" : Str) :: rs.map (·.nm)) := by simpa using hc'
          have l41 : ((("top" : Str) :: rs.map (·.nm)).map V.str).length ≤ 1000 := by rw [List.length_map, List.length_cons, List.length_map]; omega
          refine ⟨_, rfl, .inl ⟨rfl, _, SqL.of R5.hn⟩, _, rfl, nl, _, _, rfl, rfl, R5.hn, small1000 l41, ?_⟩
          have n1 : ∀ {b : Addr}, b ≠ nl → (upd H5 nl (.lst ((("top" : Str) :: rs.map (·.nm)).map V.str ++ [V.str z]))) b = H5 b := fun h => upd_ne h
          have st6 : Stm (upd H5 nl (.lst ((("top" : Str) :: rs.map (·.nm)).map V.str ++ [V.str z]))) a (n + 13 * (i : Int) + 9 + 1 + 1) := by
            obtain ⟨x, y, u, e, r⟩ := R5.st
            exact ⟨x, y, u, by rw [n1 na.symm]; exact e, r⟩
          have sb6 : SB a H (upd H5 nl (.lst ((("top" : Str) :: rs.map (·.nm)).map V.str ++ [V.str z]))) := fun b o hb e => by
            rw [n1 (fun q => by rw [q] at e; have := sp _ _ e; rw [upd_same] at this; have h2 := (Same.new (o := .lst []) hp).trans (Same.new (o := .lst [V.str ("top" : Str)]) hfl); have h3 := h2.free hnl; rw [h3] at e; cases e)]
            exact R5.sb b o hb e
          refine ⟨_, rfl, .inl ⟨rfl, _, SqL.of (by rw [n1 hpn]; exact R5.hp)⟩, _, rfl, _, rfl, _, rfl, _, rfl, _, rfl, .inl ⟨a, pl, _, _, rfl, st6, by omega, hpa, sb6.seqL hpa hps, by simpa using p1, by simp; omega, fun v3 H7 hv3 hs7 sb7 _ => ?_⟩⟩
          obtain ⟨pr, hpr, rfl⟩ := List.mem_map.mp hv3
          refine ⟨(by show 4 ≤ sizeLine; decide), fun t ht => ?_⟩
          have hp7 : H7 p = some (.lst (as.map V.ref)) := sb7 _ _ pa (by rw [n1 hpn]; exact R5.hp)
          have hf7 : H7 fl = some (.lst ((("top" : Str) :: folderNames rs).map V.str)) := sb7 _ _ fa (by rw [n1 hfn]; exact R5.hf)
          have hn7 : H7 nl = some (.lst ((("top" : Str) :: rs.map (·.nm)).map V.str ++ [V.str z])) := sb7 _ _ na upd_same
          have tp : p ≠ t := ne_of_none hp7 ht
          have tf : fl ≠ t := ne_of_none hf7 ht
          have tn : nl ≠ t := ne_of_none hn7 ht
          have ta : a ≠ t := hs7.ne ht
          have rows7 : RowsAt H7 as rs := ⟨R5.rows.len, fun j b r hb hr => sb7 _ _ (fun q => by
            obtain ⟨x, y, u, e, _⟩ := R5.st
            have e2 := R5.rows.at_ j b r hb hr
            rw [q, e] at e2; cases e2) (by rw [n1 (fun q => by have e2 := R5.rows.at_ j b r hb hr; rw [q, R5.hn] at e2; cases e2)]; exact R5.rows.at_ j b r hb hr)⟩
          have al : (as.map V.ref).length ≤ 1000 := by rw [List.length_map, R5.rows.len]; omega
          refine ⟨p, _, _, rfl, rfl, by rw [upd_ne tp]; exact hp7, small1000 al, ?_⟩
          have g : ∀ {b : Addr}, b ≠ p → b ≠ t → (upd (upd H7 t (.tup (rowVs ⟨z, fo, ki, pr⟩))) p (.lst (as.map V.ref ++ [V.ref t]))) b = H7 b := fun h1 h2 => by rw [upd_ne h1, upd_ne h2]
          refine ⟨_, rfl, .inl ⟨rfl, _, SqL.of (Eq.trans (g hpf.symm tf) hf7)⟩, _, rfl, rfl, _, rfl, ?_⟩
          have fits : Fits rs ⟨z, fo, ki, pr⟩ := ⟨hz.shape, fun q => hz' (List.mem_cons.mpr (.inl q)), fun q => hz' (List.mem_cons.mpr (.inr q)), hfo.imp id mem_folders, hkok ki hki, hpok pr hpr⟩
          have fin : ∀ (e : List Str) (q : Addr) (H8 : Hp), (if ki = ("folder" : Str) then [z] else []) = e → H8 = upd (upd (upd H7 t (.tup (rowVs ⟨z, fo, ki, pr⟩))) p (.lst (as.map V.ref ++ [V.ref t]))) q (.lst (e.map V.str)) → (upd (upd H7 t (.tup (rowVs ⟨z, fo, ki, pr⟩))) p (.lst (as.map V.ref ++ [V.ref t]))) q = none →
              RowsI a p fl nl H (upd H8 fl (.lst ((("top" : Str) :: folderNames rs).map V.str ++ e.map V.str))) ks ps (n + 13 * ((i + 1 : Nat) : Int)) (i + 1) (as ++ [t]) (rs ++ [⟨z, fo, ki, pr⟩]) := by
            rintro e q H8 he rfl hq0
            have qp : p ≠ q := fun x => by rw [← x, upd_same] at hq0; cases hq0
            have qf : fl ≠ q := ne_of_none (Eq.trans (g hpf.symm tf) hf7) hq0
            have qn : nl ≠ q := ne_of_none (Eq.trans (g hpn.symm tn) hn7) hq0
            have qt : t ≠ q := fun x => by rw [← x, upd_ne tp.symm, upd_same] at hq0; cases hq0
            have qa : a ≠ q := fun x => by
              obtain ⟨x1, y1, u1, e1, _⟩ := hs7
              rw [← x, g pa.symm ta, e1] at hq0; cases hq0
            have k1 : ∀ {b : Addr}, b ≠ fl → b ≠ q → b ≠ p → b ≠ t → (upd (upd (upd (upd H7 t (.tup (rowVs ⟨z, fo, ki, pr⟩))) p (.lst (as.map V.ref ++ [V.ref t]))) q (.lst (e.map V.str))) fl (.lst ((("top" : Str) :: folderNames rs).map V.str ++ e.map V.str))) b = H7 b := fun h1 h2 h3 h4 => by rw [upd_ne h1, upd_ne h2, upd_ne h3, upd_ne h4]
            have rowsT : ∀ {b : Addr} {xs : List V}, H7 b = some (.tup xs) → (upd (upd (upd (upd H7 t (.tup (rowVs ⟨z, fo, ki, pr⟩))) p (.lst (as.map V.ref ++ [V.ref t]))) q (.lst (e.map V.str))) fl (.lst ((("top" : Str) :: folderNames rs).map V.str ++ e.map V.str))) b = some (.tup xs) := fun {b xs} h => by
              rw [k1 (ne_of h hf7 (by intro x; cases x)).symm.symm (fun x => by
                have : (upd (upd H7 t (.tup (rowVs ⟨z, fo, ki, pr⟩))) p (.lst (as.map V.ref ++ [V.ref t]))) b = some (.tup xs) := by rw [g (fun y => by rw [y, hp7] at h; cases h) (ne_of_none h ht)]; exact h
                rw [x, hq0] at this; cases this) (fun y => by rw [y, hp7] at h; cases h) (ne_of_none h ht)]
              exact h
            refine ⟨?_, ?_, ?_, RowsAt.snoc ⟨rows7.len, fun j b r hb hr => rowsT (rows7.at_ j b r hb hr)⟩ ?_, R5.val.snoc fits, by simp; omega, fun r hr => ?_, fun b o hb eb => ?_, ?_⟩
            · rw [upd_ne hpf, upd_ne qp, upd_same]; simp
            · rw [upd_same, folders_snoc]
              simp only [] at he ⊢
              rw [he]
              simp
            · rw [k1 hfn.symm qn hpn.symm tn, hn7]; simp
            · rw [upd_ne tf.symm, upd_ne qt, upd_ne tp.symm, upd_same]
            · rcases List.mem_append.mp hr with h | h
              · exact R5.mem r h
              · rw [List.mem_singleton.mp h]; exact ⟨hki, hpr, hz⟩
            · have e0 := sb7 b o hb (sb6 b o hb eb)
              have h2 := (Same.new (o := .lst []) hp).trans (Same.new (o := .lst [V.str ("top" : Str)]) hfl)
              rw [k1 (fun x => by rw [x, (Same.new (o := .lst []) hp).free hfl] at eb; cases eb) (fun x => by
                rw [x] at e0 eb
                rw [upd_ne (fun y => by rw [y, hp] at eb; cases eb), upd_ne (ne_of_none e0 ht), e0] at hq0; cases hq0) (fun x => by rw [x, hp] at eb; cases eb) (ne_of_none e0 ht)]
              exact e0
            · obtain ⟨x1, y1, u1, e1, r1⟩ := hs7
              exact ⟨x1, y1, u1, by rw [k1 fa.symm qa pa.symm ta]; exact e1, r1.1, r1.2.1, r1.2.2.1, r1.2.2.2.1, by have := r1.2.2.2.2; push_cast; omega⟩
          have fl41 : ∀ e : List Str, e.length ≤ 1 → ((("top" : Str) :: folderNames rs).map V.str).length + (e.map V.str).length ≤ sizeLine := fun e he => szl (by rw [List.length_map, List.length_cons, List.length_map]; omega)
          refine ite2 (fun hk => ?_) (fun hk => ?_)
          · have hk' : ki = ("folder" : Str) := by have := of_decide_eq_true hk; exact V.str.inj this
            refine ⟨_, rfl, (by show 1 ≤ sizeLine; decide), fun q hq0 => ?_⟩
            have qf : fl ≠ q := ne_of_none (Eq.trans (g hpf.symm tf) hf7) hq0
            refine ⟨fl, q, _, _, rfl, rfl, (by rw [upd_ne qf]; exact Eq.trans (g hpf.symm tf) hf7), upd_same, fl41 [z] (Nat.le_refl _), ?_⟩
            exact ⟨_, _, _, _, _, _, rfl, fin [z] q _ (if_pos hk') rfl hq0, fun _ => by simp⟩
          · have hk' : ¬ ki = ("folder" : Str) := fun x => hk (decide_eq_true (by rw [x]))
            refine ⟨Nat.zero_le _, fun q hq0 => ?_⟩
            have qf : fl ≠ q := ne_of_none (Eq.trans (g hpf.symm tf) hf7) hq0
            refine ⟨fl, q, _, _, rfl, rfl, (by rw [upd_ne qf]; exact Eq.trans (g hpf.symm tf) hf7), upd_same, fl41 [] (Nat.zero_le _), ?_⟩
            exact ⟨_, _, _, _, _, _, rfl, fin [] q _ (if_neg hk') rfl hq0, fun _ => by simp⟩
        · refine ⟨as, rs, _, _, _, _, rfl, R5.step pa fa na (SB.refl _ _) (R5.st.mono (by push_cast; omega)) (Nat.le_succ i), fun _ hnil => ?_⟩
          rw [hin, hnil] at hcn
          have hm : z ∈ (("top" : Str) :: ([] : List Row).map (·.nm)) := Classical.byContradiction fun q => hcn (by rw [decide_eq_false q]; rfl)
          exact hzt (by rw [hnil]; exact hm) (List.mem_singleton.mp hm)
    · rintro σ H1 ⟨as, rs, vk, vn, vki, vf, rfl, R, hne⟩
      have e : ((many.toNat : Nat) : Int) = many := by omega
      exact ⟨_, rfl, hq p as rs H1 hp pa R.hp R.rows R.val (by have := R.len; omega) (fun h => hne (by omega)) R.mem R.sb (by have := R.st; rw [e] at this; exact this)⟩
end
end Ts

set_option maxRecDepth 100000
set_option maxHeartbeats 4000000
namespace Ts
open PySem L2
theorem abc_uni : ∀ c ∈ List.range' 97 26, Unicode.isAlpha c = true ∧ Unicode.isLower c = true ∧ Unicode.isUpper c = false ∧ Unicode.isTitle c = false := by decide +kernel
theorem uni {c : Nat} (h : 97 ≤ c ∧ c ≤ 122) : Unicode.isAlpha c = true ∧ Unicode.isLower c = true ∧ Unicode.isUpper c = false ∧ Unicode.isTitle c = false :=
  abc_uni c (List.mem_range'_1.mpr ⟨h.1, by omega⟩)
theorem low_ascii {z : Str} (h : Low z) : Txt.isascii z = true := by
  unfold Txt.isascii
  rw [← Array.all_toList, List.all_eq_true]
  intro c hc
  have := h c hc
  simp; omega
theorem low_alpha {z : Str} (h : Low z) (h1 : 1 ≤ z.length) : Txt.isalpha z = true := by
  unfold Txt.isalpha
  rw [← Array.all_toList, Bool.and_eq_true, List.all_eq_true]
  exact ⟨decide_eq_true (by omega), fun c hc => (uni (h c hc)).1⟩
theorem low_lower {z : Str} (h : Low z) (h1 : 1 ≤ z.length) : Txt.islower z = true := by
  unfold Txt.islower
  rw [← Array.any_toList, ← Array.any_toList, Bool.and_eq_true]
  refine ⟨?_, ?_⟩
  · rw [List.any_eq_true]
    have hl : 0 < z.cps.toList.length := by rw [← len_toList]; omega
    exact ⟨z.cps.toList[0], List.getElem_mem hl, (uni (h _ (List.getElem_mem hl))).2.1⟩
  · rw [Bool.not_eq_true', List.any_eq_false]
    intro c hc
    have := uni (h c hc)
    simp [this.2.2.1, this.2.2.2]
theorem NameShape.pos {z : Str} (h : NameShape z) : 1 ≤ z.length ∧ z.length ≤ 8 := by have := h.1; omega
structure TxC (K : PySem.W.Frag) (mg : Str → Option Value) where
  top : ∃ t, mg "TOP" = some (.str "top" t)
  folder : ∃ t, mg "FOLDER" = some (.str "folder" t)
  long : ∃ t, mg "LONGEST_NAME" = some (.int 8 t)
  kindsA : Addr
  kinds : mg "KINDS" = some (.ref kindsA)
  num : DefAt K mg "is_number" s_is_number ["thing", "least"]
  kindsT : ∃ (o : Obj) (its : Array Value) (n : Nat), K.lookup kindsA = some o ∧ o.cls = .type "tuple" ∧ o.data = .seq its n ∧ its.size ≤ sizeLine ∧ Vals (kinds3.map V.str) its.toList
def spIsName : Sp := fun vs H Q _ => ∃ z, vs = [.str z] ∧ NameShape z ∧ z ≠ ("top" : Str) ∧ Q (.bl true) H
def spIsNumber : Sp := fun vs H Q _ => ∃ i n : Int, vs = [.int i, .int n] ∧ Q (.bl (decide (n ≤ i))) H
def spIsPrice : Sp := fun vs H Q _ => ∃ o, vs = [prV o] ∧ PriceOk o ∧ Q (.bl true) H
section
variable {P : Program} {w : World} {K : PySem.W.Frag} {mg : Str → Option Value} {base : Heap}
theorem sc_is_name : FnScope ["thing"] ["thing"] (defScope s_is_name) := ⟨rfl, rfl, rfl, by decide +kernel, rfl, by decide +kernel, by decide +kernel⟩
theorem ok_is_name (D : DefAt K mg "is_name" s_is_name ["thing"]) (B : TxB mg) (C : TxC K mg) : FnOk P w K mg base CX0 2 D.f D.fd ["thing"] spIsName := by
  obtain ⟨t1, gT⟩ := C.top
  obtain ⟨t2, gL⟩ := C.long
  refine D.F.ok sc_is_name (fun vs H Q E h => ?_) (fun cdv A outer s H vs Q E hr h => ?_)
  · obtain ⟨z, rfl, _⟩ := h
    rfl
  · obtain ⟨z, rfl, hz, ht, hq⟩ := h
    refine ⟨_, pss_cons (ps_if (PW.pt (pw_or (pt_not (pt_val (pe_callB call_isi (by rfl) B.isinstance (by decide +kernel) (pa_cons (pv 0) (pa_cons (pe_bltn (by rfl) B.str (by decide +kernel) (v := .ty "str") rfl) pa_nil)))))
        (pw_or (pt_cmpR op_eq (pv 0) (pe_glob (by rfl) gT (v := .str ("top" : Str)) ⟨_, rfl⟩) (nomark _)) (pw_or1 (pt_cmpR op_gt (pe_callB call_len (by rfl) B.len PySem.boot_len (pa_cons (pv 0) pa_nil)) (pe_glob (by rfl) gL (v := .int 8) ⟨_, rfl⟩) (nomark _)))))) (pss_one (ps_ret pe_bl)) pss_nil)
      (pss_one (ps_ret (pe_and (pe_m0 PySem.F.slot_str_isascii PySem.F.type_str_isascii mt_isascii (pv 0)) (pe_and (pe_m0 PySem.F.slot_str_isalpha PySem.F.type_str_isalpha mt_isalpha (pv 0)) (pe_one (pe_m0 PySem.F.slot_str_islower PySem.F.type_str_islower mt_islower (pv 0))))))), ?_⟩
    have hp := hz.pos
    refine ⟨_, rfl, _, _, _, _, true, rfl, .ty "str", .base (.str z), kit_ty (by decide +kernel), _, rfl, iteF ?_⟩
    refine ⟨_, rfl, rfl, _, rfl, ?_⟩
    rw [decide_eq_false (fun q => ht (V.str.inj q))]
    refine iteF ?_
    refine ⟨_, rfl, _, z.length, rfl, ⟨szl (by omega), rfl⟩, _, _, rfl, rfl, _, rfl, ?_⟩
    rw [decide_eq_false (by omega)]
    refine iteF ?_
    refine ⟨_, rfl, ⟨_, rfl⟩, _, rfl, rfl, trivial, _, rfl, ?_⟩
    rw [low_ascii hz.2]
    refine iteT ⟨_, rfl, ⟨_, rfl⟩, _, rfl, rfl, trivial, _, rfl, ?_⟩
    rw [low_alpha hz.2 hp.1]
    refine iteT ⟨_, rfl, ⟨_, rfl⟩, _, rfl, rfl, trivial, ?_⟩
    rw [low_lower hz.2 hp.1]
    exact hq
theorem sc_is_number : FnScope ["thing", "least"] ["thing", "least"] (defScope s_is_number) := ⟨rfl, rfl, rfl, by decide +kernel, rfl, by decide +kernel, by decide +kernel⟩
theorem ok_is_number (D : DefAt K mg "is_number" s_is_number ["thing", "least"]) (B : TxB mg) : FnOk P w K mg base CX0 1 D.f D.fd ["thing", "least"] spIsNumber := by
  refine D.F.ok sc_is_number (fun vs H Q E h => ?_) (fun cdv A outer s H vs Q E hr h => ?_)
  · obtain ⟨z, n, rfl, _⟩ := h
    rfl
  · obtain ⟨i, n, rfl, hq⟩ := h
    refine ⟨_, (pss_one (ps_ret (pe_and (pe_callB call_isi (by rfl) B.isinstance (by decide +kernel) (pa_cons (pv 0) (pa_cons (pe_bltn (by rfl) B.int (by decide +kernel) (v := .ty "int") rfl) pa_nil)))
        (pe_and (pe_not (pe_callB call_isi (by rfl) B.isinstance (by decide +kernel) (pa_cons (pv 0) (pa_cons (pe_bltn (by rfl) B.bool (by decide +kernel) (v := .ty "bool") rfl) pa_nil)))) (pe_one (pe_cmpR op_ge (pv 0) (pv 1) (nomark _))))))), ?_⟩
    refine ⟨_, rfl, _, _, _, _, true, rfl, .ty "int", .base (.int i), kit_ty (by decide +kernel), _, rfl, iteT ?_⟩
    refine ⟨_, rfl, _, _, _, _, false, rfl, .ty "bool", .base (.int i), kit_ty (by decide +kernel), _, rfl, _, rfl, iteT ?_⟩
    exact ⟨_, rfl, _, rfl, _, _, rfl, rfl, hq⟩
theorem sc_is_price : FnScope ["thing"] ["thing"] (defScope s_is_price) := ⟨rfl, rfl, rfl, by decide +kernel, rfl, by decide +kernel, by decide +kernel⟩
theorem ok_is_price (D : DefAt K mg "is_price" s_is_price ["thing"]) (B : TxB mg) (C : TxC K mg) : FnOk P w K mg base CX0 2 D.f D.fd ["thing"] spIsPrice := by
  have Gn : FnOk P w K mg base CX0 1 C.num.f C.num.fd ["thing", "least"] spIsNumber := ok_is_number C.num B
  refine D.F.ok sc_is_price (fun vs H Q E h => ?_) (fun cdv A outer s H vs Q E hr h => ?_)
  · obtain ⟨z, rfl, _⟩ := h
    rfl
  · obtain ⟨o, rfl, ho, hq⟩ := h
    refine ⟨_, (pss_one (ps_ret (pe_or (pe_cmpR op_isN (pv 0) pe_non (nomark _)) (pe_one (pe_call Gn hr rfl C.num.g C.num.F.kp C.num.b .nil pass0 (pa_cons (pv 0) (pa_cons pe_int pa_nil))))))), ?_⟩
    cases o with
    | none =>
      refine ⟨_, rfl, rfl, _, rfl, ?_⟩
      exact iteT hq
    | some i =>
      refine ⟨_, rfl, rfl, _, rfl, ?_⟩
      refine iteF ⟨_, rfl, i, 1, rfl, ?_⟩
      have hi : 1 ≤ i := ho
      rw [decide_eq_true hi]
      exact hq
end
end Ts

set_option maxRecDepth 100000
set_option maxHeartbeats 4000000
namespace Ts
open PySem L2
theorem kit_seqL {K : PySem.W.Frag} : PySem.W.kitAny K (.type "list") [.type "list", .type "tuple"] = some true := kitAny_cons (b := true) (kit_ty (by decide +kernel)) (fun e => nomatch e) fun _ => rfl
theorem kit_seqT {K : PySem.W.Frag} : PySem.W.kitAny K (.type "tuple") [.type "list", .type "tuple"] = some true := kitAny_cons (b := false) (kit_ty (by decide +kernel)) (fun _ => kitAny_cons (b := true) (kit_ty (by decide +kernel)) (fun e => nomatch e) fun _ => rfl) fun e => nomatch e
/-- a list or a tuple, made at run time -/
def Seq (H : Hp) (a : Addr) (xs : List V) : Prop := H a = some (.tup xs) ∨ H a = some (.lst xs)
theorem Seq.same {H H' : Hp} {a : Addr} {xs : List V} (h : Seq H a xs) (s : Same H H') : Seq H' a xs := h.imp (s _ _) (s _ _)
theorem Seq.ty {K : PySem.W.Frag} {H : Hp} {a : Addr} {xs : List V} (h : Seq H a xs) : ∃ t, TyX K H (.ref a) t ∧ PySem.W.kitAny K t [.type "list", .type "tuple"] = some true := by
  rcases h with h | h
  · exact ⟨_, .base (.tup h), kit_seqT⟩
  · exact ⟨_, .base (.lst h), kit_seqL⟩
theorem Seq.or {K : PySem.W.Frag} {H : Hp} {a : Addr} {xs : List V} (h : Seq H a xs) : SqL K H a xs ∨ SqT K H a xs := by
  rcases h with h | h
  · exact .inr (.inl (.inl h))
  · exact .inl (SqL.of h)
theorem sqT {K : PySem.W.Frag} {H : Hp} {a : Addr} {xs : List V} (h : H a = some (.tup xs)) : SqT K H a xs := .inl (.inl h)
/-- enumerate(x), x a list or a tuple in slot i -/
def iEnumS (i : Nat) : TI := fun σ H R => ∃ (a : Addr) (xs : List V), σ[i]? = some (some (.ref a)) ∧ Seq H a xs ∧ ∀ J, Walk J xs.length (fun H' => H' a = H a) (YPair (fun j => some (.int (j : Nat))) (fun j => xs[j]?)) → R J H
theorem pi_enumS {X : Cx} {x : Str} {px : Pos} {i : Nat} {p pos tpos : Pos} {elts : List Expr} {kk : Nat} (hg : Gl X "enumerate") (hm : X.mg "enumerate" = none) (he : PE X (.Name x px) (tVar i)) :
    PI X (.Tuple elts kk tpos) (.Call (.Name "enumerate" p) [.Name x px] [] pos) (iEnumS i) := by
  refine ⟨fun pins s σ H R I h => ?_⟩
  obtain ⟨a, xs, e1, hq, k⟩ := h
  rcases hq with hq | hq
  · exact (pi_enumT hg hm (pa_cons he pa_nil)).run pins s σ H R I ⟨_, e1, a, xs, rfl, sqT hq, k _ (walk_enumT.mono (fun H' e => sqT (e.trans hq)) fun _ _ _ _ _ _ y => y)⟩
  · exact (pi_enum hg hm (pa_cons he pa_nil)).run pins s σ H R I ⟨_, e1, a, xs, rfl, SqL.of hq, k _ (walk_enum.mono (fun H' e => SqL.of (e.trans hq)) fun _ _ _ _ _ _ y => y)⟩
/-- x itself, a list or a tuple in slot i -/
def iSeqS (i : Nat) : TI := fun σ H R => ∃ (a : Addr) (xs : List V), σ[i]? = some (some (.ref a)) ∧ Seq H a xs ∧ ∀ J, Walk J xs.length (fun H' => H' a = H a) (YAt xs) → R J H
theorem pi_seqS {X : Cx} {e tg : Expr} {i : Nat} (he : PE X e (tVar i)) : PI X tg e (iSeqS i) := by
  refine ⟨fun pins s σ H R I h => ?_⟩
  obtain ⟨a, xs, e1, hq, k⟩ := h
  rcases hq with hq | hq
  · exact (pi_tup he).run pins s σ H R I ⟨_, e1, a, rfl, ⟨_, sqT hq⟩, k _ (walk_tup.mono (fun H' e => sqT (e.trans hq)) fun _ _ _ _ _ _ y => y)⟩
  · exact (pi_list he).run pins s σ H R I ⟨_, e1, a, rfl, ⟨_, SqL.of hq⟩, k _ (walk_list.mono (fun H' e => SqL.of (e.trans hq)) fun _ _ _ _ _ _ y => y)⟩
theorem take_more {α : Type} : ∀ {l : List α} {i : Nat} {x : α}, l[i]? = some x → l.take (i + 1) = l.take i ++ [x]
  | [], i, x, h => by simp at h
  | a :: l, 0, x, h => by
    have e : a = x := Option.some.inj h
    subst e
    rfl
  | a :: l, i + 1, x, h => by
    have ih := take_more (l := l) (i := i) (x := x) (by simpa using h)
    rw [List.take_succ_cons, ih]
    rfl
theorem fold_take {rs : List Row} {i : Nat} {r : Row} (h : rs[i]? = some r) : folderNames (rs.take (i + 1)) = folderNames (rs.take i) ++ (if r.ki = ("folder" : Str) then [r.nm] else []) := by
  rw [take_more h, folders_snoc]
def spIsRow : Sp := fun vs H Q _ => ∃ (a d1 d2 : Addr) (r : Row) (kv1 kv2 : List (Key × V)), vs = [.ref a, .ref d1, .ref d2] ∧ Seq H a (rowVs r) ∧ H d1 = some (.dK kv1) ∧ valV kv1 (.inr r.nm : Key) = none ∧ H d2 = some (.dK kv2) ∧ (valV kv2 (.inr r.fo : Key)).isSome = true ∧
  NameShape r.nm ∧ r.nm ≠ ("top" : Str) ∧ r.ki ∈ kinds3 ∧ PriceOk r.pr ∧ ∀ H', Same H H' → Q (.bl true) H'
def spCheckRows (K : PySem.W.Frag) : Sp := fun vs H Q _ => ∃ (rw nm fo : Addr) (ns hs : List Str) (as : List Addr) (rs : List Row), vs = [.ref rw, .ref nm, .ref fo] ∧ Seq H rw (as.map V.ref) ∧ SeqRows H as rs ∧ SqT K H nm (ns.map V.str) ∧ SqT K H fo (hs.map V.str) ∧ rs.length ≤ 100 ∧ ns.length ≤ 100 ∧ hs.length ≤ 100 ∧
  (∀ i r, rs[i]? = some r → FitsB ns hs (rs.take i) r) ∧ ∀ H', Same H H' → Q .non H'
section
variable {P : Program} {w : World} {K : PySem.W.Frag} {mg : Str → Option Value} {base : Heap}
abbrev nIsRow : List Str := ["thing", "taken", "homes", "name", "folder", "kind", "price"]
theorem sc_is_row : FnScope nIsRow ["thing", "taken", "homes"] (defScope s_is_row) := ⟨rfl, rfl, rfl, by decide +kernel, rfl, by decide +kernel, by decide +kernel⟩
theorem ok_is_row (D : DefAt K mg "is_row" s_is_row ["thing", "taken", "homes"]) (Dn : DefAt K mg "is_name" s_is_name ["thing"]) (Dp : DefAt K mg "is_price" s_is_price ["thing"]) (B : TxB mg) (C : TxC K mg) : FnOk P w K mg base CX0 3 D.f D.fd ["thing", "taken", "homes"] spIsRow := by
  have Gn : FnOk P w K mg base CX0 2 Dn.f Dn.fd ["thing"] spIsName := ok_is_name Dn B C
  have Gp : FnOk P w K mg base CX0 2 Dp.f Dp.fd ["thing"] spIsPrice := ok_is_price Dp B C
  refine D.F.ok sc_is_row (fun vs H Q E h => ?_) (fun cdv A outer s H vs Q E hr h => ?_)
  · obtain ⟨a, d1, d2, r, kv1, kv2, rfl, _⟩ := h
    rfl
  · obtain ⟨a, d1, d2, r, kv1, kv2, rfl, ha, h1, v1, h2, v2, hn, ht, hk, hp, hq⟩ := h
    have hu := hu_of hr
    refine ⟨_, pss_cons (ps_if (PW.pt (pw_or (pt_not (pt_val (pe_callB call_isiT (by rfl) B.isinstance (by decide +kernel) (pa_cons (pv 0) (pa_cons (pe_tup (pa_cons (pe_bltn (by rfl) B.list (by decide +kernel) (v := .ty "list") rfl) (pa_cons (pe_bltn (by rfl) B.tuple (by decide +kernel) (v := .ty "tuple") rfl) pa_nil))) pa_nil)))))
        (pw_or1 (pt_cmpR op_ne (pe_callB call_len_seq (by rfl) B.len PySem.boot_len (pa_cons (pv 0) pa_nil)) pe_int (nomark _))))) (pss_one (ps_ret pe_bl)) pss_nil)
      (C8.pss_cut (ps_asg (pv 0) (pg_or (pg_tup rfl (pgs_cons (pg_name (i := 3) sc_is_row.nd rfl (.inl rfl)) (pgs_cons (pg_name (i := 4) sc_is_row.nd rfl (.inl rfl)) (pgs_cons (pg_name (i := 5) sc_is_row.nd rfl (.inl rfl)) (pgs_cons (pg_name (i := 6) sc_is_row.nd rfl (.inl rfl)) pgs_nil)))))
          (pg_unl rfl (pgs_cons (pg_name (i := 3) sc_is_row.nd rfl (.inl rfl)) (pgs_cons (pg_name (i := 4) sc_is_row.nd rfl (.inl rfl)) (pgs_cons (pg_name (i := 5) sc_is_row.nd rfl (.inl rfl)) (pgs_cons (pg_name (i := 6) sc_is_row.nd rfl (.inl rfl)) pgs_nil)))))))
      (pss_cons (ps_if (PW.pt (pw_or (pt_not (pt_val (pe_call Gn hr rfl Dn.g Dn.F.kp Dn.b .nil pass0 (pa_cons (pv 3) pa_nil)))) (pw_or1 (pt_cmp (pc_din hu (pv 3) (pv 1)))))) (pss_one (ps_ret pe_bl)) pss_nil)
      (pss_cons (ps_if (PW.pt (pw_or (pt_not (pt_val (pe_callB call_isi (by rfl) B.isinstance (by decide +kernel) (pa_cons (pv 4) (pa_cons (pe_bltn (by rfl) B.str (by decide +kernel) (v := .ty "str") rfl) pa_nil))))) (pw_or1 (pt_cmp (pc_dnotin hu (pv 4) (pv 2)))))) (pss_one (ps_ret pe_bl)) pss_nil)
      (pss_one (ps_ret (pe_and (pe_cmpR op_in_seq (pv 5) (pe_glob (by rfl) C.kinds (v := .ref C.kindsA) rfl) (by rfl)) (pe_one (pe_call Gp hr rfl Dp.g Dp.F.kp Dp.b .nil pass0 (pa_cons (pv 6) pa_nil)))))))))
      , ?_⟩
    refine ⟨_, rfl, (by show 2 ≤ sizeLine; decide), fun tp htp => ?_⟩
    have s1 : Same H (upd H tp (.tup [.ty "list", .ty "tuple"])) := Same.new htp
    obtain ⟨t, ty, kk⟩ := (ha.same s1).ty (K := K)
    refine ⟨_, tp, _, t, _, true, rfl, upd_same, .cons (.ty "list") (.cons (.ty "tuple") .nil), ty, kk, _, rfl, iteF ?_⟩
    refine ⟨_, rfl, a, _, rfl, (ha.same s1).or, rfl, _, rfl, ?_⟩
    refine iteF ?_
    have un : SqT K (upd H tp (.tup [.ty "list", .ty "tuple"])) a (rowVs r) ∨ SqL K (upd H tp (.tup [.ty "list", .ty "tuple"])) a (rowVs r) := (ha.same s1).or.symm
    refine ⟨fun σ' H' => σ' = [some (.ref a), some (.ref d1), some (.ref d2), some (.str r.nm), some (.str r.fo), some (.str r.ki), some (prV r.pr)] ∧ H' = upd H tp (.tup [.ty "list", .ty "tuple"]), ?_, ?_⟩
    · refine ⟨_, rfl, ?_⟩
      rcases un with un | un
      · exact .inl ⟨a, _, rfl, un, rfl, _, _, rfl, _, _, rfl, _, _, rfl, _, _, rfl, rfl, rfl, rfl⟩
      · exact .inr ⟨a, _, rfl, un, rfl, _, _, rfl, _, _, rfl, _, _, rfl, _, _, rfl, rfl, rfl, rfl⟩
    rintro σ' H' ⟨rfl, rfl⟩
    refine ⟨_, rfl, r.nm, rfl, hn, ht, _, rfl, iteF ?_⟩
    refine ⟨_, rfl, _, rfl, d1, _, rfl, DGet.k (k := Sum.inr r.nm) (s1 _ _ h1), _, rfl, ?_⟩
    rw [v1]
    refine iteF ?_
    refine ⟨_, rfl, _, _, _, _, true, rfl, .ty "str", .base (.str r.fo), kit_ty (by decide +kernel), _, rfl, iteF ?_⟩
    refine ⟨_, rfl, _, rfl, d2, _, rfl, DGet.k (k := Sum.inr r.fo) (s1 _ _ h2), _, rfl, ?_⟩
    rw [v2]
    refine iteF ?_
    refine ⟨_, rfl, C.kindsA, _, rfl, .inr (.inr C.kindsT), rfl, flat_strs _, _, rfl, ?_⟩
    have e : (if false = true then !inV (.str r.ki) (kinds3.map V.str) else inV (.str r.ki) (kinds3.map V.str)) = true := by
      rw [if_neg Bool.false_ne_true, inV_strs]
      exact decide_eq_true hk
    rw [e]
    exact iteT ⟨_, rfl, r.pr, rfl, hp, hq _ s1⟩
abbrev nCheckRows : List Str := ["rows", "names", "folders", "taken", "homes", "index", "row", "name", "folder", "kind", "price"]
theorem sc_check_rows : FnScope nCheckRows ["rows", "names", "folders"] (defScope s_check_rows) := ⟨rfl, rfl, rfl, by decide +kernel, rfl, by decide +kernel, by decide +kernel⟩
theorem ok_check_rows (D : DefAt K mg "check_rows" s_check_rows ["rows", "names", "folders"]) (Dr : DefAt K mg "is_row" s_is_row ["thing", "taken", "homes"]) (Dn : DefAt K mg "is_name" s_is_name ["thing"]) (Dp : DefAt K mg "is_price" s_is_price ["thing"]) (B : TxB mg) (C : TxC K mg) :
    FnOk P w K mg base CX0 4 D.f D.fd ["rows", "names", "folders"] (spCheckRows K) := by
  have Gr : FnOk P w K mg base CX0 3 Dr.f Dr.fd ["thing", "taken", "homes"] spIsRow := ok_is_row Dr Dn Dp B C
  obtain ⟨t1, gF⟩ := C.folder
  refine D.F.ok sc_check_rows (fun vs H Q E h => ?_) (fun cdv A outer s H vs Q E hr h => ?_)
  · obtain ⟨rw, nm, fo, ns, hs, as, rs, rfl, _⟩ := h
    rfl
  · obtain ⟨rw, nm, fo, ns, hs, as, rs, rfl, hrw, hrows, hnm, hfo, hl, hln, hlh, hfit, hq⟩ := h
    have hu := hu_of hr
    refine ⟨_, pss_cons (ps_if (pt_not (pt_val (pe_callB call_isiT (by rfl) B.isinstance (by decide +kernel) (pa_cons (pv 0) (pa_cons (pe_tup (pa_cons (pe_bltn (by rfl) B.list (by decide +kernel) (v := .ty "list") rfl) (pa_cons (pe_bltn (by rfl) B.tuple (by decide +kernel) (v := .ty "tuple") rfl) pa_nil))) pa_nil))))) (pss_one ps_never) pss_nil)
      (pss_cons (ps_setDc (i := 3) (own := [("name", 7)]) (g := gName 7) (tt := tYes) rfl sc_check_rows.nd rfl rfl (swd_true rfl rfl rfl (by decide +kernel)) (pi_tup (pv 1)) (blkOk_by (N := nCheckRows) (sc := defScope s_check_rows) (by decide +kernel))
        (fun _ _ _ _ _ => pg_name (i := 7) sc_check_rows.nd rfl (Or.inl rfl)) (fun _ _ _ _ _ => pts_nil) (fun _ _ _ _ _ => pv 7) (fun _ _ _ _ _ => pe_bl))
      (pss_cons (ps_setDc (i := 4) (own := [("folder", 8)]) (g := gName 8) (tt := tYes) rfl sc_check_rows.nd rfl rfl (swd_true rfl rfl rfl (by decide +kernel)) (pi_tup (pv 2)) (blkOk_by (N := nCheckRows) (sc := defScope s_check_rows) (by decide +kernel))
        (fun _ _ _ _ _ => pg_name (i := 8) sc_check_rows.nd rfl (Or.inl rfl)) (fun _ _ _ _ _ => pts_nil) (fun _ _ _ _ _ => pv 8) (fun _ _ _ _ _ => pe_bl))
      (pss_one (ps_for PassesOwn.never rfl (pi_enumS (by rfl) B.enumerate (pv 0)) (pg_tup rfl (pgs_cons (pg_name (i := 5) sc_check_rows.nd rfl (.inl rfl)) (pgs_cons (pg_name (i := 6) sc_check_rows.nd rfl (.inl rfl)) pgs_nil)))
        (pss_cons (ps_if (pt_not (pt_val (pe_call Gr hr rfl Dr.g Dr.F.kp Dr.b .nil pass0 (pa_cons (pv 6) (pa_cons (pv 3) (pa_cons (pv 4) pa_nil)))))) (pss_one ps_never) pss_nil)
        (C8.pss_cut (ps_asg (pv 6) (pg_or (pg_tup rfl (pgs_cons (pg_name (i := 7) sc_check_rows.nd rfl (.inl rfl)) (pgs_cons (pg_name (i := 8) sc_check_rows.nd rfl (.inl rfl)) (pgs_cons (pg_name (i := 9) sc_check_rows.nd rfl (.inl rfl)) (pgs_cons (pg_name (i := 10) sc_check_rows.nd rfl (.inl rfl)) pgs_nil)))))
          (pg_unl rfl (pgs_cons (pg_name (i := 7) sc_check_rows.nd rfl (.inl rfl)) (pgs_cons (pg_name (i := 8) sc_check_rows.nd rfl (.inl rfl)) (pgs_cons (pg_name (i := 9) sc_check_rows.nd rfl (.inl rfl)) (pgs_cons (pg_name (i := 10) sc_check_rows.nd rfl (.inl rfl)) pgs_nil)))))))
        (pss_cons (ps_dput hu (pv 3) (pv 7) pe_bl rfl)
        (pss_one (ps_if (pt_cmpR op_eq (pv 9) (pe_glob (by rfl) gF (v := .str ("folder" : Str)) ⟨_, rfl⟩) (nomark _)) (pss_one (ps_dput hu (pv 4) (pv 7) pe_bl rfl)) pss_nil)))))))))
      , ?_⟩
    refine ⟨_, rfl, (by show 2 ≤ sizeLine; decide), fun tp htp => ?_⟩
    have s1 : Same H (upd H tp (.tup [.ty "list", .ty "tuple"])) := Same.new htp
    obtain ⟨t, ty, kk⟩ := (hrw.same s1).ty (K := K)
    refine ⟨_, tp, _, t, _, true, rfl, upd_same, .cons (.ty "list") (.cons (.ty "tuple") .nil), ty, kk, _, rfl, iteF ?_⟩
    generalize upd H tp (.tup [.ty "list", .ty "tuple"]) = H1 at s1 ty
    have dict : ∀ (l : List Str) (td : Addr) (H1 H' : Hp) (i : Nat) (x : V), (l.map V.str)[i]? = some x → MemD H' td (l.take i) → ∃ (z : Str) (kv : List (Key × V)), x = .str z ∧ l[i]? = some z ∧ H' td = some (.dK kv) ∧ (∀ z : Str, (valV kv (.inr z : Key)).isSome = decide (z ∈ l.take i)) ∧ kv.length ≤ (l.take i).length := by
      intro l td H1 H' i x hx m
      rw [List.getElem?_map] at hx
      obtain ⟨z, hz, rfl⟩ := Option.map_eq_some_iff.mp hx
      obtain ⟨kv, e1, e2, e3⟩ := m.ex
      exact ⟨z, kv, rfl, hz, e1, e2, e3⟩
    refine ⟨_, rfl, nm, rfl, ⟨_, hnm.ext s1⟩, fun td htd => ?_⟩
    refine dc_tup (K := K) (a := nm) (xs := ns.map V.str) (fun i H' => Same H1 H' ∧ MemD H' td (ns.take i)) ⟨Same.new htd, [], upd_same, fun z => rfl, Nat.le_refl _⟩ (fun i H' _ m => hnm.ext (s1.trans m.1)) ?_ ?_
    · rintro i x H' hx ⟨sm, m⟩
      obtain ⟨z, kv, rfl, hz, e1, e2, e3⟩ := dict ns td H1 H' i x hx m
      refine ⟨rfl, tYes_if ⟨_, rfl, kv, .inr z, rfl, e1, small1000 (by rw [List.length_take] at e3; omega), fun b o e => ?_, ?_⟩⟩
      · rw [upd_ne (fun q => by rw [q, htd] at e; cases e)]
        exact sm b o e
      · rw [take_more hz]
        exact MemD.put e2 e3 z _
    · rintro H2 ⟨sm, m⟩
      rw [List.length_map, List.take_length] at m
      have s2 := s1.trans sm
      refine ⟨_, rfl, fo, rfl, ⟨_, hfo.ext s2⟩, fun hd hhd => ?_⟩
      have nth : td ≠ hd := by obtain ⟨kv, e1, _⟩ := m.ex; exact ne_of_none e1 hhd
      refine dc_tup (K := K) (a := fo) (xs := hs.map V.str) (fun i H' => Same H2 H' ∧ MemD H' hd (hs.take i)) ⟨Same.new hhd, [], upd_same, fun z => rfl, Nat.le_refl _⟩ (fun i H' _ m => hfo.ext (s2.trans m.1)) ?_ ?_
      · rintro i x H' hx ⟨sm, m⟩
        obtain ⟨z, kv, rfl, hz, e1, e2, e3⟩ := dict hs hd H2 H' i x hx m
        refine ⟨rfl, tYes_if ⟨_, rfl, kv, .inr z, rfl, e1, small1000 (by rw [List.length_take] at e3; omega), fun b o e => ?_, ?_⟩⟩
        · rw [upd_ne (fun q => by rw [q, hhd] at e; cases e)]
          exact sm b o e
        · rw [take_more hz]
          exact MemD.put e2 e3 z _
      · rintro H3 ⟨sm3, m3⟩
        rw [List.length_map, List.take_length] at m3
        have s3 := s2.trans sm3
        have mt : MemD H3 td ns := by
          obtain ⟨kv, e1, e⟩ := m.ex
          exact ⟨kv, sm3 _ _ e1, e⟩
        have ftd : H td = none := s1.free htd
        have fhd : H hd = none := s2.free hhd
        refine ⟨rw, _, rfl, hrw.same s3, fun J W => ?_⟩
        refine for_it W (fun i σ H' => ∃ (v5 v6 v7 v8 v9 v10 : Option V), σ = [some (.ref rw), some (.ref nm), some (.ref fo), some (.ref td), some (.ref hd), v5, v6, v7, v8, v9, v10] ∧ Same H H' ∧ H' rw = H3 rw ∧ MemD H' td (ns ++ (rs.take i).map (·.nm)) ∧ MemD H' hd (hs ++ folderNames (rs.take i))) ⟨none, none, none, none, none, none, rfl, s3, rfl, by simpa using mt, by simpa [folderNames] using m3⟩ (fun i σ H' _ ⟨_, _, _, _, _, _, _, _, e, _⟩ => e) ?_ ?_
        · rintro i x σ H4 H5 hi ⟨v5, v6, v7, v8, v9, v10, rfl, s4, e4, mt, mh⟩ ⟨T, xi, xr, rfl, hT, rfl, exi, exr⟩
          rw [List.length_map] at hi
          have exr' : (as.map V.ref)[i]? = some xr := exr
          rw [List.getElem?_map] at exr'
          obtain ⟨ra, hra, rfl⟩ := Option.map_eq_some_iff.mp exr'
          obtain ⟨r, hr'⟩ : ∃ r, rs[i]? = some r := ⟨rs[i]'(by rw [← hrows.len]; exact hi), List.getElem?_eq_getElem _⟩
          have fit := hfit i r hr'
          obtain rfl := Option.some.inj exi
          have s5 : Same H (upd H4 T (.tup [.int (i : Nat), .ref ra])) := s4.trans (Same.new hT)
          have rr : Seq (upd H4 T (.tup [.int (i : Nat), .ref ra])) ra (rowVs r) := Seq.same (hrows.at_ i ra r hra hr') s5
          obtain ⟨kt, et, pt, lt⟩ := mt.ex
          obtain ⟨kh, eh, ph, lh⟩ := mh.ex
          have nt : td ≠ T := ne_of_none et hT
          have nh : hd ≠ T := ne_of_none eh hT
          have i100 : i < 100 := by rw [← hrows.len] at hl; omega
          refine ⟨T, _, rfl, sqT upd_same, rfl, _, _, rfl, _, _, rfl, rfl, ?_⟩
          refine ⟨_, rfl, _, rfl, _, rfl, ra, td, hd, r, kt, kh, rfl, rr, by rw [upd_ne nt]; exact et, ?_, by rw [upd_ne nh]; exact eh, ?_, fit.shape, fit.top, fit.kind, fit.price, fun H6 s6 => ?_⟩
          · have q := pt r.nm
            rw [decide_eq_false fit.new] at q
            simpa using q
          · rw [ph r.fo]
            exact decide_eq_true fit.home
          refine ⟨_, rfl, iteF ?_⟩
          refine ⟨fun σ' H' => σ' = [some (.ref rw), some (.ref nm), some (.ref fo), some (.ref td), some (.ref hd), some (.int (i : Nat)), some (.ref ra), some (.str r.nm), some (.str r.fo), some (.str r.ki), some (prV r.pr)] ∧ H' = H6, ?_, ?_⟩
          · refine ⟨_, rfl, ?_⟩
            rcases rr.same s6 with un | un
            · exact .inl ⟨ra, _, rfl, sqT un, rfl, _, _, rfl, _, _, rfl, _, _, rfl, _, _, rfl, rfl, rfl, rfl⟩
            · exact .inr ⟨ra, _, rfl, SqL.of un, rfl, _, _, rfl, _, _, rfl, _, _, rfl, _, _, rfl, rfl, rfl, rfl⟩
          rintro σ' H' ⟨rfl, rfl⟩
          have et6 : H' td = some (.dK kt) := s6 _ _ (by rw [upd_ne nt]; exact et)
          have eh6 : H' hd = some (.dK kh) := s6 _ _ (by rw [upd_ne nh]; exact eh)
          have lt' : kt.length ≤ 300 := by
            rw [List.length_append, List.length_map, List.length_take] at lt; omega
          have lh' : kh.length ≤ 300 := by
            have := folders_le (rs.take i)
            rw [List.length_take] at this
            rw [List.length_append] at lh; omega
          refine ⟨_, rfl, _, rfl, td, _, rfl, DPut.k (k := Sum.inr r.nm) et6 (small1000 (by omega)), ?_⟩
          have s7 : Same H (upd H' td (.dK (putK kt (.inr r.nm) (.bl true)))) := fun b o e => by
            rw [upd_ne (fun q => by rw [q, ftd] at e; cases e)]
            exact s6 _ _ (s5 b o e)
          have mt7 : ns ++ (rs.take (i + 1)).map (·.nm) = ns ++ (rs.take i).map (·.nm) ++ [r.nm] := by rw [take_more hr', List.map_append, List.append_assoc]; rfl
          have mT : MemD (upd H' td (.dK (putK kt (.inr r.nm) (.bl true)))) td (ns ++ (rs.take (i + 1)).map (·.nm)) := by rw [mt7]; exact MemD.put pt lt _ _
          have rw4 : H4 rw = some (.tup (as.map V.ref)) ∨ H4 rw = some (.lst (as.map V.ref)) := hrw.same s4
          have keep : ∀ {b : Addr} {o : HO}, H4 b = some o → b ≠ td → (upd H' td (.dK (putK kt (.inr r.nm) (.bl true)))) b = some o := fun {b o} e nb => by
            rw [upd_ne nb]
            exact s6 _ _ (by rw [upd_ne (ne_of_none e hT)]; exact e)
          have ert : rw ≠ td := fun q => by rcases rw4 with z | z <;> (rw [q, et] at z; cases z)
          have erh : rw ≠ hd := fun q => by rcases rw4 with z | z <;> (rw [q, eh] at z; cases z)
          have erw : (upd H' td (.dK (putK kt (.inr r.nm) (.bl true)))) rw = H3 rw := by
            rw [← e4]
            rcases rw4 with z | z <;> (rw [z]; exact keep z ert)
          refine ⟨_, rfl, rfl, _, rfl, ?_⟩
          refine ite2 (fun hk => ?_) (fun hk => ?_)
          · have hk' : r.ki = ("folder" : Str) := V.str.inj (of_decide_eq_true hk)
            refine ⟨_, rfl, _, rfl, hd, _, rfl, DPut.k (k := Sum.inr r.nm) (Eq.trans (upd_ne nth.symm) eh6) (small1000 (by omega)), ?_⟩
            refine ⟨_, _, _, _, _, _, rfl, fun b o e => ?_, ?_, mT.same (upd_ne nth), ?_⟩
            · rw [upd_ne (fun q => by rw [q, fhd] at e; cases e)]
              exact s7 b o e
            · rw [upd_ne erh]; exact erw
            · rw [fold_take hr', if_pos hk', ← List.append_assoc]
              exact MemD.put ph lh _ _
          · have hk' : ¬ r.ki = ("folder" : Str) := fun q => hk (decide_eq_true (by rw [q]))
            refine ⟨_, _, _, _, _, _, rfl, s7, erw, mT, ?_⟩
            rw [fold_take hr', if_neg hk', List.append_nil]
            exact ⟨kh, Eq.trans (upd_ne nth.symm) eh6, ph, lh⟩
        · rintro σ H4 ⟨v5, v6, v7, v8, v9, v10, rfl, s4, _⟩
          exact hq _ s4
end
end Ts

set_option maxRecDepth 100000
set_option maxHeartbeats 4000000
namespace Ts
open PySem L2
/-! ### a tree as it stands -/
theorem qf_ : ¬ (("quads" : Str) = "folders") := by decide +kernel
theorem qk_ : ¬ (("quads" : Str) = "kinds") := by decide +kernel
theorem qp_ : ¬ (("quads" : Str) = "prices") := by decide +kernel
theorem fk_ : ¬ (("folders" : Str) = "kinds") := by decide +kernel
theorem fp_ : ¬ (("folders" : Str) = "prices") := by decide +kernel
theorem kp_ : ¬ (("kinds" : Str) = "prices") := by decide +kernel
def tf (q f k p : Addr) : List (Str × V) := putF "prices" (.ref p) (putF "kinds" (.ref k) (putF "folders" (.ref f) (putF "quads" (.ref q) [])))
theorem tf_q (q f k p : Addr) : (tf q f k p).lookup ("quads" : Str) = some (.ref q) := by
  unfold tf
  rw [lookup_putF, if_neg qp_, lookup_putF, if_neg qk_, lookup_putF, if_neg qf_, lookup_putF, if_pos rfl]
theorem tf_f (q f k p : Addr) : (tf q f k p).lookup ("folders" : Str) = some (.ref f) := by
  unfold tf
  rw [lookup_putF, if_neg fp_, lookup_putF, if_neg fk_, lookup_putF, if_pos rfl]
theorem tf_k (q f k p : Addr) : (tf q f k p).lookup ("kinds" : Str) = some (.ref k) := by
  unfold tf
  rw [lookup_putF, if_neg kp_, lookup_putF, if_pos rfl]
theorem tf_p (q f k p : Addr) : (tf q f k p).lookup ("prices" : Str) = some (.ref p) := by
  unfold tf
  rw [lookup_putF, if_pos rfl]
theorem tf_no (q f k p : Addr) {m : Str} (h1 : ¬ m = "quads") (h2 : ¬ m = "folders") (h3 : ¬ m = "kinds") (h4 : ¬ m = "prices") : (tf q f k p).lookup m = none := by
  unfold tf
  rw [lookup_putF, if_neg h4, lookup_putF, if_neg h3, lookup_putF, if_neg h2, lookup_putF, if_neg h1]
  rfl
theorem putF_len (n : Str) (v : V) : ∀ l : List (Str × V), (putF n v l).length ≤ l.length + 1
  | [] => Nat.le_refl _
  | p :: r => by
    have ih := putF_len n v r
    show (if p.1 = n then (p.1, v) :: r else p :: putF n v r).length ≤ _
    split
    · exact Nat.le_succ _
    · rw [List.length_cons, List.length_cons]; omega
def kvF (g : Row → V) (l : List Row) : List (Key × V) := l.map fun r => (.inr r.nm, g r)
theorem valV_kvF (g : Row → V) (z : Str) : ∀ l : List Row, valV (kvF g l) (.inr z : Key) = (l.find? fun r => decide (r.nm = z)).map g
  | [] => rfl
  | r :: l => by
    have ih := valV_kvF g z l
    by_cases e : r.nm = z
    · show valV ((.inr r.nm, g r) :: kvF g l) (.inr z : Key) = _
      rw [valV_pos (by rw [e]), List.find?_cons_of_pos (by simpa using e)]
      rfl
    · show valV ((.inr r.nm, g r) :: kvF g l) (.inr z : Key) = _
      rw [valV_neg (fun q => e (Sum.inr.inj q)), List.find?_cons_of_neg (by simpa using e)]
      exact ih
theorem find_none {l : List Row} {z : Str} (h : z ∉ l.map (·.nm)) : (l.find? fun r => decide (r.nm = z)) = none := by
  rw [List.find?_eq_none]
  intro r hr
  simp only [decide_eq_true_eq]
  exact fun q => h (List.mem_map.mpr ⟨r, hr, q⟩)
theorem kvF_more {g : Row → V} {rs : List Row} {i : Nat} {r : Row} (h : rs[i]? = some r) (hn : r.nm ∉ (rs.take i).map (·.nm)) : putK (kvF g (rs.take i)) (.inr r.nm) (g r) = kvF g (rs.take (i + 1)) := by
  rw [putK_new _ (by rw [valV_kvF, find_none hn]; rfl), take_more h]
  unfold kvF
  rw [List.map_append]
  rfl
structure TreeAt (C : Addr) (H : Hp) (t : Addr) (rs : List Row) : Prop where
  ex : ∃ (dx q f k p : Addr) (qs : List Addr), H t = some (.ins C dx (tf q f k p)) ∧ H q = some (.tup (qs.map V.ref)) ∧ RowsAt H qs rs ∧ H f = some (.dK (kvF (fun r => .str r.fo) rs)) ∧ H k = some (.dK (kvF (fun r => .str r.ki) rs)) ∧ H p = some (.dK (kvF (fun r => prV r.pr) rs))
  val : Valid rs
  len : rs.length ≤ 100
theorem TreeAt.same {C : Addr} {H H' : Hp} {t : Addr} {rs : List Row} (h : TreeAt C H t rs) (s : Same H H') : TreeAt C H' t rs := by
  obtain ⟨dx, q, f, k, p, qs, h1, h2, h3, h4, h5, h6⟩ := h.ex
  exact ⟨⟨dx, q, f, k, p, qs, s _ _ h1, s _ _ h2, h3.same s, s _ _ h4, s _ _ h5, s _ _ h6⟩, h.val, h.len⟩
structure TxT (K : PySem.W.Frag) (mg : Str → Option Value) (C : Addr) : Prop where
  cl : Cls K C
  nq : NoAttr K C "quads"
  nf : NoAttr K C "folders"
  nk : NoAttr K C "kinds"
  np : NoAttr K C "prices"
  g : mg "Tree" = some (.ref C)
def rTupOf (K : PySem.W.Frag) : List V → Hp → VK → Prop := fun xs H Q => ∃ p ys, xs = [V.ref p] ∧ ((SqL K H p ys ∧ ∀ l, H l = none → Q (V.ref l) (upd H l (.tup ys))) ∨ (SqT K H p ys ∧ Q (V.ref p) H))
def spTreeInit (C : Addr) : Sp := fun vs H Q _ => ∃ (t dx rw : Addr) (as : List Addr) (rs : List Row), vs = [.ref t, .ref rw] ∧ H t = some (.ins C dx []) ∧ Seq H rw (as.map V.ref) ∧ SeqRows H as rs ∧ rs.length ≤ 100 ∧ Valid rs ∧
  ∀ H', SB t H H' → TreeAt C H' t rs → Q .non H'
section
variable {P : Program} {w : World} {K : PySem.W.Frag} {mg : Str → Option Value} {base : Heap} {C : Addr}
abbrev nTreeInit : List Str := ["self", "rows", "row", "name", "folder", "kind", "price"]
theorem sc_Tree_init : FnScope nTreeInit ["self", "rows"] (defScope s_Tree_init) := ⟨rfl, rfl, rfl, by decide +kernel, rfl, by decide +kernel, by decide +kernel⟩
theorem ok_Tree_init {f : Addr} {fd : FuncData} (F : Fun K "__init__" "Tree.__init__" s_Tree_init f fd) (Dc : DefAt K mg "check_rows" s_check_rows ["rows", "names", "folders"]) (Gc : FnOk P w K mg base CX0 4 Dc.f Dc.fd ["rows", "names", "folders"] (spCheckRows K)) (B : TxB mg) (TC : TxC K mg) (T : TxT K mg C) :
    FnOk P w K mg base CX0 5 f fd ["self", "rows"] (spTreeInit C) := by
  obtain ⟨t1, gT⟩ := TC.top
  refine F.ok sc_Tree_init (fun vs H Q E h => ?_) (fun cdv A outer s H vs Q E hr h => ?_)
  · obtain ⟨t, dx, rw, as, rs, rfl, _⟩ := h
    rfl
  · obtain ⟨t, dx, rw, as, rs, rfl, ht, hrw, hrows, hl, hv, hq⟩ := h
    refine ⟨_, pss_cons (ps_expr (pe_call Gc hr rfl Dc.g Dc.F.kp Dc.b .nil pass0 (pa_cons (pv 1) (pa_cons (pe_tup pa_nil) (pa_cons (pe_tup (pa_cons (pe_glob (by rfl) gT (v := .str ("top" : Str)) ⟨_, rfl⟩) pa_nil)) pa_nil)))))
      (pss_cons (ps_fld (pv 0) (pe_callTy call_tuple_of (by rfl) B.tuple (by decide +kernel) (pa_cons (pe_lc (own := [("row", 2)]) (g := gName 2) (tt := tYes) (te := tCB (rTupOf K) (tCons (tVar 2) tNil)) rfl sc_Tree_init.nd (pi_seqS (i := 1) (pv 1)) (blkOk_by (N := nTreeInit) (sc := defScope s_Tree_init) (by decide +kernel))
          (fun _ _ _ _ _ => pg_name (i := 2) sc_Tree_init.nd rfl (Or.inl rfl)) (fun _ _ _ _ _ => pts_nil) (fun _ _ _ _ _ => by exact pe_callTy (T := "tuple") call_tuple_of (by rfl) B.tuple (by decide +kernel) (pa_cons (pv 2) pa_nil))) pa_nil)) rfl)
      (pss_cons (ps_fld (pv 0) (pe_dc (own := [("name", 3), ("folder", 4), ("kind", 5), ("price", 6)]) (g := gTup K 4 (gCons (gName 3) (gCons (gName 4) (gCons (gName 5) (gCons (gName 6) gNil))))) (tt := tYes) rfl sc_Tree_init.nd (pi_tup (pe_fld (pv 0) rfl)) (blkOk_by (N := nTreeInit) (sc := defScope s_Tree_init) (by decide +kernel))
          (fun _ _ _ _ _ => by exact pg_tup rfl (pgs_cons (pg_name (i := 3) sc_Tree_init.nd rfl (.inl rfl)) (pgs_cons (pg_name (i := 4) sc_Tree_init.nd rfl (.inl rfl)) (pgs_cons (pg_name (i := 5) sc_Tree_init.nd rfl (.inl rfl)) (pgs_cons (pg_name (i := 6) sc_Tree_init.nd rfl (.inl rfl)) pgs_nil))))) (fun _ _ _ _ _ => pts_nil) (fun _ _ _ _ _ => pv 3) (fun _ _ _ _ _ => pv 4)) rfl)
      (pss_cons (ps_fld (pv 0) (pe_dc (own := [("name", 3), ("folder", 4), ("kind", 5), ("price", 6)]) (g := gTup K 4 (gCons (gName 3) (gCons (gName 4) (gCons (gName 5) (gCons (gName 6) gNil))))) (tt := tYes) rfl sc_Tree_init.nd (pi_tup (pe_fld (pv 0) rfl)) (blkOk_by (N := nTreeInit) (sc := defScope s_Tree_init) (by decide +kernel))
          (fun _ _ _ _ _ => by exact pg_tup rfl (pgs_cons (pg_name (i := 3) sc_Tree_init.nd rfl (.inl rfl)) (pgs_cons (pg_name (i := 4) sc_Tree_init.nd rfl (.inl rfl)) (pgs_cons (pg_name (i := 5) sc_Tree_init.nd rfl (.inl rfl)) (pgs_cons (pg_name (i := 6) sc_Tree_init.nd rfl (.inl rfl)) pgs_nil))))) (fun _ _ _ _ _ => pts_nil) (fun _ _ _ _ _ => pv 3) (fun _ _ _ _ _ => pv 5)) rfl)
      (pss_one (ps_fld (pv 0) (pe_dc (own := [("name", 3), ("folder", 4), ("kind", 5), ("price", 6)]) (g := gTup K 4 (gCons (gName 3) (gCons (gName 4) (gCons (gName 5) (gCons (gName 6) gNil))))) (tt := tYes) rfl sc_Tree_init.nd (pi_tup (pe_fld (pv 0) rfl)) (blkOk_by (N := nTreeInit) (sc := defScope s_Tree_init) (by decide +kernel))
          (fun _ _ _ _ _ => by exact pg_tup rfl (pgs_cons (pg_name (i := 3) sc_Tree_init.nd rfl (.inl rfl)) (pgs_cons (pg_name (i := 4) sc_Tree_init.nd rfl (.inl rfl)) (pgs_cons (pg_name (i := 5) sc_Tree_init.nd rfl (.inl rfl)) (pgs_cons (pg_name (i := 6) sc_Tree_init.nd rfl (.inl rfl)) pgs_nil))))) (fun _ _ _ _ _ => pts_nil) (fun _ _ _ _ _ => pv 3) (fun _ _ _ _ _ => pv 6)) rfl))))), ?_⟩
    refine ⟨_, rfl, Nat.zero_le _, fun u1 hu1 => ⟨(by show 1 ≤ sizeLine; decide), fun u2 hu2 => ?_⟩⟩
    have s0 : Same H (upd (upd H u1 (.tup [])) u2 (.tup [V.str ("top" : Str)])) := (Same.new hu1).trans (Same.new hu2)
    have n12 : u1 ≠ u2 := fun q => by rw [← q, upd_same] at hu2; cases hu2
    refine ⟨rw, u1, u2, [], [("top" : Str)], as, rs, rfl, hrw.same s0, hrows.same s0, sqT (by rw [upd_ne n12]; exact upd_same), sqT upd_same, hl, Nat.zero_le _, (by decide), fun i r h => (hv i r h).b, fun H1 s1 => ?_⟩
    have s01 := s0.trans s1
    have hq1 := hrw.same s01
    refine ⟨rw, _, rfl, hq1, fun J W => fun D hD => ?_⟩
    refine lc_it W (fun i H' => ∃ qs : List Addr, Same H1 H' ∧ RowsAt H' qs (rs.take i) ∧ H' D = some (.lst (qs.map V.ref))) ⟨[], Same.new hD, RowsAt.nil, upd_same⟩ (fun i H' _ ⟨_, sm, _, _⟩ => ?_) ?_ ?_
    · rcases hq1 with z | z <;> rw [z] <;> exact sm _ _ z
    · rintro i x H2 H2' hi ⟨qs, sm, rq, hD2⟩ ⟨rfl, hx⟩
      rw [List.length_map] at hi
      rw [List.getElem?_map] at hx
      obtain ⟨ra, hra, rfl⟩ := Option.map_eq_some_iff.mp hx
      obtain ⟨r, hr'⟩ : ∃ r, rs[i]? = some r := ⟨rs[i]'(by rw [← hrows.len]; exact hi), List.getElem?_eq_getElem _⟩
      have rr : Seq H2' ra (rowVs r) := Seq.same (hrows.at_ i ra r hra hr') (s01.trans sm)
      have sz : (qs.map V.ref).length < sizeLine := small1000 (by rw [List.length_map, rq.len, List.length_take]; omega)
      have fin : ∀ (l : Addr) (H3 : Hp), H3 l = some (.tup (rowVs r)) → Same H2' H3 → ∃ qs' : List Addr, Same H1 (upd H3 D (.lst (qs.map V.ref ++ [V.ref l]))) ∧ RowsAt (upd H3 D (.lst (qs.map V.ref ++ [V.ref l]))) qs' (rs.take (i + 1)) ∧ (upd H3 D (.lst (qs.map V.ref ++ [V.ref l]))) D = some (.lst (qs'.map V.ref)) := by
        intro l H3 hl3 s3
        have kt : ∀ {b : Addr} {xs : List V}, H3 b = some (.tup xs) → (upd H3 D (.lst (qs.map V.ref ++ [V.ref l]))) b = some (.tup xs) := fun {b xs} h => by
          rw [upd_ne (fun q => by rw [q, s3 _ _ hD2] at h; cases h)]
          exact h
        refine ⟨qs ++ [l], fun b o e => ?_, ?_, ?_⟩
        · rw [upd_ne (fun q => by rw [q, hD] at e; cases e)]
          exact s3 _ _ (sm _ _ e)
        · rw [take_more hr']
          exact RowsAt.snoc ⟨rq.len, fun j b q hb hq' => kt (s3 _ _ (rq.at_ j b q hb hq'))⟩ (kt hl3)
        · rw [upd_same, List.map_append]; rfl
      refine ⟨rfl, tYes_if ⟨_, rfl, ra, rowVs r, rfl, ?_⟩⟩
      rcases rr with z | z
      · exact .inr ⟨sqT z, qs.map V.ref, hD2, sz, fin ra _ z (Same.refl _)⟩
      · exact .inl ⟨SqL.of z, fun l hl' => ⟨qs.map V.ref, (Same.new hl') _ _ hD2, sz, fin l _ upd_same (Same.new hl')⟩⟩
    · rintro H2 ⟨qs, sm, rq, hD2⟩
      rw [List.length_map, hrows.len, List.take_length] at rq
      refine ⟨D, _, rfl, .inl ⟨SqL.of hD2, fun q hq' => ?_⟩⟩
      have fresh_t : ∀ {b : Addr} {o : HO}, H t = some o → H2 t = some o := fun {b o} e => sm _ _ (s01 _ _ e)
      have ht2 : H2 t = some (.ins C dx []) := sm _ _ (s01 _ _ ht)
      have tq : t ≠ q := ne_of_none ht2 hq'
      refine ⟨_, rfl, t, C, dx, _, rfl, Eq.trans (upd_ne tq) ht2, T.cl, T.nq, (by show 0 < 1000; decide), ?_⟩
      obtain ⟨aH, aE⟩ : ∃ Hx, Hx = upd (upd H2 q (.tup (qs.map V.ref))) t (.ins C dx (putF "quads" (.ref q) [])) := ⟨_, rfl⟩
      have at_ : aH t = some (.ins C dx (putF "quads" (.ref q) [])) := by rw [aE]; exact upd_same
      have aq : aH q = some (.tup (qs.map V.ref)) := by rw [aE, upd_ne tq.symm]; exact upd_same
      have keepA : ∀ b o, b ≠ t → H2 b = some o → aH b = some o := fun b o nb e => by rw [aE, upd_ne nb, upd_ne (ne_of_none e hq')]; exact e
      have nt : ∀ {b : Addr} {xs : List V}, H2 b = some (.tup xs) → b ≠ t := fun {b xs} e y => by rw [y, ht2] at e; cases e
      have ar : RowsAt aH qs rs := ⟨rq.len, fun j b r hb hr => keepA _ _ (nt (rq.at_ j b r hb hr)) (rq.at_ j b r hb hr)⟩
      have asb : SB t H aH := fun b o nb e => keepA b o nb (sm b o (s01 b o e))
      rw [← aE]
      clear aE keepA

      refine ⟨_, rfl, t, C, dx, _, _, rfl, at_, T.cl, T.nq, (by rw [lookup_putF, if_pos rfl]), q, rfl, ⟨_, sqT aq⟩, fun DF hDF => ?_⟩
      refine dc_tup (K := K) (a := q) (xs := qs.map V.ref) (fun i H' => Same aH H' ∧ H' DF = some (.dK (kvF (fun r => V.str r.fo) (rs.take i)))) ⟨Same.new hDF, upd_same⟩ (fun i H' _ m => sqT (m.1 _ _ aq)) ?_ ?_
      · rintro i x H' hx ⟨sm, hDi⟩
        rw [List.getElem?_map] at hx
        obtain ⟨qa, hqa, rfl⟩ := Option.map_eq_some_iff.mp hx
        obtain ⟨r, hr'⟩ : ∃ r, rs[i]? = some r := ⟨rs[i]'(by rw [← rq.len]; exact (List.getElem?_eq_some_iff.mp hqa).1), List.getElem?_eq_getElem _⟩
        have e := sm _ _ (ar.at_ i qa r hqa hr')
        refine ⟨qa, _, rfl, sqT e, rfl, _, _, rfl, _, _, rfl, _, _, rfl, _, _, rfl, rfl, rfl, tYes_if ⟨_, rfl, _, rfl, _, .inr r.nm, rfl, hDi, small1000 (by unfold kvF; rw [List.length_map, List.length_take]; omega), fun b o e => ?_, ?_⟩⟩
        · rw [upd_ne (fun y => by rw [y, hDF] at e; cases e)]
          exact sm b o e
        · rw [upd_same]
          exact congrArg (fun l => some (HO.dK l)) (kvF_more (g := (fun r => V.str r.fo)) hr' (hv i r hr').new)
      rintro H5 ⟨sm, hDD⟩
      rw [List.length_map, rq.len, List.take_length] at hDD
      refine ⟨_, rfl, t, C, dx, _, rfl, sm _ _ at_, T.cl, T.nf, ?_, ?_⟩
      · exact Nat.lt_of_le_of_lt (putF_len _ _ _) (by decide)
      obtain ⟨cH, cE⟩ : ∃ Hx, Hx = upd H5 t (.ins C dx (putF "folders" (.ref DF) (putF "quads" (.ref q) []))) := ⟨_, rfl⟩
      have ct : cH t = some (.ins C dx (putF "folders" (.ref DF) (putF "quads" (.ref q) []))) := by rw [cE]; exact upd_same
      have keepX : ∀ b o, b ≠ t → aH b = some o → cH b = some o := fun b o nb e => by rw [cE, upd_ne nb]; exact sm b o e
      have cq : cH q = some (.tup (qs.map V.ref)) := keepX _ _ tq.symm aq
      have cr : RowsAt cH qs rs := ⟨rq.len, fun j b r hb hr => keepX _ _ (nt (rq.at_ j b r hb hr)) (ar.at_ j b r hb hr)⟩
      have csb : SB t H cH := fun b o nb e => keepX b o nb (asb b o nb e)
      have nDF : DF ≠ t := fun y => by rw [y, at_] at hDF; cases hDF
      have cF : cH DF = some (.dK (kvF (fun r => V.str r.fo) rs)) := by rw [cE, upd_ne nDF]; exact hDD
      rw [← cE]
      clear cE keepX sm hDD H5

      refine ⟨_, rfl, t, C, dx, _, _, rfl, ct, T.cl, T.nq, (by rw [lookup_putF, if_neg qf_, lookup_putF, if_pos rfl]), q, rfl, ⟨_, sqT cq⟩, fun DK hDK => ?_⟩
      refine dc_tup (K := K) (a := q) (xs := qs.map V.ref) (fun i H' => Same cH H' ∧ H' DK = some (.dK (kvF (fun r => V.str r.ki) (rs.take i)))) ⟨Same.new hDK, upd_same⟩ (fun i H' _ m => sqT (m.1 _ _ cq)) ?_ ?_
      · rintro i x H' hx ⟨sm, hDi⟩
        rw [List.getElem?_map] at hx
        obtain ⟨qa, hqa, rfl⟩ := Option.map_eq_some_iff.mp hx
        obtain ⟨r, hr'⟩ : ∃ r, rs[i]? = some r := ⟨rs[i]'(by rw [← rq.len]; exact (List.getElem?_eq_some_iff.mp hqa).1), List.getElem?_eq_getElem _⟩
        have e := sm _ _ (cr.at_ i qa r hqa hr')
        refine ⟨qa, _, rfl, sqT e, rfl, _, _, rfl, _, _, rfl, _, _, rfl, _, _, rfl, rfl, rfl, tYes_if ⟨_, rfl, _, rfl, _, .inr r.nm, rfl, hDi, small1000 (by unfold kvF; rw [List.length_map, List.length_take]; omega), fun b o e => ?_, ?_⟩⟩
        · rw [upd_ne (fun y => by rw [y, hDK] at e; cases e)]
          exact sm b o e
        · rw [upd_same]
          exact congrArg (fun l => some (HO.dK l)) (kvF_more (g := (fun r => V.str r.ki)) hr' (hv i r hr').new)
      rintro H5 ⟨sm, hDD⟩
      rw [List.length_map, rq.len, List.take_length] at hDD
      refine ⟨_, rfl, t, C, dx, _, rfl, sm _ _ ct, T.cl, T.nk, ?_, ?_⟩
      · exact Nat.lt_of_le_of_lt (Nat.le_trans (putF_len _ _ _) (Nat.succ_le_succ (putF_len _ _ _))) (by decide)
      obtain ⟨dH, dE⟩ : ∃ Hx, Hx = upd H5 t (.ins C dx (putF "kinds" (.ref DK) (putF "folders" (.ref DF) (putF "quads" (.ref q) [])))) := ⟨_, rfl⟩
      have dt : dH t = some (.ins C dx (putF "kinds" (.ref DK) (putF "folders" (.ref DF) (putF "quads" (.ref q) [])))) := by rw [dE]; exact upd_same
      have keepX : ∀ b o, b ≠ t → cH b = some o → dH b = some o := fun b o nb e => by rw [dE, upd_ne nb]; exact sm b o e
      have dq : dH q = some (.tup (qs.map V.ref)) := keepX _ _ tq.symm cq
      have dr : RowsAt dH qs rs := ⟨rq.len, fun j b r hb hr => keepX _ _ (nt (rq.at_ j b r hb hr)) (cr.at_ j b r hb hr)⟩
      have dsb : SB t H dH := fun b o nb e => keepX b o nb (csb b o nb e)
      have nDK : DK ≠ t := fun y => by rw [y, ct] at hDK; cases hDK
      have dK : dH DK = some (.dK (kvF (fun r => V.str r.ki) rs)) := by rw [dE, upd_ne nDK]; exact hDD
      have dF : dH DF = some (.dK (kvF (fun r => V.str r.fo) rs)) := keepX _ _ nDF cF
      rw [← dE]
      clear dE keepX sm hDD H5

      refine ⟨_, rfl, t, C, dx, _, _, rfl, dt, T.cl, T.nq, (by rw [lookup_putF, if_neg qk_, lookup_putF, if_neg qf_, lookup_putF, if_pos rfl]), q, rfl, ⟨_, sqT dq⟩, fun DP hDP => ?_⟩
      refine dc_tup (K := K) (a := q) (xs := qs.map V.ref) (fun i H' => Same dH H' ∧ H' DP = some (.dK (kvF (fun r => prV r.pr) (rs.take i)))) ⟨Same.new hDP, upd_same⟩ (fun i H' _ m => sqT (m.1 _ _ dq)) ?_ ?_
      · rintro i x H' hx ⟨sm, hDi⟩
        rw [List.getElem?_map] at hx
        obtain ⟨qa, hqa, rfl⟩ := Option.map_eq_some_iff.mp hx
        obtain ⟨r, hr'⟩ : ∃ r, rs[i]? = some r := ⟨rs[i]'(by rw [← rq.len]; exact (List.getElem?_eq_some_iff.mp hqa).1), List.getElem?_eq_getElem _⟩
        have e := sm _ _ (dr.at_ i qa r hqa hr')
        refine ⟨qa, _, rfl, sqT e, rfl, _, _, rfl, _, _, rfl, _, _, rfl, _, _, rfl, rfl, rfl, tYes_if ⟨_, rfl, _, rfl, _, .inr r.nm, rfl, hDi, small1000 (by unfold kvF; rw [List.length_map, List.length_take]; omega), fun b o e => ?_, ?_⟩⟩
        · rw [upd_ne (fun y => by rw [y, hDP] at e; cases e)]
          exact sm b o e
        · rw [upd_same]
          exact congrArg (fun l => some (HO.dK l)) (kvF_more (g := (fun r => prV r.pr)) hr' (hv i r hr').new)
      rintro H5 ⟨sm, hDD⟩
      rw [List.length_map, rq.len, List.take_length] at hDD
      refine ⟨_, rfl, t, C, dx, _, rfl, sm _ _ dt, T.cl, T.np, ?_, ?_⟩
      · exact Nat.lt_of_le_of_lt (Nat.le_trans (putF_len _ _ _) (Nat.succ_le_succ (Nat.le_trans (putF_len _ _ _) (Nat.succ_le_succ (putF_len _ _ _))))) (by decide)
      obtain ⟨eH, eE⟩ : ∃ Hx, Hx = upd H5 t (.ins C dx (putF "prices" (.ref DP) (putF "kinds" (.ref DK) (putF "folders" (.ref DF) (putF "quads" (.ref q) []))))) := ⟨_, rfl⟩
      have et : eH t = some (.ins C dx (putF "prices" (.ref DP) (putF "kinds" (.ref DK) (putF "folders" (.ref DF) (putF "quads" (.ref q) []))))) := by rw [eE]; exact upd_same
      have keepX : ∀ b o, b ≠ t → dH b = some o → eH b = some o := fun b o nb e => by rw [eE, upd_ne nb]; exact sm b o e
      have eq : eH q = some (.tup (qs.map V.ref)) := keepX _ _ tq.symm dq
      have er : RowsAt eH qs rs := ⟨rq.len, fun j b r hb hr => keepX _ _ (nt (rq.at_ j b r hb hr)) (dr.at_ j b r hb hr)⟩
      have esb : SB t H eH := fun b o nb e => keepX b o nb (dsb b o nb e)
      have nDP : DP ≠ t := fun y => by rw [y, dt] at hDP; cases hDP
      have eP : eH DP = some (.dK (kvF (fun r => prV r.pr) rs)) := by rw [eE, upd_ne nDP]; exact hDD
      have eF : eH DF = some (.dK (kvF (fun r => V.str r.fo) rs)) := keepX _ _ nDF dF
      have eK : eH DK = some (.dK (kvF (fun r => V.str r.ki) rs)) := keepX _ _ nDK dK
      rw [← eE]
      clear eE keepX sm hDD H5
      exact hq eH esb ⟨⟨dx, q, DF, DK, DP, qs, et, eq, er, eF, eK, eP⟩, hv, hl⟩
end
end Ts

set_option maxRecDepth 100000
set_option maxHeartbeats 4000000
namespace Ts
open PySem L2
/-! ### rows as data -/
def prD : Option Int → PyData
  | none => .none
  | some i => .int i
def rowD (r : Row) : PyData := .tuple [.str r.nm, .str r.fo, .str r.ki, prD r.pr]
theorem prD_ok {K : PySem.W.Frag} {H : Hp} (o : Option Int) : Dp K H (prV o) (prD o) := by
  cases o with
  | none => exact .non
  | some i => exact .int i
theorem row_dp {K : PySem.W.Frag} {H : Hp} {a : Addr} {r : Row} (h : H a = some (.tup (rowVs r))) : Dp K H (.ref a) (rowD r) :=
  .tup (sqT h) (.cons (.str _) (.cons (.str _) (.cons (.str _) (.cons (prD_ok _) .nil))))
theorem rows_dp {K : PySem.W.Frag} {H : Hp} : ∀ {as : List Addr} {rs : List Row}, RowsAt H as rs → DpAll K H (as.map V.ref) (rs.map rowD)
  | [], [], _ => .nil
  | [], _ :: _, h => by have := h.len; simp at this
  | _ :: _, [], h => by have := h.len; simp at this
  | a :: as, r :: rs, h => .cons (row_dp (h.at_ 0 a r rfl rfl)) (rows_dp ⟨by simpa using h.len, fun i b q hb hq => h.at_ (i + 1) b q (by simpa using hb) (by simpa using hq)⟩)
theorem str_beq (x y : Str) : (x == y) = decide (x = y) := by
  by_cases h : x = y
  · subst h; simp
  · rw [decide_eq_false h]; exact beq_eq_false_iff_ne.mpr h
theorem prD_eqv (a b : Option Int) : PyData.eqv (prD a) (prD b) = decide (a = b) := by
  cases a <;> cases b <;> simp [prD, PyData.eqv]
  rename_i i j
  by_cases h : i = j <;> simp [h]
theorem row_eqv (a b : Row) : PyData.eqv (rowD a) (rowD b) = decide (a = b) := by
  obtain ⟨n1, f1, k1, p1⟩ := a
  obtain ⟨n2, f2, k2, p2⟩ := b
  unfold rowD
  simp only [PyData.eqv, PyData.eqvAll, prD_eqv, str_beq, Bool.and_true]
  by_cases h1 : n1 = n2 <;> by_cases h2 : f1 = f2 <;> by_cases h3 : k1 = k2 <;> by_cases h4 : p1 = p2 <;> simp [h1, h2, h3, h4]
theorem rows_eqv : ∀ (a b : List Row), PyData.eqvAll (a.map rowD) (b.map rowD) = decide (a = b)
  | [], [] => by simp [PyData.eqvAll]
  | [], _ :: _ => by simp [PyData.eqvAll]
  | _ :: _, [] => by simp [PyData.eqvAll]
  | x :: a, y :: b => by
    simp only [List.map_cons, PyData.eqvAll, row_eqv, rows_eqv a b]
    by_cases h1 : x = y <;> by_cases h2 : a = b <;> simp [h1, h2]
theorem low_ok {z : Str} (h : ∀ c ∈ z.cps.toList, c ≤ 122) : PyData.strOk z = true := by
  unfold PyData.strOk
  rw [← Array.all_toList, List.all_eq_true]
  intro c hc
  have := h c hc
  exact decide_eq_true (by omega)
theorem top_ok : PyData.strOk ("top" : Str) = true := by decide +kernel
theorem kinds_ok : ∀ k ∈ kinds3, PyData.strOk k = true := by decide +kernel
structure RowOk (r : Row) : Prop where
  n : PyData.strOk r.nm = true
  f : PyData.strOk r.fo = true
  k : PyData.strOk r.ki = true
theorem rowD_lay {r : Row} (h : RowOk r) : (rowD r).canLay0 = true := by
  obtain ⟨h1, h2, h3⟩ := h
  obtain ⟨n, f, k, p⟩ := r
  cases p <;> simp_all [rowD, prD, PyData.canLay0, PyData.canLayAll0]
theorem rowD_depth (r : Row) : (rowD r).depth = 1 := by
  obtain ⟨n, f, k, p⟩ := r
  cases p <;> simp [rowD, prD, PyData.depth, PyData.depthAll]
theorem rows_lay : ∀ (rs : List Row), (∀ r ∈ rs, RowOk r) → PyData.canLayAll0 (rs.map rowD) = true
  | [], _ => by simp [PyData.canLayAll0]
  | r :: rs, h => by
    simp only [List.map_cons, PyData.canLayAll0, rowD_lay (h r (List.mem_cons_self ..)), rows_lay rs (fun q hq => h q (List.mem_cons_of_mem _ hq)), Bool.and_self]
theorem rows_depth : ∀ (rs : List Row), PyData.depthAll (rs.map rowD) ≤ 1
  | [] => by simp [PyData.depthAll]
  | r :: rs => by
    have ih := rows_depth rs
    simp only [List.map_cons, PyData.depthAll, rowD_depth]
    omega
theorem shaped_tup {rs : List Row} (h : ∀ r ∈ rs, RowOk r) : SeqAt.shaped (.tuple (rs.map rowD)) = true := by
  have q := rows_depth rs
  unfold SeqAt.shaped
  rw [Bool.and_eq_true]
  refine ⟨by simp only [PyData.canLay0]; exact rows_lay rs h, decide_eq_true ?_⟩
  simp only [PyData.depth]
  omega
theorem shaped_lst {rs : List Row} (h : ∀ r ∈ rs, RowOk r) : SeqAt.shaped (.list (rs.map rowD)) = true := by
  have q := rows_depth rs
  unfold SeqAt.shaped
  rw [Bool.and_eq_true]
  refine ⟨by simp only [PyData.canLay0]; exact rows_lay rs h, decide_eq_true ?_⟩
  simp only [PyData.depth]
  omega
theorem shaped_row {r : Row} (h : RowOk r) : SeqAt.shaped (rowD r) = true := by
  simp only [SeqAt.shaped, rowD_lay h, rowD_depth, Bool.true_and]
  decide
theorem low_sok {z : Str} (h : Low z) : PyData.strOk z = true := low_ok fun c hc => (h c hc).2
theorem Valid.ok {rs : List Row} (h : Valid rs) : ∀ r ∈ rs, RowOk r := by
  intro r hr
  obtain ⟨i, hi, rfl⟩ := List.mem_iff_getElem.mp hr
  have f := h i rs[i] (List.getElem?_eq_getElem hi)
  refine ⟨low_sok f.shape.2, ?_, kinds_ok _ f.kind⟩
  rcases f.home with e | ⟨q, hq, e, _⟩
  · rw [e]; exact top_ok
  · obtain ⟨j, hj, rfl⟩ := List.mem_iff_getElem.mp (List.mem_of_mem_take hq)
    rw [← e]
    exact low_sok (h j rs[j] (List.getElem?_eq_getElem hj)).shape.2
/-! ### promises of the methods -/
def names (rs : List Row) : List Str := rs.map (·.nm)
def rowOf (rs : List Row) (z : Str) : Option Row := rs.find? fun r => decide (r.nm = z)
theorem rowOf_some {rs : List Row} {z : Str} (h : z ∈ names rs) : ∃ r, rowOf rs z = some r ∧ r ∈ rs ∧ r.nm = z := by
  unfold rowOf
  obtain ⟨q, hq, e⟩ := List.mem_map.mp h
  cases e1 : rs.find? fun r => decide (r.nm = z) with
  | none =>
    rw [List.find?_eq_none] at e1
    exact absurd (decide_eq_true e) (e1 q hq)
  | some r => exact ⟨r, rfl, List.mem_of_find?_eq_some e1, of_decide_eq_true (List.find?_some (p := fun (r : Row) => decide (r.nm = z)) e1)⟩
def spLen (C : Addr) : Sp := fun vs H Q _ => ∃ (t : Addr) (rs : List Row), vs = [.ref t] ∧ TreeAt C H t rs ∧ Q (.int rs.length) H
def Other (K : PySem.W.Frag) (H : Hp) (x : V) (c : Value) : Prop := ∃ ty, TyX K H x ty ∧ PySem.W.kitOne K ty c = some false
def spContains (K : PySem.W.Frag) (C : Addr) : Sp := fun vs H Q _ => ∃ (t : Addr) (x : V) (rs : List Row), vs = [.ref t, x] ∧ TreeAt C H t rs ∧
  ((∃ z, x = .str z ∧ Q (.bl (decide (z ∈ names rs))) H) ∨ (Other K H x (.type "str") ∧ Q (.bl false) H))
def spEqT (K : PySem.W.Frag) (C : Addr) : Sp := fun vs H Q _ => ∃ (t : Addr) (x : V) (rs : List Row), vs = [.ref t, x] ∧ TreeAt C H t rs ∧
  ((∃ (u : Addr) (qs : List Row), x = .ref u ∧ TreeAt C H u qs ∧ Q (.bl (decide (rs = qs))) H) ∨ (Other K H x (.ref C) ∧ Q (.bl false) H))
def spRowsM (C : Addr) : Sp := fun vs H Q _ => ∃ (t : Addr) (rs : List Row), vs = [.ref t] ∧ TreeAt C H t rs ∧ ∀ p (qs : List Addr), H p = none → RowsAt H qs rs → Q (.ref p) (upd H p (.lst (qs.map V.ref)))
def spBox (C : Addr) : Sp := fun vs H Q _ => ∃ (t : Addr) (z : Str) (rs : List Row), vs = [.ref t, .str z] ∧ TreeAt C H t rs ∧ z ∈ names rs ∧ Q .non H
def spIsPlace (C : Addr) : Sp := fun vs H Q _ => ∃ (t : Addr) (z : Str) (rs : List Row), vs = [.ref t, .str z] ∧ TreeAt C H t rs ∧ Q (.bl (decide (z = ("top" : Str) ∨ z ∈ names rs))) H
def spPlace (C : Addr) : Sp := fun vs H Q _ => ∃ (t : Addr) (z : Str) (rs : List Row), vs = [.ref t, .str z] ∧ TreeAt C H t rs ∧ (z = ("top" : Str) ∨ z ∈ names rs) ∧ Q .non H
def spGet (C : Addr) (g : Row → V) : Sp := fun vs H Q _ => ∃ (t : Addr) (z : Str) (rs : List Row) (r : Row), vs = [.ref t, .str z] ∧ TreeAt C H t rs ∧ rowOf rs z = some r ∧ Q (g r) H
section
variable {P : Program} {w : World} {K : PySem.W.Frag} {mg : Str → Option Value} {base : Heap} {C : Addr}
theorem sc_Tree_len : FnScope ["self"] ["self"] (defScope s_Tree_len) := ⟨rfl, rfl, rfl, by decide +kernel, rfl, by decide +kernel, by decide +kernel⟩
theorem ok_Tree_len {f : Addr} {fd : FuncData} (F : Fun K "__len__" "Tree.__len__" s_Tree_len f fd) (B : TxB mg) (T : TxT K mg C) : FnOk P w K mg base CX0 2 f fd ["self"] (spLen C) := by
  refine F.ok sc_Tree_len (fun vs H Q E h => ?_) (fun cdv A outer s H vs Q E hr h => ?_)
  · obtain ⟨t, rs, rfl, _⟩ := h
    rfl
  · obtain ⟨t, rs, rfl, ht, hq⟩ := h
    obtain ⟨dx, q, f, k, p, qs, h1, h2, h3, h4, h5, h6⟩ := ht.ex
    refine ⟨_, pss_one (ps_ret (pe_callB call_len_seq (by rfl) B.len PySem.boot_len (pa_cons (pe_fld (pv 0) rfl) pa_nil))), ?_⟩
    refine ⟨_, rfl, t, C, dx, _, _, rfl, h1, T.cl, T.nq, tf_q _ _ _ _, q, _, rfl, .inr (sqT h2), ?_⟩
    rw [List.length_map, h3.len]
    exact hq
theorem sc_Tree_contains : FnScope ["self", "x"] ["self", "x"] (defScope s_Tree_contains) := ⟨rfl, rfl, rfl, by decide +kernel, rfl, by decide +kernel, by decide +kernel⟩
theorem ok_Tree_contains {f : Addr} {fd : FuncData} (F : Fun K "__contains__" "Tree.__contains__" s_Tree_contains f fd) (B : TxB mg) (T : TxT K mg C) : FnOk P w K mg base CX0 2 f fd ["self", "x"] (spContains K C) := by
  refine F.ok sc_Tree_contains (fun vs H Q E h => ?_) (fun cdv A outer s H vs Q E hr h => ?_)
  · obtain ⟨t, x, rs, rfl, _⟩ := h
    rfl
  · obtain ⟨t, x, rs, rfl, ht, h⟩ := h
    have hu := hu_of hr
    obtain ⟨dx, q, f, k, p, qs, h1, h2, h3, h4, h5, h6⟩ := ht.ex
    refine ⟨_, pss_one (ps_ret (pe_and (pe_callB call_isi (by rfl) B.isinstance (by decide +kernel) (pa_cons (pv 1) (pa_cons (pe_bltn (by rfl) B.str (by decide +kernel) (v := .ty "str") rfl) pa_nil))) (pe_one (pe_cmp (pc_din hu (pv 1) (pe_fld (pv 0) rfl)) rfl)))), ?_⟩
    rcases h with ⟨z, rfl, hq⟩ | ⟨⟨ty, hty, hk⟩, hq⟩
    · refine ⟨_, rfl, _, _, _, _, true, rfl, .ty "str", .base (.str z), kit_ty (by decide +kernel), _, rfl, iteT ?_⟩
      refine ⟨_, rfl, _, rfl, t, C, dx, _, _, rfl, h1, T.cl, T.nk, tf_k _ _ _ _, k, _, rfl, DGet.k (k := Sum.inr z) h5, ?_⟩
      rw [valV_kvF]
      have e : ((rs.find? fun r => decide (r.nm = z)).map fun r => V.str r.ki).isSome = decide (z ∈ names rs) := by
        by_cases hz : z ∈ names rs
        · obtain ⟨r, e1, _⟩ := rowOf_some hz
          unfold rowOf at e1
          rw [e1, decide_eq_true hz]; rfl
        · rw [find_none hz, decide_eq_false hz]; rfl
      rw [e]
      exact hq
    · exact ⟨_, rfl, _, _, _, _, false, rfl, .ty "str", hty, hk, _, rfl, iteF hq⟩
theorem sc_Tree_eq : FnScope ["self", "other"] ["self", "other"] (defScope s_Tree_eq) := ⟨rfl, rfl, rfl, by decide +kernel, rfl, by decide +kernel, by decide +kernel⟩
theorem ok_Tree_eq {f : Addr} {fd : FuncData} (F : Fun K "__eq__" "Tree.__eq__" s_Tree_eq f fd) (B : TxB mg) (T : TxT K mg C) (I : C8.InsC K C) : FnOk P w K mg base CX0 2 f fd ["self", "other"] (spEqT K C) := by
  refine F.ok sc_Tree_eq (fun vs H Q E h => ?_) (fun cdv A outer s H vs Q E hr h => ?_)
  · obtain ⟨t, x, rs, rfl, _⟩ := h
    rfl
  · obtain ⟨t, x, rs, rfl, ht, h⟩ := h
    obtain ⟨dx, q, f, k, p, qs, h1, h2, h3, h4, h5, h6⟩ := ht.ex
    refine ⟨_, pss_one (ps_ret (pe_and (pe_callB call_isi (by rfl) B.isinstance (by decide +kernel) (pa_cons (pv 1) (pa_cons (pe_glob (by rfl) T.g (v := .ref C) rfl) pa_nil))) (pe_one (pe_cmpR (op_eqD (by have := hr.units; exact this)) (pe_fld (pv 0) rfl) (pe_fld (pv 1) rfl) (nomark _))))), ?_⟩
    rcases h with ⟨u, ys, rfl, hu, hq⟩ | ⟨⟨ty, hty, hk⟩, hq⟩
    · obtain ⟨dx', q', f', k', p', qs', g1, g2, g3, g4, g5, g6⟩ := hu.ex
      refine ⟨_, rfl, _, _, _, _, true, rfl, .own C, .base (.ins g1 I.cl I.ha I.hn I.htk I.hm), I.me, _, rfl, iteT ?_⟩
      refine ⟨_, rfl, t, C, dx, _, _, rfl, h1, T.cl, T.nq, tf_q _ _ _ _, _, rfl, u, C, dx', _, _, rfl, g1, T.cl, T.nq, tf_q _ _ _ _, _, _, .tup (sqT h2) (rows_dp h3), .tup (sqT g2) (rows_dp g3), shaped_tup ht.val.ok, shaped_tup hu.val.ok, ?_⟩
      have e : PyData.eqv (.tuple (rs.map rowD)) (.tuple (ys.map rowD)) = decide (rs = ys) := by
        simp only [PyData.eqv]
        exact rows_eqv rs ys
      rw [e]
      exact hq
    · exact ⟨_, rfl, _, _, _, _, false, rfl, .own C, hty, hk, _, rfl, iteF hq⟩
theorem sc_Tree_rows : FnScope ["self"] ["self"] (defScope s_Tree_rows) := ⟨rfl, rfl, rfl, by decide +kernel, rfl, by decide +kernel, by decide +kernel⟩
theorem ok_Tree_rows {f : Addr} {fd : FuncData} (F : Fun K "rows" "Tree.rows" s_Tree_rows f fd) (B : TxB mg) (T : TxT K mg C) : FnOk P w K mg base CX0 2 f fd ["self"] (spRowsM C) := by
  refine F.ok sc_Tree_rows (fun vs H Q E h => ?_) (fun cdv A outer s H vs Q E hr h => ?_)
  · obtain ⟨t, rs, rfl, _⟩ := h
    rfl
  · obtain ⟨t, rs, rfl, ht, hq⟩ := h
    obtain ⟨dx, q, f, k, p, qs, h1, h2, h3, h4, h5, h6⟩ := ht.ex
    refine ⟨_, pss_one (ps_ret (pe_callTy call_list_of (by rfl) B.list (by decide +kernel) (pa_cons (pe_fld (pv 0) rfl) pa_nil))), ?_⟩
    exact ⟨_, rfl, t, C, dx, _, _, rfl, h1, T.cl, T.nq, tf_q _ _ _ _, q, _, rfl, .inr (sqT h2), fun l hl => hq l qs hl h3⟩
theorem sc_check_box : FnScope ["tree", "thing"] ["tree", "thing"] (defScope s_check_box) := ⟨rfl, rfl, rfl, by decide +kernel, rfl, by decide +kernel, by decide +kernel⟩
theorem ok_check_box (D : DefAt K mg "check_box" s_check_box ["tree", "thing"]) (M : MethAt K C "__contains__" "Tree.__contains__" s_Tree_contains ["self", "x"]) (B : TxB mg) (T : TxT K mg C) : FnOk P w K mg base CX0 3 D.f D.fd ["tree", "thing"] (spBox C) := by
  have G : FnOk P w K mg base CX0 2 M.f M.fd ["self", "x"] (spContains K C) := ok_Tree_contains M.F B T
  refine D.F.ok sc_check_box (fun vs H Q E h => ?_) (fun cdv A outer s H vs Q E hr h => ?_)
  · obtain ⟨t, z, rs, rfl, _⟩ := h
    rfl
  · obtain ⟨t, z, rs, rfl, ht, hz, hq⟩ := h
    obtain ⟨dx, q, f, k, p, qs, h1, h2⟩ := ht.ex
    refine ⟨_, pss_one (ps_if (pt_cmpR (op_notinC G M.m hr M.b pass0) (pv 1) (pv 0) (by rfl)) (pss_one ps_never) pss_nil), ?_⟩
    refine ⟨_, rfl, _, rfl, t, dx, _, rfl, h1, t, _, rs, rfl, ht, .inl ⟨z, rfl, _, rfl, _, rfl, ?_⟩⟩
    rw [decide_eq_true hz]
    exact iteF hq
theorem sc_is_place : FnScope ["tree", "thing"] ["tree", "thing"] (defScope s_is_place) := ⟨rfl, rfl, rfl, by decide +kernel, rfl, by decide +kernel, by decide +kernel⟩
theorem ok_is_place (D : DefAt K mg "is_place" s_is_place ["tree", "thing"]) (M : MethAt K C "__contains__" "Tree.__contains__" s_Tree_contains ["self", "x"]) (B : TxB mg) (TC : TxC K mg) (T : TxT K mg C) : FnOk P w K mg base CX0 3 D.f D.fd ["tree", "thing"] (spIsPlace C) := by
  have G : FnOk P w K mg base CX0 2 M.f M.fd ["self", "x"] (spContains K C) := ok_Tree_contains M.F B T
  obtain ⟨t1, gT⟩ := TC.top
  refine D.F.ok sc_is_place (fun vs H Q E h => ?_) (fun cdv A outer s H vs Q E hr h => ?_)
  · obtain ⟨t, z, rs, rfl, _⟩ := h
    rfl
  · obtain ⟨t, z, rs, rfl, ht, hq⟩ := h
    obtain ⟨dx, q, f, k, p, qs, h1, h2⟩ := ht.ex
    refine ⟨_, pss_one (ps_ret (pe_or (pe_cmpR op_eq (pv 1) (pe_glob (by rfl) gT (v := .str ("top" : Str)) ⟨_, rfl⟩) (nomark _)) (pe_one (pe_cmpR (op_inC G M.m hr M.b pass0) (pv 1) (pv 0) (by rfl))))), ?_⟩
    refine ⟨_, rfl, rfl, _, rfl, ?_⟩
    have e0 : decide (V.str z = V.str ("top" : Str)) = decide (z = ("top" : Str)) := decide_eq_decide.mpr ⟨fun h => V.str.inj h, fun h => congrArg _ h⟩
    rw [e0]
    refine ite2 (fun hc => ?_) (fun hc => ?_)
    · have hc' : z = ("top" : Str) := of_decide_eq_true hc
      rw [decide_eq_true (Or.inl hc')] at hq
      exact hq
    · have hc' : ¬ z = ("top" : Str) := fun e => hc (decide_eq_true e)
      refine ⟨_, rfl, _, rfl, t, dx, _, rfl, h1, t, _, rs, rfl, ht, .inl ⟨z, rfl, _, rfl, ?_⟩⟩
      have e1 : decide (z = ("top" : Str) ∨ z ∈ names rs) = decide (z ∈ names rs) := decide_eq_decide.mpr ⟨fun h => h.resolve_left hc', Or.inr⟩
      rw [e1] at hq
      exact hq
theorem sc_check_place : FnScope ["tree", "thing"] ["tree", "thing"] (defScope s_check_place) := ⟨rfl, rfl, rfl, by decide +kernel, rfl, by decide +kernel, by decide +kernel⟩
theorem ok_check_place (D : DefAt K mg "check_place" s_check_place ["tree", "thing"]) (Db : DefAt K mg "is_place" s_is_place ["tree", "thing"]) (Gb : FnOk P w K mg base CX0 3 Db.f Db.fd ["tree", "thing"] (spIsPlace C)) : FnOk P w K mg base CX0 4 D.f D.fd ["tree", "thing"] (spPlace C) := by
  refine D.F.ok sc_check_place (fun vs H Q E h => ?_) (fun cdv A outer s H vs Q E hr h => ?_)
  · obtain ⟨t, z, rs, rfl, _⟩ := h
    rfl
  · obtain ⟨t, z, rs, rfl, ht, hz, hq⟩ := h
    refine ⟨_, pss_one (ps_if (pt_not (pt_val (pe_call Gb hr rfl Db.g Db.F.kp Db.b .nil pass0 (pa_cons (pv 0) (pa_cons (pv 1) pa_nil))))) (pss_one ps_never) pss_nil), ?_⟩
    refine ⟨_, rfl, _, rfl, t, z, rs, rfl, ht, _, rfl, ?_⟩
    rw [decide_eq_true hz]
    exact iteF hq
theorem sc_Tree_folder : FnScope ["self", "box"] ["self", "box"] (defScope s_Tree_folder) := ⟨rfl, rfl, rfl, by decide +kernel, rfl, by decide +kernel, by decide +kernel⟩
theorem ok_Tree_folder {f : Addr} {fd : FuncData} (F : Fun K "folder" "Tree.folder" s_Tree_folder f fd) (Db : DefAt K mg "check_box" s_check_box ["tree", "thing"]) (Gb : FnOk P w K mg base CX0 3 Db.f Db.fd ["tree", "thing"] (spBox C)) (T : TxT K mg C) : FnOk P w K mg base CX0 4 f fd ["self", "box"] (spGet C (fun r => V.str r.fo)) := by
  refine F.ok sc_Tree_folder (fun vs H Q E h => ?_) (fun cdv A outer s H vs Q E hr h => ?_)
  · obtain ⟨t, z, rs, r, rfl, _⟩ := h
    rfl
  · obtain ⟨t, z, rs, r, rfl, ht, hz, hq⟩ := h
    have hu := hu_of hr
    obtain ⟨dx, q, f, k, p, qs, h1, h2, h3, h4, h5, h6⟩ := ht.ex
    refine ⟨_, pss_cons (ps_expr (pe_call Gb hr rfl Db.g Db.F.kp Db.b .nil pass0 (pa_cons (pv 0) (pa_cons (pv 1) pa_nil)))) (pss_one (ps_ret (pe_dget hu (pe_fld (pv 0) rfl) (pv 1) (fun _ _ => rfl)))), ?_⟩
    have hin : z ∈ names rs := List.mem_map.mpr ⟨r, List.mem_of_find?_eq_some hz, of_decide_eq_true (List.find?_some (p := fun (r : Row) => decide (r.nm = z)) (show rs.find? (fun (r : Row) => decide (r.nm = z)) = some r from hz))⟩
    refine ⟨_, rfl, _, rfl, t, z, rs, rfl, ht, hin, _, rfl, t, C, dx, _, _, rfl, h1, T.cl, T.nf, tf_f _ _ _ _, _, rfl, f, _, rfl, ?_, hq⟩
    have e := DGet.k (k := Sum.inr z) h4
    rw [valV_kvF, show (rs.find? fun r => decide (r.nm = z)) = some r from hz] at e
    exact e
theorem sc_Tree_kind : FnScope ["self", "box"] ["self", "box"] (defScope s_Tree_kind) := ⟨rfl, rfl, rfl, by decide +kernel, rfl, by decide +kernel, by decide +kernel⟩
theorem ok_Tree_kind {f : Addr} {fd : FuncData} (F : Fun K "kind" "Tree.kind" s_Tree_kind f fd) (Db : DefAt K mg "check_box" s_check_box ["tree", "thing"]) (Gb : FnOk P w K mg base CX0 3 Db.f Db.fd ["tree", "thing"] (spBox C)) (T : TxT K mg C) : FnOk P w K mg base CX0 4 f fd ["self", "box"] (spGet C (fun r => V.str r.ki)) := by
  refine F.ok sc_Tree_kind (fun vs H Q E h => ?_) (fun cdv A outer s H vs Q E hr h => ?_)
  · obtain ⟨t, z, rs, r, rfl, _⟩ := h
    rfl
  · obtain ⟨t, z, rs, r, rfl, ht, hz, hq⟩ := h
    have hu := hu_of hr
    obtain ⟨dx, q, f, k, p, qs, h1, h2, h3, h4, h5, h6⟩ := ht.ex
    refine ⟨_, pss_cons (ps_expr (pe_call Gb hr rfl Db.g Db.F.kp Db.b .nil pass0 (pa_cons (pv 0) (pa_cons (pv 1) pa_nil)))) (pss_one (ps_ret (pe_dget hu (pe_fld (pv 0) rfl) (pv 1) (fun _ _ => rfl)))), ?_⟩
    have hin : z ∈ names rs := List.mem_map.mpr ⟨r, List.mem_of_find?_eq_some hz, of_decide_eq_true (List.find?_some (p := fun (r : Row) => decide (r.nm = z)) (show rs.find? (fun (r : Row) => decide (r.nm = z)) = some r from hz))⟩
    refine ⟨_, rfl, _, rfl, t, z, rs, rfl, ht, hin, _, rfl, t, C, dx, _, _, rfl, h1, T.cl, T.nk, tf_k _ _ _ _, _, rfl, k, _, rfl, ?_, hq⟩
    have e := DGet.k (k := Sum.inr z) h5
    rw [valV_kvF, show (rs.find? fun r => decide (r.nm = z)) = some r from hz] at e
    exact e
theorem sc_Tree_price : FnScope ["self", "box"] ["self", "box"] (defScope s_Tree_price) := ⟨rfl, rfl, rfl, by decide +kernel, rfl, by decide +kernel, by decide +kernel⟩
theorem ok_Tree_price {f : Addr} {fd : FuncData} (F : Fun K "price" "Tree.price" s_Tree_price f fd) (Db : DefAt K mg "check_box" s_check_box ["tree", "thing"]) (Gb : FnOk P w K mg base CX0 3 Db.f Db.fd ["tree", "thing"] (spBox C)) (T : TxT K mg C) : FnOk P w K mg base CX0 4 f fd ["self", "box"] (spGet C (fun r => prV r.pr)) := by
  refine F.ok sc_Tree_price (fun vs H Q E h => ?_) (fun cdv A outer s H vs Q E hr h => ?_)
  · obtain ⟨t, z, rs, r, rfl, _⟩ := h
    rfl
  · obtain ⟨t, z, rs, r, rfl, ht, hz, hq⟩ := h
    have hu := hu_of hr
    obtain ⟨dx, q, f, k, p, qs, h1, h2, h3, h4, h5, h6⟩ := ht.ex
    refine ⟨_, pss_cons (ps_expr (pe_call Gb hr rfl Db.g Db.F.kp Db.b .nil pass0 (pa_cons (pv 0) (pa_cons (pv 1) pa_nil)))) (pss_one (ps_ret (pe_dget hu (pe_fld (pv 0) rfl) (pv 1) (fun _ _ => rfl)))), ?_⟩
    have hin : z ∈ names rs := List.mem_map.mpr ⟨r, List.mem_of_find?_eq_some hz, of_decide_eq_true (List.find?_some (p := fun (r : Row) => decide (r.nm = z)) (show rs.find? (fun (r : Row) => decide (r.nm = z)) = some r from hz))⟩
    refine ⟨_, rfl, _, rfl, t, z, rs, rfl, ht, hin, _, rfl, t, C, dx, _, _, rfl, h1, T.cl, T.np, tf_p _ _ _ _, _, rfl, p, _, rfl, ?_, hq⟩
    have e := DGet.k (k := Sum.inr z) h6
    rw [valV_kvF, show (rs.find? fun r => decide (r.nm = z)) = some r from hz] at e
    exact e
end
end Ts

set_option maxRecDepth 100000
set_option maxHeartbeats 4000000
namespace Ts
open PySem L2
/-! ### ways -/
def wayR : List Row → Str → List Str
  | [], _ => []
  | r :: rest, z => if r.nm = z then wayR rest r.fo ++ [z] else wayR rest z
def wayOf (rs : List Row) (z : Str) : List Str := wayR rs.reverse z
structure FitR (rest : List Row) (r : Row) : Prop where
  top : r.nm ≠ ("top" : Str)
  new : r.nm ∉ rest.map (·.nm)
  home : r.fo = ("top" : Str) ∨ r.fo ∈ rest.map (·.nm)
def ValidR : List Row → Prop
  | [] => True
  | r :: rest => FitR rest r ∧ ValidR rest
theorem Valid.init {rs : List Row} {r : Row} (h : Valid (rs ++ [r])) : Valid rs := fun i q hq => by
  have hi : i < rs.length := (List.getElem?_eq_some_iff.mp hq).1
  have f := h i q (by rw [List.getElem?_append_left hi]; exact hq)
  rw [List.take_append_of_le_length (Nat.le_of_lt hi)] at f
  exact f
theorem Valid.last {rs : List Row} {r : Row} (h : Valid (rs ++ [r])) : Fits rs r := by
  have f := h rs.length r (by simp)
  rw [List.take_append_of_le_length (Nat.le_refl _), List.take_length] at f
  exact f
theorem validR : ∀ l : List Row, Valid l.reverse → ValidR l
  | [], _ => trivial
  | r :: l, h => by
    rw [List.reverse_cons] at h
    have f := h.last
    refine ⟨⟨f.top, by simpa using f.new, ?_⟩, validR l h.init⟩
    rcases f.home with e | ⟨q, hq, e, _⟩
    · exact .inl e
    · exact .inr (List.mem_map.mpr ⟨q, List.mem_reverse.mp hq, e⟩)
theorem wayR_mem : ∀ {l : List Row} {z x : Str}, x ∈ wayR l z → x ∈ l.map (·.nm)
  | [], _, _, h => by cases h
  | r :: l, z, x, h => by
    unfold wayR at h
    by_cases e : r.nm = z
    · rw [if_pos e] at h
      rcases List.mem_append.mp h with h | h
      · exact List.mem_cons_of_mem _ (wayR_mem h)
      · rw [List.mem_singleton.mp h, ← e]; exact List.mem_cons_self ..
    · rw [if_neg e] at h
      exact List.mem_cons_of_mem _ (wayR_mem h)
theorem wayR_out : ∀ {l : List Row} {z : Str}, z ∉ l.map (·.nm) → wayR l z = []
  | [], _, _ => rfl
  | r :: l, z, h => by
    unfold wayR
    rw [if_neg fun e => h (List.mem_map.mpr ⟨r, List.mem_cons_self .., e⟩)]
    exact wayR_out fun q => h (List.mem_cons_of_mem _ q)
theorem ValidR.home : ∀ {l : List Row} {r : Row}, ValidR l → r ∈ l → r.fo = ("top" : Str) ∨ r.fo ∈ l.map (·.nm)
  | q :: l, r, h, hr => by
    rcases List.mem_cons.mp hr with e | hr
    · subst e; exact h.1.home.imp id (List.mem_cons_of_mem _)
    · exact (h.2.home hr).imp id (List.mem_cons_of_mem _)
theorem ValidR.top : ∀ {l : List Row}, ValidR l → ("top" : Str) ∉ l.map (·.nm)
  | [], _, h => by cases h
  | r :: l, h, hm => by
    rcases List.mem_cons.mp hm with e | hm
    · exact h.1.top e.symm
    · exact h.2.top hm
theorem wayR_step : ∀ {l : List Row} {r : Row}, ValidR l → r ∈ l → wayR l r.nm = wayR l r.fo ++ [r.nm]
  | q :: l, r, h, hr => by
    rcases List.mem_cons.mp hr with e | hr'
    · subst e
      have ne : ¬ r.nm = r.fo := fun e => by
        rcases h.1.home with e2 | e2
        · exact h.1.top (e.trans e2)
        · exact h.1.new (e ▸ e2)
      show (if r.nm = r.nm then wayR l r.fo ++ [r.nm] else wayR l r.nm) = (if r.nm = r.fo then wayR l r.fo ++ [r.fo] else wayR l r.fo) ++ [r.nm]
      rw [if_pos rfl, if_neg ne]
    · have n1 : ¬ q.nm = r.nm := fun e => h.1.new (List.mem_map.mpr ⟨r, hr', e.symm⟩)
      have n2 : ¬ q.nm = r.fo := fun e => by
        rcases h.2.home hr' with e2 | e2
        · exact h.1.top (e.trans e2)
        · exact h.1.new (e ▸ e2)
      show (if q.nm = r.nm then wayR l q.fo ++ [r.nm] else wayR l r.nm) = (if q.nm = r.fo then wayR l q.fo ++ [r.fo] else wayR l r.fo) ++ [r.nm]
      rw [if_neg n1, if_neg n2]
      exact wayR_step h.2 hr'
theorem Valid.r {rs : List Row} (h : Valid rs) : ValidR rs.reverse := validR rs.reverse (by rw [List.reverse_reverse]; exact h)
theorem way_step {rs : List Row} (h : Valid rs) {r : Row} (hr : r ∈ rs) : wayOf rs r.nm = wayOf rs r.fo ++ [r.nm] := wayR_step h.r (List.mem_reverse.mpr hr)
theorem way_out {rs : List Row} {z : Str} (h : z ∉ names rs) : wayOf rs z = [] := wayR_out (by rw [List.map_reverse]; exact fun q => h (List.mem_reverse.mp q))
theorem top_not {rs : List Row} (h : Valid rs) : ("top" : Str) ∉ names rs := fun q => h.r.top (by rw [List.map_reverse]; exact List.mem_reverse.mpr q)
theorem way_top {rs : List Row} (h : Valid rs) : wayOf rs ("top" : Str) = [] := way_out (top_not h)
theorem way_mem {rs : List Row} {z x : Str} (h : x ∈ wayOf rs z) : x ∈ names rs := by
  have q := wayR_mem h
  rw [List.map_reverse] at q
  exact List.mem_reverse.mp q
theorem way_self {rs : List Row} (h : Valid rs) {z : Str} (hz : z ∈ names rs) : z ∈ wayOf rs z := by
  obtain ⟨r, hr, rfl⟩ := List.mem_map.mp hz
  rw [way_step h hr]
  simp
theorem Valid.fo {rs : List Row} (h : Valid rs) {i : Nat} {r : Row} (hr : rs[i]? = some r) : r.fo = ("top" : Str) ∨ r.fo ∈ names (rs.take i) := by
  rcases (h i r hr).home with e | ⟨q, hq, e, _⟩
  · exact .inl e
  · exact .inr (List.mem_map.mpr ⟨q, hq, e⟩)
theorem names_take {rs : List Row} {i : Nat} {z : Str} (h : z ∈ names (rs.take i)) : z ∈ names rs := by
  obtain ⟨r, hr, rfl⟩ := List.mem_map.mp h
  exact List.mem_map.mpr ⟨r, List.mem_of_mem_take hr, rfl⟩
theorem names_at {rs : List Row} {i : Nat} {z : Str} (h : z ∈ names (rs.take i)) : ∃ j r, j < i ∧ rs[j]? = some r ∧ r.nm = z := by
  obtain ⟨r, hr, rfl⟩ := List.mem_map.mp h
  obtain ⟨j, hj, e⟩ := List.mem_iff_getElem.mp hr
  rw [List.length_take] at hj
  refine ⟨j, r, by omega, ?_, rfl⟩
  rw [← e, List.getElem_take]
  exact List.getElem?_eq_getElem _
theorem way_pre {rs : List Row} (h : Valid rs) : ∀ (i : Nat) {z x : Str}, z ∈ names (rs.take i) → x ∈ wayOf rs z → x ∈ names (rs.take i) := by
  intro i
  induction i using Nat.strongRecOn with
  | _ i ih =>
    intro z x hz hx
    obtain ⟨j, r, hj, hr, rfl⟩ := names_at hz
    rw [way_step h (List.mem_of_getElem? hr)] at hx
    rcases List.mem_append.mp hx with hx | hx
    · rcases h.fo hr with e | e
      · rw [e, way_top h] at hx; cases hx
      · have q := ih j hj e hx
        obtain ⟨j2, r2, hj2, hr2, rfl⟩ := names_at q
        exact List.mem_map.mpr ⟨r2, List.mem_take_iff_getElem.mpr ⟨j2, by have := (List.getElem?_eq_some_iff.mp hr2).1; omega, (List.getElem?_eq_some_iff.mp hr2).2⟩, rfl⟩
    · rw [List.mem_singleton.mp hx]; exact hz
/-- what lies within z -/
def isIn (rs : List Row) (z : Str) (r : Row) : Bool := decide (r.nm ≠ z) && (decide (z = ("top" : Str)) || decide (z ∈ wayOf rs r.nm))
def belowL (rs : List Row) (z : Str) : List Str := (rs.filter (isIn rs z)).map (·.nm)
def insideL (rs : List Row) (z : Str) : List Str := (rs.filter fun r => decide (r.fo = z)).map (·.nm)
theorem below_in {rs : List Row} (h : Valid rs) {z : Str} (hz : z = ("top" : Str) ∨ z ∈ names rs) {i : Nat} {r : Row} (hr : rs[i]? = some r) :
    decide (r.fo ∈ z :: ((rs.take i).filter (isIn rs z)).map (·.nm)) = isIn rs z r := by
  have hrm := List.mem_of_getElem? hr
  have hfo := h.fo hr
  have f := h i r hr
  have mem : ∀ x : Str, x ∈ ((rs.take i).filter (isIn rs z)).map (·.nm) ↔ (x ∈ names (rs.take i) ∧ x ≠ z ∧ (z = ("top" : Str) ∨ z ∈ wayOf rs x)) := by
    intro x
    constructor
    · intro hx
      obtain ⟨q, hq, rfl⟩ := List.mem_map.mp hx
      obtain ⟨h1, h2⟩ := List.mem_filter.mp hq
      unfold isIn at h2
      simp at h2
      exact ⟨List.mem_map.mpr ⟨q, h1, rfl⟩, h2.1, h2.2⟩
    · rintro ⟨hx, h1, h2⟩
      obtain ⟨q, hq, rfl⟩ := List.mem_map.mp hx
      refine List.mem_map.mpr ⟨q, List.mem_filter.mpr ⟨hq, ?_⟩, rfl⟩
      unfold isIn
      simp
      exact ⟨h1, h2⟩
  by_cases e : r.nm = z
  · have e1 : isIn rs z r = false := by unfold isIn; simp [e]
    rw [e1]
    refine decide_eq_false fun hm => ?_
    rcases List.mem_cons.mp hm with q | q
    · rcases hfo with e2 | e2
      · exact f.top (e.trans (q.symm.trans e2))
      · rw [q, ← e] at e2; exact f.new e2
    · obtain ⟨q1, q2, q3⟩ := (mem _).mp q
      rcases q3 with q3 | q3
      · exact f.top (e.trans q3)
      · have := way_pre h i q1 q3
        rw [← e] at this
        exact f.new this
  · have e1 : isIn rs z r = (decide (z = ("top" : Str)) || decide (z ∈ wayOf rs r.nm)) := by unfold isIn; simp [e]
    rw [e1]
    have w : z ∈ wayOf rs r.nm ↔ z ∈ wayOf rs r.fo := by
      rw [way_step h hrm, List.mem_append, List.mem_singleton]
      exact ⟨fun q => q.resolve_right fun q => e q.symm, .inl⟩
    by_cases ht : z = ("top" : Str)
    · rw [decide_eq_true ht, Bool.true_or]
      refine decide_eq_true ?_
      rcases hfo with e2 | e2
      · rw [e2, ht]; exact List.mem_cons_self ..
      · refine List.mem_cons_of_mem _ ((mem _).mpr ⟨e2, fun q => ?_, .inl ht⟩)
        rw [q, ht] at e2
        exact top_not h (names_take e2)
    · rw [decide_eq_false ht, Bool.false_or]
      refine decide_eq_decide.mpr ?_
      rw [w]
      constructor
      · intro hm
        rcases List.mem_cons.mp hm with q | q
        · rw [q]; exact way_self h (hz.resolve_left ht)
        · exact ((mem _).mp q).2.2.resolve_left ht
      · intro hm
        by_cases q : r.fo = z
        · rw [q]; exact List.mem_cons_self ..
        · rcases hfo with e2 | e2
          · rw [e2, way_top h] at hm; cases hm
          · exact List.mem_cons_of_mem _ ((mem _).mpr ⟨e2, q, .inr hm⟩)
end Ts

set_option maxRecDepth 100000
set_option maxHeartbeats 4000000
namespace Ts
open PySem L2
def kvB (l : List Str) : List (Key × V) := l.map fun x => (.inr x, .bl true)
theorem valV_kvB (z : Str) : ∀ l : List Str, (valV (kvB l) (.inr z : Key)).isSome = decide (z ∈ l)
  | [] => by simp [kvB, valV]
  | x :: l => by
    have ih := valV_kvB z l
    show (valV ((.inr x, V.bl true) :: kvB l) (.inr z : Key)).isSome = _
    by_cases e : x = z
    · rw [valV_pos (by rw [e])]
      subst e
      simp
    · rw [valV_neg (fun q => e (Sum.inr.inj q)), ih]
      have e' : ¬ z = x := fun q => e q.symm
      simp [e']
theorem kvB_put {l : List Str} {x : Str} (h : x ∉ l) : putK (kvB l) (.inr x) (.bl true) = kvB (l ++ [x]) := by
  rw [putK_new]
  · unfold kvB; rw [List.map_append]; rfl
  · have q := valV_kvB x l
    rw [decide_eq_false h] at q
    simpa using q
def spListOf (C : Addr) (g : List Row → Str → List Str) : Sp := fun vs H Q _ => ∃ (t : Addr) (z : Str) (rs : List Row), vs = [.ref t, .str z] ∧ TreeAt C H t rs ∧ (z = ("top" : Str) ∨ z ∈ names rs) ∧
  ∀ D H', H D = none → Same H H' → H' D = some (.lst ((g rs z).map V.str)) → Q (.ref D) H'
theorem filter_take {rs : List Row} {i : Nat} {r : Row} (h : rs[i]? = some r) (p : Row → Bool) : ((rs.take (i + 1)).filter p).map (·.nm) = ((rs.take i).filter p).map (·.nm) ++ (if p r = true then [r.nm] else []) := by
  rw [take_more h, List.filter_append, List.map_append]
  by_cases e : p r = true
  · rw [if_pos e, List.filter_cons_of_pos e]; rfl
  · rw [if_neg e, List.filter_cons_of_neg e]; rfl
theorem kvF_at {g : Row → V} {rs : List Row} {i : Nat} {k : Key} {v : V} (h : (kvF g rs)[i]? = some (k, v)) : ∃ r, rs[i]? = some r ∧ k = .inr r.nm ∧ v = g r := by
  unfold kvF at h
  rw [List.getElem?_map] at h
  obtain ⟨r, e, q⟩ := Option.map_eq_some_iff.mp h
  injection q with q1 q2
  exact ⟨r, e, q1.symm, q2.symm⟩
theorem rowOf_at {rs : List Row} (h : Valid rs) {i : Nat} {r : Row} (hr : rs[i]? = some r) : rowOf rs r.nm = some r := by
  unfold rowOf
  rw [List.find?_eq_some_iff_getElem]
  have hi := (List.getElem?_eq_some_iff.mp hr).1
  refine ⟨decide_eq_true rfl, i, hi, (List.getElem?_eq_some_iff.mp hr).2, fun j hj => ?_⟩
  simp only [Bool.not_eq_true', decide_eq_false_iff_not]
  intro e
  exact (h i r hr).new (List.mem_map.mpr ⟨rs[j], List.mem_take_iff_getElem.mpr ⟨j, by omega, rfl⟩, e⟩)
section
variable {P : Program} {w : World} {K : PySem.W.Frag} {mg : Str → Option Value} {base : Heap} {C : Addr}
abbrev nBelow : List Str := ["self", "box", "within", "name"]
theorem sc_Tree_below : FnScope nBelow ["self", "box"] (defScope s_Tree_below) := ⟨rfl, rfl, rfl, by decide +kernel, rfl, by decide +kernel, by decide +kernel⟩
theorem cutV_tail (x : V) (xs : List V) : cutV (x :: xs) (some 1) none = xs := by
  unfold cutV
  rw [HT.sIx_none, show HT.sIx (x :: xs).length 0 (some 1) = 1 from by rw [show (some 1 : Option Int) = some ((1 : Nat) : Int) from rfl, HT.sIx_nat, List.length_cons]; omega]
  show (xs.take ((x :: xs).length - 1)) = xs
  rw [List.length_cons, Nat.add_sub_cancel, List.take_length]
theorem ok_Tree_below {f : Addr} {fd : FuncData} (F : Fun K "below" "Tree.below" s_Tree_below f fd) (Dp : DefAt K mg "check_place" s_check_place ["tree", "thing"]) (Gp : FnOk P w K mg base CX0 4 Dp.f Dp.fd ["tree", "thing"] (spPlace C)) (B : TxB mg) (T : TxT K mg C) : FnOk P w K mg base CX0 5 f fd ["self", "box"] (spListOf C belowL) := by
  refine F.ok sc_Tree_below (fun vs H Q E h => ?_) (fun cdv A outer s H vs Q E hr h => ?_)
  · obtain ⟨t, z, rs, rfl, _⟩ := h
    rfl
  · obtain ⟨t, z, rs, rfl, ht, hz, hq⟩ := h
    have hu := hu_of hr
    obtain ⟨dx, q, f, k, p, qs, h1, h2, h3, h4, h5, h6⟩ := ht.ex
    refine ⟨_, pss_cons (ps_expr (pe_call Gp hr rfl Dp.g Dp.F.kp Dp.b .nil pass0 (pa_cons (pv 0) (pa_cons (pv 1) pa_nil))))
      (pss_cons (ps_set (i := 2) sc_Tree_below.nd rfl (.inl rfl) (pe_disp (pps_cons (pv 1) pe_bl pps_nil) (by rfl) (by rfl) (fun z => by cases z) (by decide)))
      (pss_cons (ps_lock (ps_for PassesOwn.never rfl (pi_keys (pe_fld (pv 0) rfl)) (pg_name (i := 3) sc_Tree_below.nd rfl (.inl rfl))
        (pss_one (ps_if (pt_cmp (pc_din hu (pe_dget hu (pe_fld (pv 0) rfl) (pv 3) (fun _ _ => rfl)) (pv 2))) (pss_one (ps_dput hu (pv 2) (pv 3) pe_bl rfl)) pss_nil))))
      (pss_one (ps_ret (pe_slice sl_list (pe_callTy (call_list_dK rfl) (by rfl) B.list (by decide +kernel) (pa_cons (pv 2) pa_nil)) (po_some pe_int) po_none))))), ?_⟩
    refine ⟨_, rfl, _, rfl, t, z, rs, rfl, ht, hz, ?_⟩
    refine fun wd hwd => ⟨_, rfl, upd_same, [(.inr z, .bl true)], rfl, (by show 1 ≤ 15; decide), ?_⟩
    have tw : t ≠ wd := ne_of_none h1 hwd
    have fw : f ≠ wd := ne_of_none h4 hwd
    have tf_ : t ≠ f := ne_of h1 h4 (by intro x; cases x)
    have fw' : f ≠ wd := fw
    refine ⟨f, _, Eq.trans (upd_ne fw) (Eq.trans (upd_ne fw) h4), trivial, fun od => ?_⟩
    obtain ⟨Hl, El⟩ : ∃ Hx, Hx = upd (upd (upd H wd (.dK [])) wd (.dK (mergeK [] [(.inr z, .bl true)]))) f (.frz od (.dK (kvF (fun r => .str r.fo) rs))) := ⟨_, rfl⟩
    have l1 : Hl t = some (.ins C dx (tf q f k p)) := by rw [El, upd_ne tf_, upd_ne tw, upd_ne tw]; exact h1
    have l2 : Hl f = some (.frz od (.dK (kvF (fun r => .str r.fo) rs))) := by rw [El]; exact upd_same
    have l3 : Hl wd = some (.dK (kvB [z])) := by rw [El, upd_ne fw.symm]; exact upd_same
    have l4 : ∀ b o, b ≠ f → H b = some o → Hl b = some o := fun b o nb e => by rw [El, upd_ne nb, upd_ne (ne_of_none e hwd), upd_ne (ne_of_none e hwd)]; exact e
    have l5 : Same Hl Hl := Same.refl _
    rw [← El]
    clear El
    refine ⟨_, rfl, t, C, dx, _, _, rfl, l1, T.cl, T.nf, tf_f _ _ _ _, f, od, rfl, .inl ⟨_, l2, ?_⟩⟩
    refine for_it (walk_keys (d := f) (o := od) (kvs := kvF (fun r => .str r.fo) rs)) (fun i σ H' => ∃ v : Option V, σ = [some (.ref t), some (.str z), some (.ref wd), v] ∧ SB wd Hl H' ∧ H' wd = some (.dK (kvB (z :: ((rs.take i).filter (isIn rs z)).map (·.nm)))))
      ⟨none, rfl, SB.refl _ _, l3⟩ (fun i σ H' _ ⟨_, _, sb, _⟩ => sb _ _ fw l2) ?_ ?_
    · rintro i x σ H2 H2' hi ⟨v, rfl, sb, hw⟩ ⟨rfl, k', v', hk, rfl⟩
      obtain ⟨r, hr', rfl, rfl⟩ := kvF_at hk
      have e1 : H2' t = some (.ins C dx (tf q f k p)) := sb _ _ tw l1
      have e2 : H2' f = some (.frz od (.dK (kvF (fun r => .str r.fo) rs))) := sb _ _ fw l2
      have dg : DGet H2' f (.str r.nm) (some (.str r.fo)) := by
        have e := rowOf_at ht.val hr'
        refine .inl ⟨_, .inr r.nm, .inr ⟨od, e2⟩, rfl, ?_⟩
        rw [valV_kvF, show (rs.find? fun r' => decide (r'.nm = r.nm)) = some r from e]
        rfl
      refine ⟨_, rfl, t, C, dx, _, _, rfl, e1, T.cl, T.nf, tf_f _ _ _ _, _, rfl, f, _, rfl, dg, _, rfl, wd, _, rfl, DGet.k (k := Sum.inr r.fo) hw, _, rfl, ?_⟩
      rw [valV_kvB, below_in ht.val hz hr']
      have i100 : i < 100 := by
        have := (List.getElem?_eq_some_iff.mp hr').1
        have := ht.len
        omega
      refine ite2 (fun hc => ?_) (fun hc => ?_)
      · have nw : r.nm ∉ z :: ((rs.take i).filter (isIn rs z)).map (·.nm) := fun hm => by
          rcases List.mem_cons.mp hm with y | y
          · unfold isIn at hc
            simp [y] at hc
          · obtain ⟨q1, hq1, e⟩ := List.mem_map.mp y
            exact (ht.val i r hr').new (List.mem_map.mpr ⟨q1, (List.mem_filter.mp hq1).1, e⟩)
        refine ⟨_, rfl, _, rfl, wd, _, rfl, DPut.k (k := Sum.inr r.nm) hw (small1000 ?_), ?_⟩
        · unfold kvB
          rw [List.length_map, List.length_cons, List.length_map]
          have := List.length_filter_le (isIn rs z) (rs.take i)
          rw [List.length_take] at this
          omega
        · refine ⟨_, rfl, fun b o nb e => by rw [upd_ne nb]; exact sb b o nb e, ?_⟩
          rw [upd_same, kvB_put nw, filter_take hr', if_pos hc]
          rfl
      · refine ⟨_, rfl, sb, ?_⟩
        rw [filter_take hr', if_neg hc, List.append_nil]
        exact hw
    · rintro σ H2 ⟨v, rfl, sb, hw⟩
      have e : (kvF (fun r => V.str r.fo) rs).length = rs.length := by unfold kvF; rw [List.length_map]
      rw [e, List.take_length] at hw
      refine ⟨sb _ _ fw l2, ?_⟩
      have hw' : (upd H2 f (.dK (kvF (fun r => .str r.fo) rs))) wd = some (.dK (kvB (z :: belowL rs z))) := by rw [upd_ne fw.symm]; exact hw
      have sH : Same H (upd H2 f (.dK (kvF (fun r => .str r.fo) rs))) := fun b o eb => by
        by_cases hb : b = f
        · rw [hb, upd_same, ← h4, ← hb]; exact eb
        · rw [upd_ne hb]
          exact sb b o (ne_of_none eb hwd) (l4 b o hb eb)
      refine ⟨_, rfl, wd, _, rfl, hw', fun u hu' => ⟨_, rfl, u, _, rfl, SqL.of upd_same, fun D hD => ?_⟩⟩
      refine hq D _ ?_ ((sH.trans (Same.new hu')).trans (Same.new hD)) ?_
      · exact (sH.trans (Same.new hu')).free hD
      · have e3 : (kvB (z :: belowL rs z)).map (fun kv => kV kv.1) = V.str z :: (belowL rs z).map V.str := by
          unfold kvB
          rw [List.map_map]
          rfl
        rw [upd_same, e3, cutV_tail]
end
end Ts

set_option maxRecDepth 100000
set_option maxHeartbeats 4000000
namespace Ts
open PySem L2
/-- a list of rows, all tuples -/
structure RowsL (H : Hp) (p : Addr) (rs : List Row) : Prop where
  ex : ∃ as : List Addr, H p = some (.lst (as.map V.ref)) ∧ RowsAt H as rs
theorem RowsL.same {H H' : Hp} {p : Addr} {rs : List Row} (h : RowsL H p rs) (s : Same H H') : RowsL H' p rs := by
  obtain ⟨as, h1, h2⟩ := h.ex
  exact ⟨as, s _ _ h1, h2.same s⟩
def spWay : Sp := fun vs H Q _ => ∃ (p : Addr) (z : Str) (rs : List Row), vs = [.ref p, .str z] ∧ RowsL H p rs ∧ Valid rs ∧ rs.length ≤ 100 ∧ (z = ("top" : Str) ∨ z ∈ names rs) ∧
  ∀ D H', H D = none → Same H H' → H' D = some (.lst ((wayOf rs z).map V.str)) → Q (.ref D) H'
theorem atI0 (a b c d : V) : atI [a, b, c, d] 0 = some a := rfl
theorem atI1 (a b c d : V) : atI [a, b, c, d] 1 = some b := rfl
theorem atI2 (a b c d : V) : atI [a, b, c, d] 2 = some c := rfl
theorem atI3 (a b c d : V) : atI [a, b, c, d] 3 = some d := rfl
theorem merge_kvF (g : Row → V) {rs : List Row} (h : Valid rs) : ∀ n, n ≤ rs.length → mergeK [] (kvF g (rs.take n)) = kvF g (rs.take n) := by
  intro n
  induction n with
  | zero => intro _; rfl
  | succ n ih =>
    intro hn
    have hr : rs[n]? = some rs[n] := List.getElem?_eq_getElem (by omega)
    have e : kvF g (rs.take (n + 1)) = kvF g (rs.take n) ++ [(.inr rs[n].nm, g rs[n])] := by
      rw [take_more hr]; unfold kvF; rw [List.map_append]; rfl
    rw [e]
    unfold mergeK
    rw [List.foldl_append]
    have ih' := ih (by omega)
    unfold mergeK at ih'
    rw [ih']
    show putK (kvF g (rs.take n)) (.inr rs[n].nm) (g rs[n]) = _
    rw [kvF_more hr (h n _ hr).new, e]
theorem merge_all (g : Row → V) {rs : List Row} (h : Valid rs) : mergeK [] (kvF g rs) = kvF g rs := by
  have := merge_kvF g h rs.length (Nat.le_refl _)
  rw [List.take_length] at this
  exact this
def muWay (rs : List Row) : List (Option V) → Hp → Nat
  | _ :: some (.str z) :: _, _ => (wayOf rs z).length
  | _, _ => 0
theorem way_len {rs : List Row} {z : Str} : (wayOf rs z).length ≤ rs.length := by
  have : ∀ (l : List Row) (z : Str), (wayR l z).length ≤ l.length := by
    intro l
    induction l with
    | nil => intro z; exact Nat.le_refl _
    | cons r l ih =>
      intro z
      unfold wayR
      split
      · rw [List.length_append, List.length_singleton, List.length_cons]; have := ih r.fo; omega
      · rw [List.length_cons]; have := ih z; omega
  have q := this rs.reverse z
  rw [List.length_reverse] at q
  exact q
theorem Valid.foAll {rs : List Row} (h : Valid rs) {r : Row} (hr : r ∈ rs) : r.fo = ("top" : Str) ∨ r.fo ∈ names rs := by
  obtain ⟨i, hi, e⟩ := List.mem_iff_getElem.mp hr
  have := h.fo (i := i) (r := r) (by rw [← e]; exact List.getElem?_eq_getElem hi)
  exact this.imp id names_take
section
variable {P : Program} {w : World} {K : PySem.W.Frag} {mg : Str → Option Value} {base : Heap} {C : Addr}
abbrev nWay : List Str := ["_law_rows_here", "_law_box", "_law_folders", "_law_found", "_law_row"]
theorem sc_way : FnScope nWay ["_law_rows_here", "_law_box"] (defScope s_L_way) := ⟨rfl, rfl, rfl, by decide +kernel, rfl, by decide +kernel, by decide +kernel⟩
theorem ok_way (D : DefAt K mg "_law_way" s_L_way ["_law_rows_here", "_law_box"]) (B : TxB mg) : FnOk P w K mg base CX0 2 D.f D.fd ["_law_rows_here", "_law_box"] spWay := by
  refine D.F.ok sc_way (fun vs H Q E h => ?_) (fun cdv A outer s H vs Q E hr h => ?_)
  · obtain ⟨p, z, rs, rfl, _⟩ := h
    rfl
  · obtain ⟨p, z, rs, rfl, ⟨as, hp, hrows⟩, hv, hl, hz, hq⟩ := h
    have hu := hu_of hr
    refine ⟨_, pss_cons (ps_par (i := 2) (j := 3) rfl sc_way.nd rfl rfl (by decide) rfl rfl (pa_cons (pe_callTy (call_dictP rfl) (by rfl) B.dict (by decide +kernel) (pa_cons (pe_lc (own := [("_law_row", 4)]) (g := gName 4) (tt := tYes) (te := tTup (tCons (tOp (rIxT K) (tVar 4) (tC (.int 0))) (tCons (tOp (rIxT K) (tVar 4) (tC (.int 1))) tNil))) rfl sc_way.nd (pi_list (pv 0)) (blkOk_by (N := nWay) (sc := defScope s_L_way) (by decide +kernel))
        (fun _ _ _ _ _ => pg_name (i := 4) sc_way.nd rfl (Or.inl rfl)) (fun _ _ _ _ _ => pts_nil) (fun _ _ _ _ _ => by exact pe_tup (pa_cons (pe_ix ix_tup (pv 4) pe_int (fun _ _ => rfl)) (pa_cons (pe_ix ix_tup (pv 4) pe_int (fun _ _ => rfl)) pa_nil)))) pa_nil)) (pa_cons (pe_lst pa_nil) pa_nil)) (by rfl))
      (pss_cons (ps_while PassesOwn.never (pt_cmpR op_ne (pv 1) pe_str (nomark _))
        (pss_cons (ps_expr (pe_bm PySem.F.plainAttrs_list PySem.F.slot_list_insert PySem.F.type_list_insert mt_insert (pv 3) (pa_cons pe_int (pa_cons (pv 1) pa_nil))))
        (pss_one (ps_set (i := 1) sc_way.nd rfl (.inl rfl) (pe_dget hu (pv 2) (pv 1) (fun _ _ => rfl))))))
      (pss_one (ps_ret (pv 3)))), ?_⟩
    refine ⟨_, rfl, p, rfl, ⟨_, SqL.of hp⟩, fun Dl hDl => ?_⟩
    refine lc_list (K := K) (a := p) (xs := as.map V.ref) (fun i H' => ∃ ps : List Addr, Same H H' ∧ H' Dl = some (.lst (ps.map V.ref)) ∧ Paired (fun q (kv : Key × V) => SqT K H' q [kV kv.1, kv.2]) ps (kvF (fun r => .str r.fo) (rs.take i))) ⟨[], Same.new hDl, upd_same, .nil⟩ (fun i H' _ ⟨_, s, _⟩ => s.seq (SqL.of hp)) ?_ ?_
    · rintro i x H2 hx ⟨ps, sm, hD2, pr⟩
      rw [List.getElem?_map] at hx
      obtain ⟨ra, hra, rfl⟩ := Option.map_eq_some_iff.mp hx
      obtain ⟨r, hr'⟩ : ∃ r, rs[i]? = some r := ⟨rs[i]'(by rw [← hrows.len]; exact (List.getElem?_eq_some_iff.mp hra).1), List.getElem?_eq_getElem _⟩
      have e := sm _ _ (hrows.at_ i ra r hra hr')
      refine ⟨rfl, tYes_if ⟨_, rfl, ra, _, _, _, rfl, rfl, sqT e, atI0 _ _ _ _, _, rfl, ra, _, _, _, rfl, rfl, sqT e, atI1 _ _ _ _, (by show 2 ≤ sizeLine; decide), fun t ht => ?_⟩⟩
      have nDt : Dl ≠ t := ne_of_none hD2 ht
      have pl := pr.length
      refine ⟨ps.map V.ref, by rw [upd_ne nDt]; exact hD2, small1000 (by rw [List.length_map, pl]; unfold kvF; rw [List.length_map, List.length_take]; omega), ps ++ [t], fun b o eb => ?_, by rw [upd_same, List.map_append]; rfl, ?_⟩
      · rw [upd_ne (fun y => by rw [y, hDl] at eb; cases eb), upd_ne (ne_of_none (sm _ _ eb) ht)]
        exact sm _ _ eb
      · have ek : kvF (fun r => V.str r.fo) (rs.take (i + 1)) = kvF (fun r => V.str r.fo) (rs.take i) ++ [(.inr r.nm, .str r.fo)] := by
          rw [take_more hr']; unfold kvF; rw [List.map_append]; rfl
        rw [ek]
        have keep : ∀ {b : Addr} {xs : List V}, SqT K H2 b xs → SqT K (upd (upd H2 t (.tup [V.str r.nm, .str r.fo])) Dl (.lst (ps.map V.ref ++ [V.ref t]))) b xs := fun {b xs} h => by
          rcases h with (h | ⟨o, h⟩) | h
          · exact .inl (.inl (by rw [upd_ne (fun y => by rw [y, hD2] at h; cases h), upd_ne (ne_of_none h ht)]; exact h))
          · exact .inl (.inr ⟨o, by rw [upd_ne (fun y => by rw [y, hD2] at h; cases h), upd_ne (ne_of_none h ht)]; exact h⟩)
          · exact .inr h
        exact (pr.mono fun _ _ h => keep h).snoc (sqT (by rw [upd_ne nDt.symm]; exact upd_same))
    · rintro H2 ⟨ps, sm, hD2, pr⟩
      rw [List.length_map, hrows.len, List.take_length] at pr
      refine ⟨Dl, ps, kvF (fun r => .str r.fo) rs, rfl, SqL.of hD2, pr, fun fd hfd => ?_⟩
      rw [merge_all _ hv]
      refine ⟨Nat.zero_le _, fun fo hfo => ⟨_, _, rfl, ?_⟩⟩
      have n1 : fd ≠ fo := fun y => by rw [← y, upd_same] at hfo; cases hfo
      have s3 : Same H (upd (upd H2 fd (.dK (kvF (fun r => .str r.fo) rs))) fo (.lst [])) := (sm.trans (Same.new hfd)).trans (Same.new hfo)
      have fofree : H fo = none := (sm.trans (Same.new hfd)).free hfo
      refine while_by (fun σ H' => ∃ (z' : Str) (v : Option V) (fs : List Str), σ = [some (.ref p), some (.str z'), some (.ref fd), some (.ref fo), v] ∧ (z' = ("top" : Str) ∨ z' ∈ names rs) ∧ Same H H' ∧ H' fd = some (.dK (kvF (fun r => .str r.fo) rs)) ∧ H' fo = some (.lst (fs.map V.str)) ∧ wayOf rs z' ++ fs = wayOf rs z) (muWay rs)
        ⟨z, none, [], rfl, hz, s3, by rw [upd_ne n1]; exact upd_same, upd_same, by simp⟩ ?_ (fun σ H Q Q' hQ ⟨v, e, sc, k, e2, q⟩ => ⟨v, e, sc, k, e2, hQ _ _ q⟩)
      rintro σ H4 ⟨z', v, fs, rfl, hz', s4, hfd4, hfo4, ew⟩
      refine ⟨_, rfl, rfl, _, rfl, ?_⟩
      refine ite2 (fun hc => ?_) (fun hc => ?_)
      · have hn : z' ≠ ("top" : Str) := fun e => by rw [e] at hc; simp at hc
        have hin := hz'.resolve_left hn
        obtain ⟨r, e1, hrm, rfl⟩ := rowOf_some hin
        have ws := way_step hv hrm
        have lw := way_len (rs := rs) (z := z)
        have lf : fs.length ≤ 100 := by
          have := congrArg List.length ew
          rw [List.length_append] at this
          omega
        refine ⟨_, rfl, .inl ⟨rfl, _, SqL.of hfo4⟩, _, rfl, fo, _, 0, _, rfl, rfl, hfo4, small1000 (by rw [List.length_map]; omega), by decide, by decide, ?_⟩
        have n1' : fd ≠ fo := n1
        refine ⟨_, rfl, _, rfl, fd, .str r.fo, rfl, ?_, ?_⟩
        · have dg := DGet.k (k := Sum.inr r.nm) (show (upd H4 fo (.lst ((fs.map V.str).take (0 : Int).toNat ++ [V.str r.nm] ++ (fs.map V.str).drop (0 : Int).toNat))) fd = some (.dK (kvF (fun r => .str r.fo) rs)) from by rw [upd_ne n1']; exact hfd4)
          rw [valV_kvF, show (rs.find? fun q => decide (q.nm = r.nm)) = some r from e1] at dg
          exact dg
        · refine ⟨⟨r.fo, v, r.nm :: fs, rfl, hv.foAll hrm, fun b o e => ?_, by rw [upd_ne n1']; exact hfd4, upd_same, ?_⟩, ?_⟩
          · rw [upd_ne (fun y => by rw [y, fofree] at e; cases e)]
            exact s4 _ _ e
          · rw [← ew, ws]; simp
          · show (wayOf rs r.fo).length < (wayOf rs r.nm).length
            rw [ws]; simp
      · have ht : z' = ("top" : Str) := Classical.byContradiction fun e => hc (by
          show (!decide (V.str z' = V.str ("top" : Str))) = true
          rw [decide_eq_false (fun q => e (V.str.inj q))]; rfl)
        refine ⟨_, rfl, hq fo H4 fofree s4 ?_⟩
        rw [hfo4, ← ew, ht, way_top hv]; rfl
end
end Ts

set_option maxRecDepth 100000
set_option maxHeartbeats 4000000
namespace Ts
open PySem L2
/-! ### what changes a tree -/
theorem Valid.append {pre L : List Row} (h : Valid pre) (k : ∀ i r, L[i]? = some r → Fits (pre ++ L.take i) r) : Valid (pre ++ L) := by
  intro i r hr
  rcases Nat.lt_or_ge i pre.length with hi | hi
  · rw [List.getElem?_append_left hi] at hr
    rw [List.take_append_of_le_length (Nat.le_of_lt hi)]
    exact h i r hr
  · rw [List.getElem?_append_right hi] at hr
    have e : (pre ++ L).take i = pre ++ L.take (i - pre.length) := by
      rw [List.take_append, List.take_of_length_le hi]
    rw [e]
    exact k _ _ hr
/-- where a kept row stood -/
theorem filter_at {p : Row → Bool} : ∀ {rs : List Row} {i : Nat} {r : Row}, (rs.filter p)[i]? = some r → ∃ j, rs[j]? = some r ∧ p r = true ∧ (rs.filter p).take i = (rs.take j).filter p
  | [], _, _, h => by simp at h
  | q :: rs, i, r, h => by
    by_cases e : p q = true
    · rw [List.filter_cons_of_pos e] at h ⊢
      cases i with
      | zero =>
        have : q = r := by simpa using h
        subst this
        exact ⟨0, rfl, e, by simp⟩
      | succ i =>
        obtain ⟨j, h1, h2, h3⟩ := filter_at (rs := rs) (i := i) (r := r) (by simpa using h)
        refine ⟨j + 1, by simpa using h1, h2, ?_⟩
        rw [List.take_succ_cons, List.take_succ_cons, List.filter_cons_of_pos e, h3]
    · rw [List.filter_cons_of_neg e] at h ⊢
      obtain ⟨j, h1, h2, h3⟩ := filter_at (rs := rs) (i := i) (r := r) h
      refine ⟨j + 1, by simpa using h1, h2, ?_⟩
      rw [List.take_succ_cons, List.filter_cons_of_neg e, h3]
theorem Valid.filter {rs : List Row} {p : Row → Bool} (h : Valid rs) (hp : ∀ r ∈ rs, p r = true → ∀ q ∈ rs, q.nm = r.fo → p q = true) : Valid (rs.filter p) := by
  intro i r hr
  obtain ⟨j, h1, h2, h3⟩ := filter_at hr
  rw [h3]
  have f := h j r h1
  refine ⟨f.shape, f.top, fun hm => ?_, ?_, f.kind, f.price⟩
  · obtain ⟨q, hq, e⟩ := List.mem_map.mp hm
    exact f.new (List.mem_map.mpr ⟨q, (List.mem_filter.mp hq).1, e⟩)
  · rcases f.home with e | ⟨q, hq, e1, e2⟩
    · exact .inl e
    · exact .inr ⟨q, List.mem_filter.mpr ⟨hq, hp r (List.mem_of_getElem? h1) h2 q (List.mem_of_mem_take hq) e1⟩, e1, e2⟩
/-- what lies beneath z, z with it -/
def under (rs : List Row) (z : Str) (r : Row) : Bool := decide (z ∈ wayOf rs r.nm)
theorem under_self {rs : List Row} (h : Valid rs) {z : Str} {r : Row} (hr : r ∈ rs) (e : r.nm = z) : under rs z r = true := by
  unfold under
  rw [← e]
  exact decide_eq_true (way_self h (List.mem_map.mpr ⟨r, hr, rfl⟩))
theorem under_iff {rs : List Row} (h : Valid rs) {z : Str} (hz : z ≠ ("top" : Str)) {r : Row} (hr : r ∈ rs) : under rs z r = (decide (r.nm = z) || isIn rs z r) := by
  by_cases e : r.nm = z
  · rw [under_self h hr e, decide_eq_true e, Bool.true_or]
  · rw [decide_eq_false e, Bool.false_or]
    unfold isIn under
    rw [decide_eq_true e, decide_eq_false hz, Bool.true_and, Bool.false_or]
theorem gone_iff {rs : List Row} (h : Valid rs) {z : Str} (hz : z ≠ ("top" : Str)) {r : Row} (hr : r ∈ rs) : decide (r.nm ∈ z :: belowL rs z) = under rs z r := by
  rw [under_iff h hz hr]
  by_cases e : r.nm = z
  · rw [decide_eq_true e, Bool.true_or]
    exact decide_eq_true (by rw [e]; exact List.mem_cons_self ..)
  · rw [decide_eq_false e, Bool.false_or]
    by_cases i : isIn rs z r = true
    · rw [i]
      exact decide_eq_true (List.mem_cons_of_mem _ (List.mem_map.mpr ⟨r, List.mem_filter.mpr ⟨hr, i⟩, rfl⟩))
    · rw [Bool.not_eq_true] at i
      rw [i]
      refine decide_eq_false fun hm => ?_
      rcases List.mem_cons.mp hm with q | q
      · exact e q
      · obtain ⟨r2, h2, e2⟩ := List.mem_map.mp q
        obtain ⟨h3, h4⟩ := List.mem_filter.mp h2
        unfold isIn at h4 i
        rw [e2] at h4
        rw [h4] at i
        cases i
/-- a row whose folder lies beneath z does so, too -/
theorem under_up {rs : List Row} (h : Valid rs) {z : Str} {r q : Row} (hr : r ∈ rs) (hq : q ∈ rs) (e : q.nm = r.fo) (hu : under rs z q = true) : under rs z r = true := by
  unfold under at hu ⊢
  rw [way_step h hr, ← e]
  exact decide_eq_true (List.mem_append_left _ (of_decide_eq_true hu))
def lessL (rs : List Row) (z : Str) : List Row := rs.filter fun r => !under rs z r
theorem less_valid {rs : List Row} (h : Valid rs) (z : Str) : Valid (lessL rs z) :=
  h.filter fun r hr hp q hq e => by
    cases hu : under rs z q with
    | false => rfl
    | true => rw [under_up h hr hq e hu] at hp; cases hp
/-- the rows behind a move -/
def movedL (rs : List Row) (m : Row) (fo : Str) : List Row := lessL rs m.nm ++ ({ m with fo := fo } :: rs.filter (isIn rs m.nm))
theorem moved_valid {rs : List Row} (h : Valid rs) {m : Row} (hm : m ∈ rs) {fo : Str} (hf : fo = ("top" : Str) ∨ ∃ q ∈ rs, q.nm = fo ∧ q.ki = ("folder" : Str) ∧ under rs m.nm q = false) : Valid (movedL rs m fo) := by
  have mt : m.nm ≠ ("top" : Str) := fun e => top_not h (by rw [← e]; exact List.mem_map.mpr ⟨m, hm, rfl⟩)
  obtain ⟨k, hk, ek⟩ := List.mem_iff_getElem.mp hm
  have fm := h k m (by rw [← ek]; exact List.getElem?_eq_getElem hk)
  have v1 : Valid (lessL rs m.nm ++ [{ m with fo := fo }]) := by
    refine (less_valid h m.nm).snoc ⟨fm.shape, fm.top, fun hx => ?_, ?_, fm.kind, fm.price⟩
    · obtain ⟨q, hq, e⟩ := List.mem_map.mp hx
      obtain ⟨q1, q2⟩ := List.mem_filter.mp hq
      rw [under_self h q1 e] at q2
      cases q2
    · rcases hf with e | ⟨q, hq, e1, e2, e3⟩
      · exact .inl e
      · exact .inr ⟨q, List.mem_filter.mpr ⟨hq, by rw [e3]; rfl⟩, e1, e2⟩
  have e : movedL rs m fo = (lessL rs m.nm ++ [{ m with fo := fo }]) ++ rs.filter (isIn rs m.nm) := by unfold movedL; simp
  rw [e]
  refine v1.append fun i r hr => ?_
  obtain ⟨j, h1, h2, h3⟩ := filter_at hr
  have f := h j r h1
  have hrm := List.mem_of_getElem? h1
  have ur : under rs m.nm r = true := by rw [under_iff h mt hrm, h2, Bool.or_true]
  have nz : r.nm ≠ m.nm := fun e => by unfold isIn at h2; simp [e] at h2
  rw [h3]
  refine ⟨f.shape, f.top, fun hx => ?_, ?_, f.kind, f.price⟩
  · rw [List.map_append, List.map_append] at hx
    rcases List.mem_append.mp hx with hx | hx
    · rcases List.mem_append.mp hx with hx | hx
      · obtain ⟨q, hq, e⟩ := List.mem_map.mp hx
        obtain ⟨q1, q2⟩ := List.mem_filter.mp hq
        have : under rs m.nm q = true := by unfold under at ur ⊢; rw [e]; exact ur
        rw [this] at q2
        cases q2
      · simp at hx
        exact nz hx
    · obtain ⟨q, hq, e⟩ := List.mem_map.mp hx
      exact f.new (List.mem_map.mpr ⟨q, (List.mem_filter.mp hq).1, e⟩)
  · rcases f.home with e | ⟨q, hq, e1, e2⟩
    · exfalso
      unfold isIn at h2
      rw [decide_eq_true nz, decide_eq_false mt, Bool.true_and, Bool.false_or, way_step h hrm, e, way_top h] at h2
      simp at h2
      exact nz h2.symm
    · by_cases eq1 : q.nm = m.nm
      · have : q = m := by
          have a := rowOf_at h (i := k) (r := m) (by rw [← ek]; exact List.getElem?_eq_getElem hk)
          obtain ⟨k2, hk2, ek2⟩ := List.mem_iff_getElem.mp (List.mem_of_mem_take hq)
          have b := rowOf_at h (i := k2) (r := q) (by rw [← ek2]; exact List.getElem?_eq_getElem hk2)
          rw [eq1, a] at b
          exact (Option.some.inj b).symm
        subst this
        exact .inr ⟨{ q with fo := fo }, by simp, e1, e2⟩
      · refine .inr ⟨q, List.mem_append_right _ (List.mem_filter.mpr ⟨hq, ?_⟩), e1, e2⟩
        have hqm := List.mem_of_mem_take hq
        have : under rs m.nm q = true := by
          unfold under at ur ⊢
          rw [way_step h hrm, ← e1] at ur
          have := of_decide_eq_true ur
          rcases List.mem_append.mp this with x | x
          · exact decide_eq_true x
          · exact absurd (List.mem_singleton.mp x).symm nz
        rw [under_iff h mt hqm, decide_eq_false eq1, Bool.false_or] at this
        exact this
theorem names_inj {rs : List Row} (h : Valid rs) {q m : Row} (hq : q ∈ rs) (hm : m ∈ rs) (e : q.nm = m.nm) : q = m := by
  obtain ⟨k, hk, ek⟩ := List.mem_iff_getElem.mp hm
  obtain ⟨k2, hk2, ek2⟩ := List.mem_iff_getElem.mp hq
  have a := rowOf_at h (i := k) (r := m) (by rw [← ek]; exact List.getElem?_eq_getElem hk)
  have b := rowOf_at h (i := k2) (r := q) (by rw [← ek2]; exact List.getElem?_eq_getElem hk2)
  rw [e, a] at b
  exact (Option.some.inj b).symm
/-- of all beneath z, z stands first -/
theorem under_split {rs : List Row} (h : Valid rs) {m : Row} (hm : m ∈ rs) : rs.filter (under rs m.nm) = m :: rs.filter (isIn rs m.nm) := by
  have mt : m.nm ≠ ("top" : Str) := fun e => top_not h (by rw [← e]; exact List.mem_map.mpr ⟨m, hm, rfl⟩)
  obtain ⟨k, hk, ek⟩ := List.mem_iff_getElem.mp hm
  have hkm : rs[k]? = some m := by rw [← ek]; exact List.getElem?_eq_getElem hk
  have e0 : rs = rs.take k ++ m :: rs.drop (k + 1) := by
    rw [← ek, List.getElem_cons_drop, List.take_append_drop]
  have a1 : (rs.take k).filter (under rs m.nm) = [] := by
    rw [List.filter_eq_nil_iff]
    intro q hq hu
    have hqn : q.nm ∈ names (rs.take k) := List.mem_map.mpr ⟨q, hq, rfl⟩
    exact (h k m hkm).new (way_pre h k hqn (of_decide_eq_true hu))
  have a2 : (rs.take k).filter (isIn rs m.nm) = [] := by
    rw [List.filter_eq_nil_iff]
    intro q hq hu
    have hqr := List.mem_of_mem_take hq
    have : under rs m.nm q = true := by rw [under_iff h mt hqr, hu, Bool.or_true]
    exact (List.filter_eq_nil_iff.mp a1) q hq this
  have b1 : under rs m.nm m = true := under_self h hm rfl
  have b2 : isIn rs m.nm m = false := by unfold isIn; simp
  have c1 : (rs.drop (k + 1)).filter (under rs m.nm) = (rs.drop (k + 1)).filter (isIn rs m.nm) := by
    refine List.filter_congr fun q hq => ?_
    have hqr := List.mem_of_mem_drop hq
    rw [under_iff h mt hqr]
    have : ¬ q.nm = m.nm := fun e => by
      have e2 := names_inj h hqr hm e
      rw [e2] at hq
      obtain ⟨j, hj, ej⟩ := List.mem_iff_getElem.mp hq
      rw [List.getElem_drop] at ej
      rw [List.length_drop] at hj
      have f := h (k + 1 + j) m (by rw [← ej]; exact List.getElem?_eq_getElem _)
      exact f.new (List.mem_map.mpr ⟨m, List.mem_take_iff_getElem.mpr ⟨k, by omega, ek⟩, rfl⟩)
    rw [decide_eq_false this, Bool.false_or]
  have l : ∀ p : Row → Bool, rs.filter p = (rs.take k).filter p ++ (m :: rs.drop (k + 1)).filter p := fun p => by
    rw [← List.filter_append, ← e0]
  rw [l (under rs m.nm), l (isIn rs m.nm), a1, a2, List.filter_cons_of_pos b1, List.filter_cons_of_neg (by rw [b2]; simp), c1]
  rfl
end Ts

set_option maxRecDepth 100000
set_option maxHeartbeats 4000000
namespace Ts
open PySem L2
/-! ### what a meaning says of a box -/
/-- the default, turned as often as boxes on the way are turned -/
def turned (d : Bool) (ts : List Str) : List Str → Bool
  | [] => d
  | x :: l => turned (if x ∈ ts then !d else d) ts l
theorem turned_snoc (ts : List Str) (x : Str) : ∀ (l : List Str) (d : Bool), turned d ts (l ++ [x]) = if x ∈ ts then !(turned d ts l) else turned d ts l
  | [], d => rfl
  | y :: l, d => turned_snoc ts x l _
theorem turned_odd (ts : List Str) : ∀ (l : List Str) (d : Bool), turned d ts l = (d != decide ((l.filter fun x => decide (x ∈ ts)).length % 2 = 1))
  | [], d => by cases d <;> rfl
  | y :: l, d => by
    show turned (if y ∈ ts then !d else d) ts l = _
    rw [turned_odd ts l]
    by_cases h : y ∈ ts
    · rw [if_pos h, List.filter_cons_of_pos (by simpa using h), List.length_cons]
      rcases Nat.mod_two_eq_zero_or_one (l.filter fun x => decide (x ∈ ts)).length with e | e
      · rw [decide_eq_false (by omega), decide_eq_true (by omega)]; cases d <;> rfl
      · rw [decide_eq_true (by omega), decide_eq_false (by omega)]; cases d <;> rfl
    · rw [if_neg h, List.filter_cons_of_neg (by simpa using h)]
def valOf (rs : List Row) (d : Bool) (ts : List Str) (z : Str) : Bool := turned d ts (wayOf rs z)
theorem val_top {rs : List Row} (h : Valid rs) (d : Bool) (ts : List Str) : valOf rs d ts ("top" : Str) = d := by
  unfold valOf; rw [way_top h]; rfl
theorem val_step {rs : List Row} (h : Valid rs) (d : Bool) (ts : List Str) {r : Row} (hr : r ∈ rs) : valOf rs d ts r.nm = (valOf rs d ts r.fo != decide (r.nm ∈ ts)) := by
  unfold valOf
  rw [way_step h hr, turned_snoc]
  by_cases e : r.nm ∈ ts
  · rw [if_pos e, decide_eq_true e]; cases turned d ts (wayOf rs r.fo) <;> rfl
  · rw [if_neg e, decide_eq_false e]; cases turned d ts (wayOf rs r.fo) <;> rfl
theorem below_top {rs : List Row} (h : Valid rs) : belowL rs ("top" : Str) = names rs := by
  unfold belowL names
  have : rs.filter (isIn rs ("top" : Str)) = rs := by
    rw [List.filter_eq_self]
    intro r hr
    have : r.nm ≠ ("top" : Str) := fun e => top_not h (by rw [← e]; exact List.mem_map.mpr ⟨r, hr, rfl⟩)
    unfold isIn
    rw [decide_eq_true this, decide_eq_true rfl]; rfl
  rw [this]
/-- the values of all places, the top ahead -/
def kvM (rs : List Row) (d : Bool) (ts : List Str) (l : List Row) : List (Key × V) := (.inr ("top" : Str), .bl d) :: kvF (fun r => .bl (valOf rs d ts r.nm)) l
theorem valV_kvM {rs : List Row} (h : Valid rs) (d : Bool) (ts : List Str) {l : List Row} {z : Str} (hz : z = ("top" : Str) ∨ (z ≠ ("top" : Str) ∧ z ∈ names l)) : valV (kvM rs d ts l) (.inr z : Key) = some (.bl (valOf rs d ts z)) := by
  rcases hz with rfl | ⟨hn, hz⟩
  · show valV ((.inr ("top" : Str), .bl d) :: kvF (fun r => .bl (valOf rs d ts r.nm)) l) (.inr ("top" : Str) : Key) = _
    rw [valV_pos rfl, val_top h]
  · show valV ((.inr ("top" : Str), .bl d) :: kvF (fun r => .bl (valOf rs d ts r.nm)) l) (.inr z : Key) = _
    rw [valV_neg (fun q => hn (Sum.inr.inj q).symm), valV_kvF]
    obtain ⟨r, e, _, e2⟩ := rowOf_some hz
    rw [show (l.find? fun r => decide (r.nm = z)) = some r from e]
    show some (V.bl (valOf rs d ts r.nm)) = _
    rw [e2]
theorem kvM_more {rs : List Row} (h : Valid rs) (d : Bool) (ts : List Str) {i : Nat} {r : Row} (hr : rs[i]? = some r) : putK (kvM rs d ts (rs.take i)) (.inr r.nm) (.bl (valOf rs d ts r.nm)) = kvM rs d ts (rs.take (i + 1)) := by
  have f := h i r hr
  rw [putK_new _ (by
    show (valV ((.inr ("top" : Str), .bl d) :: kvF (fun r => .bl (valOf rs d ts r.nm)) (rs.take i)) (.inr r.nm : Key)) = none
    rw [valV_neg (fun q => f.top (Sum.inr.inj q).symm), valV_kvF, find_none f.new]; rfl), take_more hr]
  unfold kvM kvF
  rw [List.map_append]
  rfl
def spValues (C : Addr) : Sp := fun vs H Q _ => ∃ (t u : Addr) (d : Bool) (ts : List Str) (rs : List Row), vs = [.ref t, .bl d, .ref u] ∧ TreeAt C H t rs ∧ H u = some (.tup (ts.map V.str)) ∧
  ∀ D H', H D = none → Same H H' → H' D = some (.dK (kvM rs d ts rs)) → Q (.ref D) H'
section
variable {P : Program} {w : World} {K : PySem.W.Frag} {mg : Str → Option Value} {base : Heap} {C : Addr}
abbrev nValues : List Str := ["tree", "default", "turns", "values", "box"]
theorem sc_values_of : FnScope nValues ["tree", "default", "turns"] (defScope s_values_of) := ⟨rfl, rfl, rfl, by decide +kernel, rfl, by decide +kernel, by decide +kernel⟩
theorem ok_values_of (D : DefAt K mg "values_of" s_values_of ["tree", "default", "turns"]) (TC : TxC K mg) (T : TxT K mg C)
    (mB : MethAt K C "below" "Tree.below" s_Tree_below ["self", "box"]) (GB : FnOk P w K mg base CX0 5 mB.f mB.fd ["self", "box"] (spListOf C belowL))
    (mF : MethAt K C "folder" "Tree.folder" s_Tree_folder ["self", "box"]) (GF : FnOk P w K mg base CX0 4 mF.f mF.fd ["self", "box"] (spGet C fun r => .str r.fo)) : FnOk P w K mg base CX0 6 D.f D.fd ["tree", "default", "turns"] (spValues C) := by
  obtain ⟨t1, gT⟩ := TC.top
  refine D.F.ok sc_values_of (fun vs H Q E h => ?_) (fun cdv A outer s H vs Q E hr h => ?_)
  · obtain ⟨t, u, d, ts, rs, rfl, _⟩ := h
    rfl
  · obtain ⟨t, u, d, ts, rs, rfl, ht, hu', hq⟩ := h
    have hu := hu_of hr
    have hr3 : Room 4 _ := hr.mono (by decide)
    refine ⟨_, pss_cons (ps_set (i := 3) sc_values_of.nd rfl (.inl rfl) (pe_disp (pps_cons (pe_glob (by rfl) gT (v := .str ("top" : Str)) ⟨_, rfl⟩) (pv 1) pps_nil) (by rfl) (by rfl) (fun z => by cases z) (by decide)))
      (pss_cons (ps_for PassesOwn.never rfl (pi_list (pe_meth (pv 0) T.cl mB.m GB hr mB.b .nil pass0 (pa_cons (pe_glob (by rfl) gT (v := .str ("top" : Str)) ⟨_, rfl⟩) pa_nil))) (pg_name (i := 4) sc_values_of.nd rfl (.inl rfl))
        (pss_one (ps_dput hu (pv 3) (pv 4) (pe_cmpR op_ne (pe_dget hu (pv 3) (pe_meth (pv 0) T.cl mF.m GF hr3 mF.b .nil pass0 (pa_cons (pv 4) pa_nil)) (fun _ _ => rfl)) (pe_cmpR op_in_seq (pv 4) (pv 2) (by rfl)) (nomark _)) rfl)))
      (pss_one (ps_ret (pv 3)))), ?_⟩
    have hv := ht.val
    have l100 := ht.len
    obtain ⟨dx, q, f, k, p, qs, h1, h2, h3, h4, h5, h6⟩ := id ht.ex
    have noB : (tf q f k p).lookup ("below" : Str) = none := tf_no _ _ _ _ (by decide +kernel) (by decide +kernel) (by decide +kernel) (by decide +kernel)
    have noF : (tf q f k p).lookup ("folder" : Str) = none := tf_no _ _ _ _ (by decide +kernel) (by decide +kernel) (by decide +kernel) (by decide +kernel)
    refine fun wd hwd => ⟨_, rfl, upd_same, [(.inr ("top" : Str), .bl d)], rfl, (by show 1 ≤ 15; decide), ?_⟩
    have sA : Same H (upd (upd H wd (.dK [])) wd (.dK (mergeK [] [(.inr ("top" : Str), .bl d)]))) := fun b o e => by
      rw [upd_ne (ne_of_none e hwd), upd_ne (ne_of_none e hwd)]; exact e
    have eA : (upd (upd H wd (.dK [])) wd (.dK (mergeK [] [(.inr ("top" : Str), .bl d)]))) wd = some (.dK (kvM rs d ts [])) := upd_same
    generalize upd (upd H wd (.dK [])) wd (.dK (mergeK [] [(.inr ("top" : Str), .bl d)])) = H1 at sA eA
    refine ⟨_, rfl, t, dx, _, rfl, sA _ _ h1, noB, t, ("top" : Str), rs, rfl, ht.same sA, .inl rfl, fun bl H2 hbl s2 e2 => ?_⟩
    rw [below_top hv] at e2
    have sB := sA.trans s2
    have nw : ∀ {b : Addr} {o : HO}, H b = some o → b ≠ wd := fun {b o} e => ne_of_none e hwd
    have nbw : bl ≠ wd := fun e => by rw [← e, hbl] at eA; cases eA
    refine ⟨bl, rfl, ⟨_, SqL.of e2⟩, ?_⟩
    refine for_list (K := K) (a := bl) (xs := (names rs).map V.str) (fun i σ H' => ∃ v : Option V, σ = [some (.ref t), some (.bl d), some (.ref u), some (.ref wd), v] ∧ SB wd H2 H' ∧ H' wd = some (.dK (kvM rs d ts (rs.take i)))) ⟨_, rfl, SB.refl _ _, s2 _ _ eA⟩ (fun i σ H' _ ⟨_, _, sb, _⟩ => SqL.of (sb _ _ nbw e2)) ?_ ?_
    · rintro i x σ H3 hx ⟨v, rfl, sb, hw⟩
      unfold names at hx
      rw [List.getElem?_map, List.getElem?_map] at hx
      obtain ⟨n1, hn1, rfl⟩ := Option.map_eq_some_iff.mp hx
      obtain ⟨r, hr', rfl⟩ := Option.map_eq_some_iff.mp hn1
      have hrm := List.mem_of_getElem? hr'
      have ro := rowOf_at hv hr'
      have s3 : SB wd H H3 := (SB.of sB).trans sb
      have t3 : TreeAt C H3 t rs := by
        refine ⟨⟨dx, q, f, k, p, qs, s3 _ _ (nw h1) h1, s3 _ _ (nw h2) h2, ⟨h3.len, fun j b w hb hw => s3 _ _ (nw (h3.at_ j b w hb hw)) (h3.at_ j b w hb hw)⟩, s3 _ _ (nw h4) h4, s3 _ _ (nw h5) h5, s3 _ _ (nw h6) h6⟩, hv, l100⟩
      have fo : r.fo = ("top" : Str) ∨ (r.fo ≠ ("top" : Str) ∧ r.fo ∈ names (rs.take i)) := by
        by_cases e : r.fo = ("top" : Str)
        · exact .inl e
        · exact .inr ⟨e, (hv.fo hr').resolve_left e⟩
      have dg := DGet.k (k := Sum.inr r.fo) hw
      rw [valV_kvM hv d ts fo] at dg
      refine ⟨_, rfl, _, rfl, t, dx, _, rfl, s3 _ _ (nw h1) h1, noF, _, rfl, t, r.nm, rs, r, rfl, t3, ro, wd, _, rfl, dg, _, rfl, _, rfl, u, _, rfl, .inr (sqT (s3 _ _ (nw hu') hu')), rfl, flat_strs _, rfl, ?_⟩
      refine ⟨_, rfl, _, rfl, wd, _, rfl, DPut.k (k := Sum.inr r.nm) hw (small1000 (by unfold kvM kvF; rw [List.length_cons, List.length_map, List.length_take]; omega)), ?_⟩
      refine ⟨_, rfl, fun b o nb e => by rw [upd_ne nb]; exact sb b o nb e, ?_⟩
      rw [upd_same, ← kvM_more hv d ts hr', val_step hv d ts hrm]
      have e : (if false = true then !inV (.str r.nm) (ts.map V.str) else inV (.str r.nm) (ts.map V.str)) = decide (r.nm ∈ ts) := by
        rw [if_neg Bool.false_ne_true, inV_strs]
      rw [e]
      congr 3
      cases valOf rs d ts r.fo <;> cases decide (r.nm ∈ ts) <;> rfl
    · rintro σ H3 ⟨v, rfl, sb, hw⟩
      unfold names at hw
      rw [List.length_map, List.length_map, List.take_length] at hw
      exact ⟨_, rfl, hq wd H3 hwd (fun b o e => (SB.of sB).trans sb b o (nw e) e) hw⟩
end
end Ts

set_option maxRecDepth 100000
set_option maxHeartbeats 4000000
namespace Ts
open PySem L2
def Free (rs : List Row) (x : Str) : Prop := ∃ r, rowOf rs x = some r ∧ r.pr ≠ none
theorem Free.mem {rs : List Row} {x : Str} (h : Free rs x) : x ∈ names rs := by
  obtain ⟨r, e, _⟩ := h
  have e' : rs.find? (fun r => decide (r.nm = x)) = some r := e
  have e2 := List.find?_some e'
  exact List.mem_map.mpr ⟨r, List.mem_of_find?_eq_some e', of_decide_eq_true e2⟩
/-- a list or a tuple, the program's own ones too -/
def SqX (K : PySem.W.Frag) (H : Hp) (a : Addr) (xs : List V) : Prop := SqL K H a xs ∨ SqT K H a xs
theorem SqX.eq {K : PySem.W.Frag} {H H' : Hp} {a : Addr} {xs : List V} (h : SqX K H a xs) (e : H' a = H a) : SqX K H' a xs := by
  unfold SqX SqL SqT Rd at h ⊢
  rw [e]
  exact h
theorem SqX.keep {K : PySem.W.Frag} {H H' : Hp} {a : Addr} {xs : List V} (h : SqX K H a xs) (s : ∀ o, (∀ C dx fs, o ≠ HO.ins C dx fs) → H a = some o → H' a = some o) : SqX K H' a xs := by
  rcases h with ((h | ⟨o, h⟩) | h) | ((h | ⟨o, h⟩) | h)
  · exact .inl (.inl (.inl (s _ (fun _ _ _ z => by cases z) h)))
  · exact .inl (.inl (.inr ⟨o, s _ (fun _ _ _ z => by cases z) h⟩))
  · exact .inl (.inr h)
  · exact .inr (.inl (.inl (s _ (fun _ _ _ z => by cases z) h)))
  · exact .inr (.inl (.inr ⟨o, s _ (fun _ _ _ z => by cases z) h⟩))
  · exact .inr (.inr h)
theorem SqX.same {K : PySem.W.Frag} {H H' : Hp} {a : Addr} {xs : List V} (h : SqX K H a xs) (s : Same H H') : SqX K H' a xs := h.keep fun o _ e => s _ _ e
theorem SqX.sbm {K : PySem.W.Frag} {H H' : Hp} {a m C dx : Addr} {fs : List (Str × V)} {xs : List V} (h : SqX K H a xs) (hm : H m = some (.ins C dx fs)) (s : SB m H H') : SqX K H' a xs :=
  h.keep fun o no e => s _ _ (fun q => by rw [q, hm] at e; exact no _ _ _ (Option.some.inj e).symm) e
/-- x itself, a list or a tuple, in slot i -/
def iSeqX (K : PySem.W.Frag) (i : Nat) : TI := fun σ H R => ∃ (a : Addr) (xs : List V), σ[i]? = some (some (.ref a)) ∧ SqX K H a xs ∧ ∀ J, Walk J xs.length (fun H' => H' a = H a) (YAt xs) → R J H
theorem pi_seqX {X : Cx} {e tg : Expr} {i : Nat} (he : PE X e (tVar i)) : PI X tg e (iSeqX X.K i) := by
  refine ⟨fun pins s σ H R I h => ?_⟩
  obtain ⟨a, xs, e1, hq, k⟩ := h
  have sub : ∀ {H' : Hp}, H' a = H a → (SqL X.K H a xs → SqL X.K H' a xs) ∧ (SqT X.K H a xs → SqT X.K H' a xs) := fun {H'} e => by
    unfold SqL SqT Rd
    rw [e]
    exact ⟨id, id⟩
  rcases hq with hq | hq
  · exact (pi_list he).run pins s σ H R I ⟨_, e1, a, rfl, ⟨_, hq⟩, k _ (walk_list.mono (fun H' e => (sub e).1 hq) fun _ _ _ _ _ _ y => y)⟩
  · exact (pi_tup he).run pins s σ H R I ⟨_, e1, a, rfl, ⟨_, hq⟩, k _ (walk_tup.mono (fun H' e => (sub e).2 hq) fun _ _ _ _ _ _ y => y)⟩
def spCheckTurns (K : PySem.W.Frag) (C : Addr) : Sp := fun vs H Q _ => ∃ (t u : Addr) (xs : List Str) (rs : List Row), vs = [.ref t, .ref u] ∧ TreeAt C H t rs ∧ SqX K H u (xs.map V.str) ∧ (∀ x ∈ xs, Free rs x) ∧ Q .non H
def mf (t u k : Addr) (d : Bool) : List (Str × V) := putF "known" (.ref k) (putF "turns" (.ref u) (putF "default" (.bl d) (putF "tree" (.ref t) [])))
/-- the turned boxes, in the tree's order -/
def turnsL (rs : List Row) (xs : List Str) : List Str := (names rs).filter fun z => decide (z ∈ xs)
theorem turnsL_norm (rs : List Row) (xs : List Str) : turnsL rs xs = turnsL rs (turnsL rs xs) := by
  unfold turnsL
  refine List.filter_congr fun z hz => ?_
  by_cases e : z ∈ xs
  · simp [e, hz]
  · simp [e]
structure MeanAt (C CM : Addr) (H : Hp) (m t : Addr) (rs : List Row) (d : Bool) (ts : List Str) : Prop where
  ex : ∃ (dx u k : Addr), H m = some (.ins CM dx (mf t u k d)) ∧ H u = some (.tup (ts.map V.str)) ∧ H k = some (.dK (kvM rs d ts rs))
  tree : TreeAt C H t rs
  norm : ts = turnsL rs ts
theorem MeanAt.sub {C CM : Addr} {H : Hp} {m t : Addr} {rs : List Row} {d : Bool} {ts : List Str} (h : MeanAt C CM H m t rs d ts) : ∀ x ∈ ts, x ∈ names rs := fun x hx => by
  rw [h.norm] at hx
  exact (List.mem_filter.mp hx).1
theorem MeanAt.len {C CM : Addr} {H : Hp} {m t : Addr} {rs : List Row} {d : Bool} {ts : List Str} (h : MeanAt C CM H m t rs d ts) : ts.length ≤ 100 := by
  rw [h.norm]
  unfold turnsL names
  have h1 := List.length_filter_le (fun z => decide (z ∈ ts)) (rs.map (·.nm))
  have h2 := h.tree.len
  rw [List.length_map] at h1
  omega
theorem MeanAt.same {C CM : Addr} {H H' : Hp} {m t : Addr} {rs : List Row} {d : Bool} {ts : List Str} (h : MeanAt C CM H m t rs d ts) (s : Same H H') : MeanAt C CM H' m t rs d ts := by
  obtain ⟨dx, u, k, h1, h2, h3⟩ := h.ex
  exact ⟨⟨dx, u, k, s _ _ h1, s _ _ h2, s _ _ h3⟩, h.tree.same s, h.norm⟩
structure TxM (K : PySem.W.Frag) (mg : Str → Option Value) (CM : Addr) : Prop where
  cl : Cls K CM
  nt : NoAttr K CM "tree"
  nd : NoAttr K CM "default"
  nu : NoAttr K CM "turns"
  nk : NoAttr K CM "known"
  g : mg "Meaning" = some (.ref CM)
def spMeaningInit (K : PySem.W.Frag) (C CM : Addr) : Sp := fun vs H Q _ => ∃ (m dx t h : Addr) (d : Bool) (xs : List Str) (rs : List Row), vs = [.ref m, .ref t, .bl d, .ref h] ∧ H m = some (.ins CM dx []) ∧ TreeAt C H t rs ∧ SqX K H h (xs.map V.str) ∧ (∀ x ∈ xs, Free rs x) ∧
  ∀ H', SB m H H' → MeanAt C CM H' m t rs d (turnsL rs xs) → Q .non H'
section
variable {P : Program} {w : World} {K : PySem.W.Frag} {mg : Str → Option Value} {base : Heap} {C CM : Addr}
abbrev nCheckTurns : List Str := ["tree", "turns", "box"]
theorem sc_check_turns : FnScope nCheckTurns ["tree", "turns"] (defScope s_check_turns) := ⟨rfl, rfl, rfl, by decide +kernel, rfl, by decide +kernel, by decide +kernel⟩
theorem ok_check_turns (D : DefAt K mg "check_turns" s_check_turns ["tree", "turns"]) (Db : DefAt K mg "check_box" s_check_box ["tree", "thing"]) (Gb : FnOk P w K mg base CX0 3 Db.f Db.fd ["tree", "thing"] (spBox C)) (T : TxT K mg C)
    (mP : MethAt K C "price" "Tree.price" s_Tree_price ["self", "box"]) (GP : FnOk P w K mg base CX0 4 mP.f mP.fd ["self", "box"] (spGet C fun r => prV r.pr)) : FnOk P w K mg base CX0 5 D.f D.fd ["tree", "turns"] (spCheckTurns K C) := by
  refine D.F.ok sc_check_turns (fun vs H Q E h => ?_) (fun cdv A outer s H vs Q E hr h => ?_)
  · obtain ⟨t, u, xs, rs, rfl, _⟩ := h
    rfl
  · obtain ⟨t, u, xs, rs, rfl, ht, hx, hfree, hq⟩ := h
    have hr2 : Room 3 _ := hr.mono (by decide)
    obtain ⟨dx, q, f, k, p, qs, h1, h2, h3, h4, h5, h6⟩ := id ht.ex
    have noP : (tf q f k p).lookup ("price" : Str) = none := tf_no _ _ _ _ (by decide +kernel) (by decide +kernel) (by decide +kernel) (by decide +kernel)
    refine ⟨_, pss_cons (ps_for PassesOwn.never rfl (pi_seqX (i := 1) (pv 1)) (pg_name (i := 2) sc_check_turns.nd rfl (.inl rfl))
        (pss_one (ps_expr (pe_call Gb hr2 rfl Db.g Db.F.kp Db.b .nil pass0 (pa_cons (pv 0) (pa_cons (pv 2) pa_nil))))))
      (pss_one (ps_for PassesOwn.never rfl (pi_seqX (i := 1) (pv 1)) (pg_name (i := 2) sc_check_turns.nd rfl (.inl rfl))
        (pss_one (ps_if (pt_cmpR op_isN (pe_meth (pv 0) T.cl mP.m GP hr mP.b .nil pass0 (pa_cons (pv 2) pa_nil)) pe_non (nomark _)) (pss_one ps_never) pss_nil)))), ?_⟩
    have at_ : ∀ {i : Nat} {x : V}, (xs.map V.str)[i]? = some x → ∃ z, x = .str z ∧ Free rs z := fun {i x} hx => by
      rw [List.getElem?_map] at hx
      obtain ⟨z, hz, rfl⟩ := Option.map_eq_some_iff.mp hx
      exact ⟨z, rfl, hfree z (List.mem_of_getElem? hz)⟩
    refine ⟨u, _, rfl, hx, fun J W => ?_⟩
    refine for_it W (fun i σ H' => ∃ v : Option V, σ = [some (.ref t), some (.ref u), v] ∧ H' = H) ⟨none, rfl, rfl⟩ (fun i σ H' _ ⟨_, _, e⟩ => by rw [e]) ?_ ?_
    · rintro i x σ H2 H3 hi ⟨v, rfl, rfl⟩ ⟨rfl, hxi⟩
      obtain ⟨z, rfl, hz⟩ := at_ hxi
      exact ⟨_, rfl, _, rfl, t, z, rs, rfl, ht, hz.mem, _, rfl, rfl⟩
    rintro σ H2 ⟨v, rfl, rfl⟩
    refine ⟨u, _, rfl, hx, fun J W => ?_⟩
    refine for_it W (fun i σ H' => ∃ v : Option V, σ = [some (.ref t), some (.ref u), v] ∧ H' = H2) ⟨v, rfl, rfl⟩ (fun i σ H' _ ⟨_, _, e⟩ => by rw [e]) ?_ ?_
    · rintro i x σ H3 H4 hi ⟨v, rfl, rfl⟩ ⟨rfl, hxi⟩
      obtain ⟨z, rfl, r, hr', hp⟩ := at_ hxi
      refine ⟨_, rfl, t, dx, _, rfl, h1, noP, _, rfl, t, z, rs, r, rfl, ht, hr', ?_⟩
      have e2 : decide ((fun r : Row => prV r.pr) r = V.non) = false := by
        cases e : r.pr with
        | none => exact absurd e hp
        | some i => show decide (prV r.pr = V.non) = false; rw [e]; exact decide_eq_false (fun h => by cases h)
      refine ⟨rfl, _, rfl, ?_⟩
      rw [e2]
      exact iteF ⟨_, rfl, rfl⟩
    · rintro σ H3 ⟨v, rfl, rfl⟩
      exact hq
end
end Ts

set_option maxRecDepth 100000
set_option maxHeartbeats 4000000
namespace Ts
open PySem L2
theorem mtd_ : ¬ (("tree" : Str) = "default") := by decide +kernel
theorem mtu_ : ¬ (("tree" : Str) = "turns") := by decide +kernel
theorem mtk_ : ¬ (("tree" : Str) = "known") := by decide +kernel
theorem mdu_ : ¬ (("default" : Str) = "turns") := by decide +kernel
theorem mdk_ : ¬ (("default" : Str) = "known") := by decide +kernel
theorem muk_ : ¬ (("turns" : Str) = "known") := by decide +kernel
theorem mf_t (t u k : Addr) (d : Bool) : (mf t u k d).lookup ("tree" : Str) = some (.ref t) := by
  unfold mf
  rw [lookup_putF, if_neg mtk_, lookup_putF, if_neg mtu_, lookup_putF, if_neg mtd_, lookup_putF, if_pos rfl]
theorem mf_d (t u k : Addr) (d : Bool) : (mf t u k d).lookup ("default" : Str) = some (.bl d) := by
  unfold mf
  rw [lookup_putF, if_neg mdk_, lookup_putF, if_neg mdu_, lookup_putF, if_pos rfl]
theorem mf_u (t u k : Addr) (d : Bool) : (mf t u k d).lookup ("turns" : Str) = some (.ref u) := by
  unfold mf
  rw [lookup_putF, if_neg muk_, lookup_putF, if_pos rfl]
theorem mf_k (t u k : Addr) (d : Bool) : (mf t u k d).lookup ("known" : Str) = some (.ref k) := by
  unfold mf
  rw [lookup_putF, if_pos rfl]
theorem mf_no (t u k : Addr) (d : Bool) {m : Str} (h1 : ¬ m = "tree") (h2 : ¬ m = "default") (h3 : ¬ m = "turns") (h4 : ¬ m = "known") : (mf t u k d).lookup m = none := by
  unfold mf
  rw [lookup_putF, if_neg h4, lookup_putF, if_neg h3, lookup_putF, if_neg h2, lookup_putF, if_neg h1]
  rfl
theorem turns_more {rs : List Row} {i : Nat} {r : Row} (h : rs[i]? = some r) (xs : List Str) : (names (rs.take (i + 1))).filter (fun z => decide (z ∈ xs)) = (names (rs.take i)).filter (fun z => decide (z ∈ xs)) ++ (if decide (r.nm ∈ xs) = true then [r.nm] else []) := by
  unfold names
  rw [take_more h, List.map_append, List.filter_append]
  by_cases e : r.nm ∈ xs
  · simp [e]
  · simp [e]
theorem TreeAt.sbm {C CM : Addr} {H H' : Hp} {t m dx : Addr} {rs : List Row} (h : TreeAt C H t rs) (hm : H m = some (.ins CM dx [])) (s : SB m H H') : TreeAt C H' t rs := by
  obtain ⟨tx, q, f, k, p, qs, h1, h2, h3, h4, h5, h6⟩ := h.ex
  have w : ∀ {b : Addr} {o : HO}, H b = some o → o ≠ .ins CM dx [] → H' b = some o := fun {b o} e1 no => s b o (fun eb => by rw [eb, hm] at e1; exact no (Option.some.inj e1).symm) e1
  refine ⟨⟨tx, q, f, k, p, qs, w h1 (fun e => ?_), w h2 (fun h => by cases h), ⟨h3.len, fun i b r hb hr => w (h3.at_ i b r hb hr) (fun h => by cases h)⟩, w h4 (fun h => by cases h), w h5 (fun h => by cases h), w h6 (fun h => by cases h)⟩, h.val, h.len⟩
  injection e with _ _ e3
  have e4 := tf_p q f k p
  rw [e3] at e4
  cases e4
/-- a def with defaults that lets nothing out -/
theorem okD {w : World} {P : Program} {K : PySem.W.Frag} {base : Heap} {mg : Str → Option Value} {qual x : Str} {fd : FuncData} {f : Addr} {ar : Arguments} {bo : List Stmt} {sc : Scope} {kws : List (Str × V)} {dvs : List V} {ps N : List Str} {n : Nat} {sp : Sp} (F : FunD K x qual ar bo sc dvs kws f fd) (S : FnScope N ps sc)
    (ln : ∀ vs H Q E, sp vs H Q E → vs.length = ps.length) (hb : ∀ (cdv : Value) (A : Around) (outer : List Env) (s : Shared) (H : Hp) (vs : List V) (Q : VK) (E : XK), Room n (A.deeper (PyProof.Rows.envOfC qual sc s.heap.objs.size f cdv)) → sp vs H Q E → ∃ t, PSs (cxOf CX0 P w K mg base N qual sc f cdv A outer s H E).nox bo t ∧ t { nx := fun _ H' => Q .non H', rt := Q } (start N vs) H) :
    FnOk P w K mg base CX0 (n + 1) f fd ps sp := by
  refine F.ok S ln fun cdv A outer s H vs Q E r hsp => ?_
  obtain ⟨t, h, q⟩ := hb cdv A outer s H vs Q E r hsp
  exact ⟨t, h.nox, q⟩
section
variable {P : Program} {w : World} {K : PySem.W.Frag} {mg : Str → Option Value} {base : Heap} {C CM : Addr}
abbrev nMInit : List Str := ["self", "tree", "default", "turns", "box"]
theorem sc_M_init : FnScope nMInit ["self", "tree", "default", "turns"] (defScope s_Meaning_init) := ⟨rfl, rfl, rfl, by decide +kernel, rfl, by decide +kernel, by decide +kernel⟩
theorem ok_M_init {f : Addr} {fd : FuncData} {dvs : List V} (F : FunD K "__init__" "Meaning.__init__" (defArgs s_Meaning_init) (defBody s_Meaning_init) (defScope s_Meaning_init) dvs [] f fd) (B : TxB mg) (TC : TxC K mg) (T : TxT K mg C) (M : TxM K mg CM)
    (Dc : DefAt K mg "check_turns" s_check_turns ["tree", "turns"]) (Gc : FnOk P w K mg base CX0 5 Dc.f Dc.fd ["tree", "turns"] (spCheckTurns K C))
    (Dv : DefAt K mg "values_of" s_values_of ["tree", "default", "turns"]) (Gv : FnOk P w K mg base CX0 6 Dv.f Dv.fd ["tree", "default", "turns"] (spValues C))
    (mB : MethAt K C "below" "Tree.below" s_Tree_below ["self", "box"]) (GB : FnOk P w K mg base CX0 5 mB.f mB.fd ["self", "box"] (spListOf C belowL)) :
    FnOk P w K mg base CX0 7 f fd ["self", "tree", "default", "turns"] (spMeaningInit K C CM) := by
  obtain ⟨t1, gT⟩ := TC.top
  refine okD F sc_M_init (fun vs H Q E h => ?_) (fun cdv A outer s H vs Q E hr h => ?_)
  · obtain ⟨m, dx, t, h, d, xs, rs, rfl, _⟩ := h
    rfl
  · obtain ⟨m, dx, t, h, d, xs, rs, rfl, hm, ht, hx, hfree, hq⟩ := h
    have hr4 : Room 5 _ := hr.mono (by decide)
    refine ⟨_, pss_cons (ps_if (pt_not (pt_val (pe_callB call_isi (by rfl) B.isinstance (by decide +kernel) (pa_cons (pv 2) (pa_cons (pe_bltn (by rfl) B.bool (by decide +kernel) (v := .ty "bool") rfl) pa_nil))))) (pss_one ps_never) pss_nil)
      (pss_cons (ps_expr (pe_call Gc hr4 rfl Dc.g Dc.F.kp Dc.b .nil pass0 (pa_cons (pv 1) (pa_cons (pv 3) pa_nil))))
      (pss_cons (ps_fld (pv 0) (pv 1) rfl)
      (pss_cons (ps_fld (pv 0) (pv 2) rfl)
      (pss_cons (ps_fld (pv 0) (pe_callTy call_tuple_of (by rfl) B.tuple (by decide +kernel) (pa_cons (pe_lc (own := [("box", 4)]) (g := gName 4) (tt := tTest (tOp (rIn K false) (tVar 4) (tVar 3))) (te := tVar 4) rfl sc_M_init.nd (pi_list (pe_meth (pv 1) T.cl mB.m GB hr4 mB.b .nil pass0 (pa_cons (pe_glob (by rfl) gT (v := .str ("top" : Str)) ⟨_, rfl⟩) pa_nil))) (blkOk_by (N := nMInit) (sc := defScope s_Meaning_init) (by decide +kernel))
          (fun _ _ _ _ _ => pg_name (i := 4) sc_M_init.nd rfl (Or.inl rfl)) (fun _ _ _ _ _ => by exact pts_one (pt_cmpR op_in_seq (pv 4) (pv 3) (by rfl))) (fun _ _ _ _ _ => pv 4)) pa_nil)) rfl)
      (pss_one (ps_fld (pv 0) (pe_call Gv hr rfl Dv.g Dv.F.kp Dv.b .nil pass0 (pa_cons (pv 1) (pa_cons (pv 2) (pa_cons (pe_fld (pv 0) rfl) pa_nil)))) rfl)))))), ?_⟩
    have hv := ht.val
    have l100 := ht.len
    obtain ⟨tx, q, f, k, p, qs, h1, _⟩ := id ht.ex
    have noB : (tf q f k p).lookup ("below" : Str) = none := tf_no _ _ _ _ (by decide +kernel) (by decide +kernel) (by decide +kernel) (by decide +kernel)
    refine ⟨_, rfl, _, _, _, _, true, rfl, .ty "bool", .base (.bl d), kit_ty (by decide +kernel), _, rfl, iteF ?_⟩
    refine ⟨_, rfl, _, rfl, t, h, xs, rs, rfl, ht, hx, hfree, ?_⟩
    refine ⟨_, rfl, _, rfl, m, CM, dx, _, rfl, hm, M.cl, M.nt, (by show 0 < 1000; decide), ?_⟩
    refine ⟨_, rfl, _, rfl, m, CM, dx, _, rfl, upd_same, M.cl, M.nd, (Nat.lt_of_le_of_lt (putF_len _ _ _) (by decide)), ?_⟩
    obtain ⟨Hb, Eb⟩ : ∃ Hx, Hx = upd (upd H m (.ins CM dx (putF "tree" (.ref t) []))) m (.ins CM dx (putF "default" (.bl d) (putF "tree" (.ref t) []))) := ⟨_, rfl⟩
    have bm : Hb m = some (.ins CM dx (putF "default" (.bl d) (putF "tree" (.ref t) []))) := by rw [Eb]; exact upd_same
    have sb : SB m H Hb := fun b o nb e => by rw [Eb, upd_ne nb, upd_ne nb]; exact e
    rw [← Eb]
    clear Eb
    have tb := ht.sbm hm sb
    have hxb : SqX K Hb h (xs.map V.str) := hx.sbm hm sb
    have htm : Hb t = some (.ins C tx (tf q f k p)) := by
      refine sb _ _ (fun e => ?_) h1
      rw [e, hm] at h1
      have e3 := Option.some.inj h1
      injection e3 with _ _ e3
      have e4 := tf_p q f k p
      rw [← e3] at e4
      cases e4
    refine ⟨_, rfl, t, tx, _, rfl, htm, noB, t, ("top" : Str), rs, rfl, tb, .inl rfl, fun bl H2 hbl s2 e2 => ?_⟩
    rw [below_top hv] at e2
    refine ⟨bl, rfl, ⟨_, SqL.of e2⟩, fun D hD => ?_⟩
    have hx2 := hxb.same s2
    refine lc_list (K := K) (a := bl) (xs := (names rs).map V.str) (fun i H' => Same H2 H' ∧ H' D = some (.lst (((names (rs.take i)).filter (fun z => decide (z ∈ xs))).map V.str))) ⟨Same.new hD, upd_same⟩ (fun i H' _ m => m.1.seq (SqL.of e2)) ?_ ?_
    · rintro i x H3 hxi ⟨s3, hD3⟩
      unfold names at hxi
      rw [List.getElem?_map, List.getElem?_map] at hxi
      obtain ⟨n1, hn1, rfl⟩ := Option.map_eq_some_iff.mp hxi
      obtain ⟨r, hr', rfl⟩ := Option.map_eq_some_iff.mp hn1
      have sz : (((names (rs.take i)).filter (fun z => decide (z ∈ xs))).map V.str).length < sizeLine := small1000 (by
        rw [List.length_map]
        have h1 := List.length_filter_le (fun z => decide (z ∈ xs)) (names (rs.take i))
        unfold names at h1 ⊢
        rw [List.length_map, List.length_take] at h1
        omega)
      refine ⟨rfl, _, rfl, _, rfl, h, _, rfl, (hx2.same s3), rfl, flat_strs _, _, rfl, ?_⟩
      have e : (if false = true then !inV (.str r.nm) (xs.map V.str) else inV (.str r.nm) (xs.map V.str)) = decide (r.nm ∈ xs) := by
        rw [if_neg Bool.false_ne_true, inV_strs]
      rw [e]
      refine ite2 (fun hc => ?_) (fun hc => ?_)
      · refine ⟨_, rfl, _, hD3, sz, fun b o eb => ?_, ?_⟩
        · rw [upd_ne (fun y => by rw [y, hD] at eb; cases eb)]
          exact s3 _ _ eb
        · rw [upd_same, turns_more hr', if_pos hc, List.map_append]; rfl
      · refine ⟨s3, ?_⟩
        rw [turns_more hr', if_neg hc, List.append_nil]
        exact hD3
    rintro H3 ⟨s3, hD3⟩
    rw [show ((names rs).map V.str).length = rs.length from by unfold names; rw [List.length_map, List.length_map], List.take_length] at hD3
    refine ⟨D, _, rfl, .inl ⟨SqL.of hD3, fun u hu => ?_⟩⟩
    have s4 := (s2.trans s3).trans (Same.new (o := .tup ((turnsL rs xs).map V.str)) hu)
    have e4 : (upd H3 u (.tup ((turnsL rs xs).map V.str))) u = some (.tup ((turnsL rs xs).map V.str)) := upd_same
    have e4' : (upd H3 u (.tup (((names rs).filter (fun z => decide (z ∈ xs))).map V.str))) = upd H3 u (.tup ((turnsL rs xs).map V.str)) := rfl
    rw [e4']
    have num : u ≠ m := fun e => by rw [e, (s2.trans s3) _ _ bm] at hu; cases hu
    generalize upd H3 u (.tup ((turnsL rs xs).map V.str)) = H4 at s4 e4
    refine ⟨_, rfl, m, CM, dx, _, rfl, s4 _ _ bm, M.cl, M.nu, (Nat.lt_of_le_of_lt (Nat.le_trans (putF_len _ _ _) (Nat.succ_le_succ (putF_len _ _ _))) (by decide)), ?_⟩
    obtain ⟨H5, E5⟩ : ∃ Hx, Hx = upd H4 m (.ins CM dx (putF "turns" (.ref u) (putF "default" (.bl d) (putF "tree" (.ref t) [])))) := ⟨_, rfl⟩
    have m5 : H5 m = some (.ins CM dx (putF "turns" (.ref u) (putF "default" (.bl d) (putF "tree" (.ref t) [])))) := by rw [E5]; exact upd_same
    have sb5 : SB m H H5 := fun b o nb e => by rw [E5, upd_ne nb]; exact s4 _ _ (sb b o nb e)
    have u5 : H5 u = some (.tup ((turnsL rs xs).map V.str)) := by rw [E5, upd_ne num]; exact e4
    rw [← E5]
    clear E5
    refine ⟨_, rfl, _, rfl, _, rfl, m, CM, dx, _, _, rfl, m5, M.cl, M.nu, (by rw [lookup_putF, if_pos rfl]), t, u, d, turnsL rs xs, rs, rfl, ht.sbm hm sb5, u5, fun kd H6 hkd s6 e6 => ?_⟩
    refine ⟨_, rfl, m, CM, dx, _, rfl, s6 _ _ m5, M.cl, M.nk, (Nat.lt_of_le_of_lt (Nat.le_trans (putF_len _ _ _) (Nat.succ_le_succ (Nat.le_trans (putF_len _ _ _) (Nat.succ_le_succ (putF_len _ _ _))))) (by decide)), ?_⟩
    have sb7 : SB m H (upd H6 m (.ins CM dx (mf t u kd d))) := fun b o nb e => by rw [upd_ne nb]; exact s6 _ _ (sb5 b o nb e)
    have nkm : kd ≠ m := fun e => by rw [e, m5] at hkd; cases hkd
    exact hq _ sb7 ⟨⟨dx, u, kd, upd_same, by rw [upd_ne num]; exact s6 _ _ u5, by rw [upd_ne nkm]; exact e6⟩, ht.sbm hm sb7, turnsL_norm rs xs⟩
end
end Ts

set_option maxRecDepth 100000
set_option maxHeartbeats 4000000
namespace Ts
open PySem L2
def spMValue (C CM : Addr) : Sp := fun vs H Q _ => ∃ (m t : Addr) (z : Str) (rs : List Row) (d : Bool) (ts : List Str), vs = [.ref m, .str z] ∧ MeanAt C CM H m t rs d ts ∧ (z = ("top" : Str) ∨ z ∈ names rs) ∧ Q (.bl (valOf rs d ts z)) H
def spMLen (C CM : Addr) : Sp := fun vs H Q _ => ∃ (m t : Addr) (rs : List Row) (d : Bool) (ts : List Str), vs = [.ref m] ∧ MeanAt C CM H m t rs d ts ∧ ts.length ≤ 1000 ∧ Q (.int ts.length) H
/-- what the turned boxes cost -/
def costOf (rs : List Row) (ts : List Str) : List Int := ts.map fun z => (((rowOf rs z).bind (·.pr)).getD 0)
def spMPrice (C CM : Addr) : Sp := fun vs H Q _ => ∃ (m t : Addr) (rs : List Row) (d : Bool) (ts : List Str), vs = [.ref m] ∧ MeanAt C CM H m t rs d ts ∧ ts.length ≤ 1000 ∧ (∀ z ∈ ts, Free rs z) ∧ ∀ H', Same H H' → Q (.int (costOf rs ts).sum) H'
section
variable {P : Program} {w : World} {K : PySem.W.Frag} {mg : Str → Option Value} {base : Heap} {C CM : Addr}
theorem sc_M_value : FnScope ["self", "box"] ["self", "box"] (defScope s_Meaning_value) := ⟨rfl, rfl, rfl, by decide +kernel, rfl, by decide +kernel, by decide +kernel⟩
theorem ok_M_value {f : Addr} {fd : FuncData} (F : Fun K "value" "Meaning.value" s_Meaning_value f fd) (M : TxM K mg CM) (Dp : DefAt K mg "check_place" s_check_place ["tree", "thing"]) (Gp : FnOk P w K mg base CX0 4 Dp.f Dp.fd ["tree", "thing"] (spPlace C)) : FnOk P w K mg base CX0 5 f fd ["self", "box"] (spMValue C CM) := by
  refine F.ok sc_M_value (fun vs H Q E h => ?_) (fun cdv A outer s H vs Q E hr h => ?_)
  · obtain ⟨m, t, z, rs, d, ts, rfl, _⟩ := h
    rfl
  · obtain ⟨m, t, z, rs, d, ts, rfl, hm, hz, hq⟩ := h
    have hu := hu_of hr
    obtain ⟨dx, u, k, h1, h2, h3⟩ := hm.ex
    refine ⟨_, pss_cons (ps_expr (pe_call Gp hr rfl Dp.g Dp.F.kp Dp.b .nil pass0 (pa_cons (pe_fld (pv 0) rfl) (pa_cons (pv 1) pa_nil)))) (pss_one (ps_ret (pe_dget hu (pe_fld (pv 0) rfl) (pv 1) (fun _ _ => rfl)))), ?_⟩
    have dg := DGet.k (k := Sum.inr z) h3
    rw [valV_kvM hm.tree.val d ts (hz.elim .inl fun h => by
      by_cases e : z = ("top" : Str)
      · exact .inl e
      · exact .inr ⟨e, h⟩)] at dg
    exact ⟨_, rfl, m, CM, dx, _, _, rfl, h1, M.cl, M.nt, mf_t _ _ _ _, _, rfl, t, z, rs, rfl, hm.tree, hz, _, rfl, m, CM, dx, _, _, rfl, h1, M.cl, M.nk, mf_k _ _ _ _, _, rfl, k, _, rfl, dg, hq⟩
theorem sc_M_len : FnScope ["self"] ["self"] (defScope s_Meaning_len) := ⟨rfl, rfl, rfl, by decide +kernel, rfl, by decide +kernel, by decide +kernel⟩
theorem ok_M_len {f : Addr} {fd : FuncData} (F : Fun K "__len__" "Meaning.__len__" s_Meaning_len f fd) (B : TxB mg) (M : TxM K mg CM) : FnOk P w K mg base CX0 2 f fd ["self"] (spMLen C CM) := by
  refine F.ok sc_M_len (fun vs H Q E h => ?_) (fun cdv A outer s H vs Q E hr h => ?_)
  · obtain ⟨m, t, rs, d, ts, rfl, _⟩ := h
    rfl
  · obtain ⟨m, t, rs, d, ts, rfl, hm, hl, hq⟩ := h
    obtain ⟨dx, u, k, h1, h2, h3⟩ := hm.ex
    refine ⟨_, pss_one (ps_ret (pe_callB call_len_seq (by rfl) B.len PySem.boot_len (pa_cons (pe_fld (pv 0) rfl) pa_nil))), ?_⟩
    refine ⟨_, rfl, m, CM, dx, _, _, rfl, h1, M.cl, M.nu, mf_u _ _ _ _, u, _, rfl, .inr (sqT h2), ?_⟩
    rw [List.length_map]
    exact hq
end
end Ts

set_option maxRecDepth 100000
set_option maxHeartbeats 4000000
namespace Ts
open PySem L2
def spMStates (C CM : Addr) : Sp := fun vs H Q _ => ∃ (m t : Addr) (rs : List Row) (d : Bool) (ts : List Str), vs = [.ref m] ∧ MeanAt C CM H m t rs d ts ∧ ∀ D, H D = none → Q (.ref D) (upd H D (.dK (kvM rs d ts rs)))
section
variable {P : Program} {w : World} {K : PySem.W.Frag} {mg : Str → Option Value} {base : Heap} {C CM : Addr}
theorem sc_M_states : FnScope ["self"] ["self"] (defScope s_Meaning_states) := ⟨rfl, rfl, rfl, by decide +kernel, rfl, by decide +kernel, by decide +kernel⟩
theorem ok_M_states {f : Addr} {fd : FuncData} (F : Fun K "states" "Meaning.states" s_Meaning_states f fd) (B : TxB mg) (M : TxM K mg CM) : FnOk P w K mg base CX0 2 f fd ["self"] (spMStates C CM) := by
  refine F.ok sc_M_states (fun vs H Q E h => ?_) (fun cdv A outer s H vs Q E hr h => ?_)
  · obtain ⟨m, t, rs, d, ts, rfl, _⟩ := h
    rfl
  · obtain ⟨m, t, rs, d, ts, rfl, hm, hq⟩ := h
    obtain ⟨dx, u, k, h1, h2, h3⟩ := hm.ex
    refine ⟨_, pss_one (ps_ret (pe_callTy (T := "dict") call_dictD (by rfl) B.dict (by decide +kernel) (pa_cons (pe_fld (pv 0) rfl) pa_nil))), ?_⟩
    exact ⟨_, rfl, m, CM, dx, _, _, rfl, h1, M.cl, M.nk, mf_k _ _ _ _, k, _, rfl, .inl h3, fun D hD => hq D hD⟩
abbrev nMPrice : List Str := ["self", "box"]
theorem sc_M_price : FnScope nMPrice ["self"] (defScope s_Meaning_price) := ⟨rfl, rfl, rfl, by decide +kernel, rfl, by decide +kernel, by decide +kernel⟩
theorem ok_M_price {f : Addr} {fd : FuncData} (F : Fun K "price" "Meaning.price" s_Meaning_price f fd) (hB : mg "sum" = none) (T : TxT K mg C) (M : TxM K mg CM)
    (mP : MethAt K C "price" "Tree.price" s_Tree_price ["self", "box"]) (GP : FnOk P w K mg base CX0 4 mP.f mP.fd ["self", "box"] (spGet C fun r => prV r.pr)) : FnOk P w K mg base CX0 5 f fd ["self"] (spMPrice C CM) := by
  refine F.ok sc_M_price (fun vs H Q E h => ?_) (fun cdv A outer s H vs Q E hr h => ?_)
  · obtain ⟨m, t, rs, d, ts, rfl, _⟩ := h
    rfl
  · obtain ⟨m, t, rs, d, ts, rfl, hm, hl, hfree, hq⟩ := h
    obtain ⟨dx, u, k, h1, h2, h3⟩ := hm.ex
    obtain ⟨tx, q, f, kk, p, qs, t1, _⟩ := id hm.tree.ex
    have noP : (tf q f kk p).lookup ("price" : Str) = none := tf_no _ _ _ _ (by decide +kernel) (by decide +kernel) (by decide +kernel) (by decide +kernel)
    refine ⟨_, pss_one (ps_ret (pe_callB (cr_sum rfl) (by rfl) hB (by decide +kernel) (pa_cons (pe_lc (own := [("box", 1)]) (g := gName 1) (tt := tYes) (te := tMeth C "price" (spGet C fun r => prV r.pr) [] E0 (tFld K (tVar 0) "tree") (tCons (tVar 1) tNil)) rfl sc_M_price.nd (pi_tup (pe_fld (pv 0) rfl)) (blkOk_by (N := nMPrice) (sc := defScope s_Meaning_price) (by decide +kernel))
        (fun _ _ _ _ _ => pg_name (i := 1) sc_M_price.nd rfl (Or.inl rfl)) (fun _ _ _ _ _ => pts_nil) (fun _ _ _ _ _ => by exact pe_meth (pe_fld (pv 0) rfl) T.cl mP.m GP hr mP.b .nil pass0 (pa_cons (pv 1) pa_nil))) pa_nil))), ?_⟩
    refine ⟨_, rfl, m, CM, dx, _, _, rfl, h1, M.cl, M.nu, mf_u _ _ _ _, u, rfl, ⟨_, sqT h2⟩, fun D hD => ?_⟩
    refine lc_tup (K := K) (a := u) (xs := ts.map V.str) (fun i H' => Same H H' ∧ H' D = some (.lst ((costOf rs (ts.take i)).map V.int))) ⟨Same.new hD, upd_same⟩ (fun i H' _ m => sqT (m.1 _ _ h2)) ?_ ?_
    · rintro i x H2 hx ⟨s2, hD2⟩
      rw [List.getElem?_map] at hx
      obtain ⟨z, hz, rfl⟩ := Option.map_eq_some_iff.mp hx
      obtain ⟨r, hr', hp⟩ := hfree z (List.mem_of_getElem? hz)
      obtain ⟨c, hc⟩ : ∃ c, r.pr = some c := Option.ne_none_iff_exists'.mp hp
      refine ⟨rfl, tYes_if ⟨_, rfl, m, CM, dx, _, _, rfl, s2 _ _ h1, M.cl, M.nt, mf_t _ _ _ _, t, tx, _, rfl, s2 _ _ t1, noP, _, rfl, t, z, rs, r, rfl, hm.tree.same s2, hr', _, hD2, small1000 (by unfold costOf; rw [List.length_map, List.length_map, List.length_take]; omega), fun b o eb => ?_, ?_⟩⟩
      · rw [upd_ne (fun y => by rw [y, hD] at eb; cases eb)]
        exact s2 _ _ eb
      · have e : prV r.pr = .int c := by rw [hc]; rfl
        rw [upd_same, take_more hz]
        unfold costOf
        rw [List.map_append, List.map_append]
        show some (HO.lst (_ ++ [prV r.pr])) = some (HO.lst (_ ++ [V.int (((rowOf rs z).bind (·.pr)).getD 0)]))
        rw [e, hr']
        show _ = some (HO.lst (_ ++ [V.int (r.pr.getD 0)]))
        rw [hc]; rfl
    · rintro H2 ⟨s2, hD2⟩
      rw [List.length_map, List.take_length] at hD2
      exact ⟨D, _, rfl, SqL.of hD2, hq H2 s2⟩
end
end Ts

set_option maxRecDepth 100000
set_option maxHeartbeats 4000000
namespace Ts
open PySem L2
/-! ### lists of texts as data -/
theorem strs_dpAll {K : PySem.W.Frag} {H : Hp} : ∀ l : List Str, DpAll K H (l.map V.str) (l.map PyData.str)
  | [] => .nil
  | x :: l => .cons (.str x) (strs_dpAll l)
theorem strs_dp {K : PySem.W.Frag} {H : Hp} {a : Addr} {l : List Str} (h : H a = some (.lst (l.map V.str))) : Dp K H (.ref a) (.list (l.map PyData.str)) := .lst (SqL.of h) (strs_dpAll l)
theorem strs_eqv : ∀ a b : List Str, PyData.eqvAll (a.map PyData.str) (b.map PyData.str) = decide (a = b)
  | [], [] => by simp [PyData.eqvAll]
  | [], _ :: _ => by simp [PyData.eqvAll]
  | _ :: _, [] => by simp [PyData.eqvAll]
  | x :: a, y :: b => by
    simp only [List.map_cons, PyData.eqvAll, PyData.eqv, str_beq, strs_eqv a b]
    by_cases h1 : x = y <;> by_cases h2 : a = b <;> simp [h1, h2]
theorem strs_same (l : List Str) : PyData.eqv (.list (l.map PyData.str)) (.list (l.map PyData.str)) = true := by
  simp only [PyData.eqv]
  rw [strs_eqv]
  exact decide_eq_true rfl
theorem strs_lay : ∀ l : List Str, (∀ x ∈ l, PyData.strOk x = true) → PyData.canLayAll0 (l.map PyData.str) = true
  | [], _ => by simp [PyData.canLayAll0]
  | x :: l, h => by
    simp only [List.map_cons, PyData.canLayAll0, PyData.canLay0, h x (List.mem_cons_self ..), strs_lay l (fun q hq => h q (List.mem_cons_of_mem _ hq)), Bool.and_self]
theorem strs_depth : ∀ l : List Str, PyData.depthAll (l.map PyData.str) = 0
  | [] => by simp [PyData.depthAll]
  | x :: l => by simp only [List.map_cons, PyData.depthAll, PyData.depth, strs_depth l]; rfl
theorem shaped_strs {l : List Str} (h : ∀ x ∈ l, PyData.strOk x = true) : SeqAt.shaped (.list (l.map PyData.str)) = true := by
  unfold SeqAt.shaped
  rw [Bool.and_eq_true]
  refine ⟨by simp only [PyData.canLay0]; exact strs_lay l h, decide_eq_true ?_⟩
  simp only [PyData.depth, strs_depth]
  omega
theorem names_ok {rs : List Row} (h : Valid rs) : ∀ x ∈ names rs, PyData.strOk x = true := fun x hx => by
  obtain ⟨r, hr, rfl⟩ := List.mem_map.mp hx
  exact (h.ok r hr).n
theorem inside_ok {rs : List Row} (h : Valid rs) (z : Str) : ∀ x ∈ insideL rs z, PyData.strOk x = true := fun x hx => by
  obtain ⟨r, hr, rfl⟩ := List.mem_map.mp hx
  exact (h.ok r (List.mem_filter.mp hr).1).n
theorem below_ok {rs : List Row} (h : Valid rs) (z : Str) : ∀ x ∈ belowL rs z, PyData.strOk x = true := fun x hx => by
  obtain ⟨r, hr, rfl⟩ := List.mem_map.mp hx
  exact (h.ok r (List.mem_filter.mp hr).1).n
theorem lst_same {rs : List Row} : PyData.eqv (.list (rs.map rowD)) (.list (rs.map rowD)) = true := by
  simp only [PyData.eqv]
  rw [rows_eqv]
  exact decide_eq_true rfl
def told (r : Row) : PyData := .tuple [.str r.fo, .str r.ki, prD r.pr]
theorem told_same (r : Row) : PyData.eqv (told r) (told r) = true := by
  simp [told, PyData.eqv, PyData.eqvAll, prD_eqv]
theorem told_shaped {r : Row} (h : RowOk r) : SeqAt.shaped (told r) = true := by
  obtain ⟨h1, h2, h3⟩ := h
  obtain ⟨n, f, k, p⟩ := r
  unfold SeqAt.shaped
  cases p <;> simp_all [told, prD, PyData.canLay0, PyData.canLayAll0, PyData.depth, PyData.depthAll]
end Ts

set_option maxRecDepth 100000
set_option maxHeartbeats 4000000
namespace Ts
open PySem L2
theorem shaped_strsT {l : List Str} (h : ∀ x ∈ l, PyData.strOk x = true) : SeqAt.shaped (.tuple (l.map PyData.str)) = true := by
  unfold SeqAt.shaped
  rw [Bool.and_eq_true]
  refine ⟨by simp only [PyData.canLay0]; exact strs_lay l h, decide_eq_true ?_⟩
  simp only [PyData.depth, strs_depth]
  omega
theorem nfM {K : PySem.W.Frag} {C : Addr} : PySem.W.notFirst K C (.ref C) = true := by simp [PySem.W.notFirst]
theorem MeanAt.ok {C CM : Addr} {H : Hp} {m t : Addr} {rs : List Row} {d : Bool} {ts : List Str} (h : MeanAt C CM H m t rs d ts) : ∀ x ∈ ts, PyData.strOk x = true := fun x hx => names_ok h.tree.val x (h.sub x hx)
def spMEq (K : PySem.W.Frag) (C CM : Addr) : Sp := fun vs H Q _ => ∃ (m t : Addr) (x : V) (rs : List Row) (d : Bool) (ts : List Str), vs = [.ref m, x] ∧ MeanAt C CM H m t rs d ts ∧
  ((∃ (m2 t2 : Addr) (rs2 : List Row) (d2 : Bool) (ts2 : List Str), x = .ref m2 ∧ MeanAt C CM H m2 t2 rs2 d2 ts2 ∧ Q (.bl (decide (rs = rs2) && (decide (d = d2) && decide (ts = ts2)))) H) ∨ (Other K H x (.ref CM) ∧ Q (.bl false) H))
def spMContains (K : PySem.W.Frag) (C CM : Addr) : Sp := fun vs H Q _ => ∃ (m t : Addr) (x : V) (rs : List Row) (d : Bool) (ts : List Str), vs = [.ref m, x] ∧ MeanAt C CM H m t rs d ts ∧
  ((∃ z : Str, x = .str z ∧ Q (.bl (decide (z = ("top" : Str) ∨ z ∈ names rs) && valOf rs d ts z)) H) ∨ (Other K H x (.type "str") ∧ Q (.bl false) H))
section
variable {P : Program} {w : World} {K : PySem.W.Frag} {mg : Str → Option Value} {base : Heap} {C CM : Addr}
theorem sc_M_eq : FnScope ["self", "other"] ["self", "other"] (defScope s_Meaning_eq) := ⟨rfl, rfl, rfl, by decide +kernel, rfl, by decide +kernel, by decide +kernel⟩
theorem ok_M_eq {f : Addr} {fd : FuncData} (F : Fun K "__eq__" "Meaning.__eq__" s_Meaning_eq f fd) (B : TxB mg) (M : TxM K mg CM) (I : C8.InsC K CM)
    (mE : MethAt K C "__eq__" "Tree.__eq__" s_Tree_eq ["self", "other"]) (GE : FnOk P w K mg base CX0 2 mE.f mE.fd ["self", "other"] (spEqT K C)) : FnOk P w K mg base CX0 3 f fd ["self", "other"] (spMEq K C CM) := by
  refine F.ok sc_M_eq (fun vs H Q E h => ?_) (fun cdv A outer s H vs Q E hr h => ?_)
  · obtain ⟨m, t, x, rs, d, ts, rfl, _⟩ := h
    rfl
  · obtain ⟨m, t, x, rs, d, ts, rfl, hm, h⟩ := h
    obtain ⟨dx, u, k, h1, h2, h3⟩ := hm.ex
    refine ⟨_, pss_one (ps_ret (pe_and (pe_callB call_isi (by rfl) B.isinstance (by decide +kernel) (pa_cons (pv 1) (pa_cons (pe_glob (by rfl) M.g (v := .ref CM) rfl) pa_nil)))
      (pe_and (pe_cmpR (op_eqC GE mE.m hr mE.b pass0) (pe_fld (pv 0) rfl) (pe_fld (pv 1) rfl) (nomark _))
      (pe_and (pe_cmpR op_eq (pe_fld (pv 0) rfl) (pe_fld (pv 1) rfl) (nomark _))
      (pe_one (pe_cmpR (op_eqD (by have := hr.units; exact this)) (pe_fld (pv 0) rfl) (pe_fld (pv 1) rfl) (nomark _))))))), ?_⟩
    rcases h with ⟨m2, t2, rs2, d2, ts2, rfl, hm2, hq⟩ | ⟨⟨ty, hty, hk⟩, hq⟩
    · obtain ⟨dx', u', k', g1, g2, g3⟩ := hm2.ex
      obtain ⟨tx, _, _, _, _, _, t1, _⟩ := id hm.tree.ex
      obtain ⟨tx2, _, _, _, _, _, t3, _⟩ := id hm2.tree.ex
      refine ⟨_, rfl, _, _, _, _, true, rfl, .own CM, .base (.ins g1 I.cl I.ha I.hn I.htk I.hm), I.me, _, rfl, iteT ?_⟩
      refine ⟨_, rfl, m, CM, dx, _, _, rfl, h1, M.cl, M.nt, mf_t _ _ _ _, _, rfl, m2, CM, dx', _, _, rfl, g1, M.cl, M.nt, mf_t _ _ _ _, t, tx, _, .ref C, rfl, t1, .ins t3, nfM, t, .ref t2, rs, rfl, hm.tree, .inl ⟨t2, rs2, rfl, hm2.tree, ?_⟩⟩
      refine ⟨_, rfl, _, rfl, ?_⟩
      refine ite2 (fun hc => ?_) (fun hc => ?_)
      · have e1 : decide (rs = rs2) = true := hc
        rw [e1, Bool.true_and] at hq
        refine ⟨_, rfl, m, CM, dx, _, _, rfl, h1, M.cl, M.nd, mf_d _ _ _ _, _, rfl, m2, CM, dx', _, _, rfl, g1, M.cl, M.nd, mf_d _ _ _ _, rfl, _, rfl, ?_⟩
        have e2 : decide (V.bl d = V.bl d2) = decide (d = d2) := by cases d <;> cases d2 <;> rfl
        rw [e2]
        refine ite2 (fun hd => ?_) (fun hd => ?_)
        · rw [hd, Bool.true_and] at hq
          refine ⟨_, rfl, m, CM, dx, _, _, rfl, h1, M.cl, M.nu, mf_u _ _ _ _, _, rfl, m2, CM, dx', _, _, rfl, g1, M.cl, M.nu, mf_u _ _ _ _, _, _, .tup (sqT h2) (strs_dpAll ts), .tup (sqT g2) (strs_dpAll ts2), shaped_strsT hm.ok, shaped_strsT hm2.ok, ?_⟩
          have e3 : PyData.eqv (.tuple (ts.map PyData.str)) (.tuple (ts2.map PyData.str)) = decide (ts = ts2) := by
            simp only [PyData.eqv]
            exact strs_eqv ts ts2
          rw [e3]
          exact hq
        · have e3 : decide (d = d2) = false := by simpa using hd
          rw [e3, Bool.false_and] at hq
          exact hq
      · have e1 : decide (rs = rs2) = false := by simpa using hc
        rw [e1, Bool.false_and] at hq
        exact hq
    · exact ⟨_, rfl, _, _, _, _, false, rfl, .own CM, hty, hk, _, rfl, iteF hq⟩
theorem sc_M_contains : FnScope ["self", "x"] ["self", "x"] (defScope s_Meaning_contains) := ⟨rfl, rfl, rfl, by decide +kernel, rfl, by decide +kernel, by decide +kernel⟩
theorem ok_M_contains {f : Addr} {fd : FuncData} (F : Fun K "__contains__" "Meaning.__contains__" s_Meaning_contains f fd) (B : TxB mg) (M : TxM K mg CM) : FnOk P w K mg base CX0 2 f fd ["self", "x"] (spMContains K C CM) := by
  refine F.ok sc_M_contains (fun vs H Q E h => ?_) (fun cdv A outer s H vs Q E hr h => ?_)
  · obtain ⟨m, t, x, rs, d, ts, rfl, _⟩ := h
    rfl
  · obtain ⟨m, t, x, rs, d, ts, rfl, hm, h⟩ := h
    have hu := hu_of hr
    obtain ⟨dx, u, k, h1, h2, h3⟩ := hm.ex
    refine ⟨_, pss_one (ps_ret (pe_and (pe_callB call_isi (by rfl) B.isinstance (by decide +kernel) (pa_cons (pv 1) (pa_cons (pe_bltn (by rfl) B.str (by decide +kernel) (v := .ty "str") rfl) pa_nil))) (pe_one (pe_dget2 hu (pe_fld (pv 0) rfl) (pv 1) pe_bl (by constructor <;> intros <;> rfl))))), ?_⟩
    rcases h with ⟨z, rfl, hq⟩ | ⟨⟨ty, hty, hk⟩, hq⟩
    · refine ⟨_, rfl, _, _, _, _, true, rfl, .ty "str", .base (.str z), kit_ty (by decide +kernel), _, rfl, iteT ?_⟩
      have dg := DGet.k (k := Sum.inr z) h3
      refine ⟨_, rfl, m, CM, dx, _, _, rfl, h1, M.cl, M.nk, mf_k _ _ _ _, k, rfl, .inl ⟨_, .inl h3⟩, _, rfl, _, dg, ?_⟩
      by_cases e : z = ("top" : Str) ∨ z ∈ names rs
      · rw [valV_kvM hm.tree.val d ts (by
          by_cases e1 : z = ("top" : Str)
          · exact .inl e1
          · exact .inr ⟨e1, e.resolve_left e1⟩)]
        rw [decide_eq_true e, Bool.true_and] at hq
        exact hq
      · have en : valV (kvM rs d ts rs) (.inr z : Key) = none := by
          show valV ((.inr ("top" : Str), .bl d) :: kvF (fun r => .bl (valOf rs d ts r.nm)) rs) (.inr z : Key) = none
          rw [valV_neg (fun q => e (.inl (Sum.inr.inj q).symm)), valV_kvF, find_none (fun h => e (.inr h))]; rfl
        rw [en]
        rw [decide_eq_false e, Bool.false_and] at hq
        exact hq
    · exact ⟨_, rfl, _, _, _, _, false, rfl, .ty "str", hty, hk, _, rfl, iteF hq⟩
end
end Ts

set_option maxRecDepth 100000
set_option maxHeartbeats 4000000
namespace Ts
open PySem L2
/-! ### iter(tuple), and a walk over an object whose `__iter__` hands it on -/
/-- at it an iterator over the tuple at l, at its start -/
def ItT (l it : Addr) : HO := .ext fun h => h.IsTupleIter it l 0
theorem itT_ok {P : Program} {w : World} {H : Hp} {h : Heap} {l it : Addr} (e : h.IsTupleIter it l 0) : ObjOk P w H h it (ItT l it) := by
  obtain ⟨o, ho, hc, hd⟩ := id e
  exact ⟨e, ⟨o, ho⟩, fun g1 g2 q kk => by obtain ⟨o2, ho2, r2⟩ := q; exact ⟨o2, kk _ ho2, r2⟩⟩
def rIterT (K : PySem.W.Frag) (n : Nat) : List V → Hp → VK → Prop := fun xs H Q => ∃ (l : Addr) (zs : List V), xs = [.ref l] ∧ SqT K H l zs ∧ ∀ it, H it = Option.none → n ≤ it → Q (.ref it) (upd H it (ItT l it))
section
variable {X : Cx}
theorem call_iterT : CallR X (.builtin "iter") (rIterT X.K X.s_0.heap.objs.size) := by
  intro pins s σ H xs us Q I r hh
  obtain ⟨l, zs, rfl, hsq, hQ⟩ := hh
  obtain ⟨u, rfl, ru⟩ := vals1 r
  cases ru
  obtain ⟨its, rv, pl, hz⟩ := I.tuple hsq
  have ht : s.heap.IsTuple l its.toArray := pl
  refine Calls.call_function_entry (by decide +kernel) (by decide +kernel) PySem.W.kdk_entry_iter (PySem.W.kdk_args_iter _) ?_; unfold Builtin.«iter»
  refine wpAny_bind (m := someArgs "iter" 1 2 _) (wpAny_of_eq (a := [Value.ref l]) (by first | rfl | kernel_rfl!) ?_); show wpAny _ _ (pyIter (.ref l) >>= _) _ _ _
  refine wpAny_bind (wpAny_pyIter_tuple ht (wpAny_pure ⟨_, rfl, ?_⟩))
  exact ⟨.ref s.heap.objs.size, _, I.laid (t' := s.toks) (fun b u e => Heap.get?_push_of_some _ e) (Nat.le_refl _) (itT_ok ⟨_, Heap.get?_push_size _ rfl, rfl, rfl⟩), rfl, hQ _ (I.hok.fresh (Nat.le_refl _)) I.sz⟩
end
/-- a def that may say how young its answer is: sp knows the size of the memory at the call -/
def FnY (P : Program) (w : World) (K : PySem.W.Frag) (mg : Str → Option Value) (base : Heap) (CX : CXT) (k : Nat) (f : Addr) (ps : List Str) (sp : Nat → Sp) : Prop :=
  (∀ n vs H Q E, sp n vs H Q E → vs.length = ps.length) ∧ ∀ (A : Around) (outer : List Env) (s : Shared) (H : Hp) (us : List Value) (vs : List V) (Q : VK) (E : XK), Room k A → Env0 P w K mg base A outer s H → Vals vs us → sp s.heap.objs.size vs H Q E →
    codeAny (model P w) A (.call (.ref f) ⟨us, []⟩) (CR CX outer P w H s Q E) s
theorem fn_young {CX : CXT} {P : Program} {w : World} {K : PySem.W.Frag} {mg : Str → Option Value} {base : Heap} {k : Nat} {f : Addr} {fd : FuncData} {x qual : Str} {st : Stmt} {N ps : List Str} {sp : Nat → Sp} (F : Fun K x qual st f fd) (S : FnScope N ps (defScope st)) (bd : Binds K fd ps [])
    (len : ∀ n vs H Q E, sp n vs H Q E → vs.length = ps.length)
    (body : ∀ (cdv : Value) (A : Around) (outer : List Env) (s : Shared) (H : Hp) (vs : List V) (Q : VK) (E : XK), Room k (A.deeper (PyProof.Rows.envOfC qual (defScope st) s.heap.objs.size f cdv)) → sp s.heap.objs.size vs H Q E →
      ∃ t, PSs (cxOf CX P w K mg base N qual (defScope st) f cdv A outer s H E) (defBody st) t ∧ t { nx := fun _ H' => Q .non H', rt := Q } (start N vs) H) : FnY P w K mg base CX (k + 1) f ps sp := by
  refine ⟨len, fun A outer s H us vs Q E rm en rv want => ?_⟩
  obtain ⟨oc, od, kV, doc, pm, an, cdv, ct, osl, rfl, look, code⟩ := F.ex
  have lv := len _ _ _ _ _ want
  have KI : K.In s.heap := en.mod.kin.keeps fun b o hb => (en.bs b o hb).1
  have nolim : s.heap.NoLimit := en.mod.nolimit.keeps fun b o hb => (en.bs b o hb).1
  have kinds : ∀ z ∈ ps.zip us, (defScope st).names.lookup z.1 = some .local ∨ ((defScope st).names.lookup z.1 = some .cell ∧ ((cellsFrom (s.heap.objs.size + 1) (defScope st).names []).lookup z.1).isSome = true) := fun ⟨n, v⟩ hz => by
    rcases S.par n (List.of_mem_zip hz).1 with z1 | z1
    · exact .inl z1
    · exact .inr ⟨z1, PySem.W.cellsFrom_some _ _ _ (.inl z1)⟩
  have bt := bd s us KI (by rw [List.append_nil, ← rv.length]; exact lv)
  rw [List.append_nil] at bt
  refine codeAny_call_function rm.depth (KI _ _ look) rfl S.co S.gen rfl (PySem.W.codeRec_of KI code) (bt _ _ _ _ ?_)
  refine wpAny_newFunctionEnv_cells S.kind kinds fun e2 he2 s1 y => ?_
  subst he2
  refine ⟨nolim.keeps y.toInCall.keep, codeAny_func ?_⟩
  obtain ⟨t, tm, tq⟩ := body cdv A outer s H vs Q E (rm.deeper _) want
  have J : Inv (cxOf CX P w K mg base N qual (defScope st) f cdv A outer s H E) [] (start N vs) H s1 := inv_start S rm.hd en lv rv y
  refine wpAny_mono (tm.run [] s1 (start N vs) H _ J tq) (fun fl s2 hs => ?_) fun e3 s2 hs => hs
  have close : ∀ {σ2 : St} {H2 : Hp} {v : V} {u : Value}, Inv (cxOf CX P w K mg base N qual (defScope st) f cdv A outer s H E) [] σ2 H2 s2 → RelV v u → Q v H2 → CE outer P w H s Q u s2 := fun {σ2 H2 v u} J2 r2 q2 => ⟨v, H2, J2.os, J2.bare, J2.base, J2.hok, r2, q2⟩
  cases fl with
  | ret u => obtain ⟨v, σ2, H2, J2, r2, q2⟩ := hs; exact close J2 r2 q2
  | next => obtain ⟨σ2, H2, J2, q2⟩ := hs; exact close (v := V.non) (u := Value.none) J2 rfl q2
  | brk => obtain ⟨_, _, _, q2⟩ := hs; exact False.elim q2
  | cont => obtain ⟨_, _, _, q2⟩ := hs; exact False.elim q2
/-- what such an `__iter__` promises: an iterator over a tuple -/
def spIterT (K : PySem.W.Frag) (C : Addr) (fld : Str) : Nat → Sp := fun n vs H Q _ => ∃ (a dx l : Addr) (fs : List (Str × V)) (zs : List V), vs = [.ref a] ∧ H a = some (.ins C dx fs) ∧ fs.lookup fld = some (.ref l) ∧ SqT K H l zs ∧ ∀ it, H it = Option.none → n ≤ it → Q (.ref it) (upd H it (ItT l it))
def iOwnT (K : PySem.W.Frag) (C : Addr) (fld : Str) (t : TE) : TI := fun σ H R => t σ H fun x H1 => ∃ (a dx l : Addr) (fs : List (Str × V)), x = .ref a ∧ H1 a = some (.ins C dx fs) ∧ fs.lookup fld = some (.ref l) ∧ (∃ zs, SqT K H1 l zs) ∧ R (Itt K l) H1
theorem itT_at {X : Cx} {pins : List (Addr × Obj)} {σ : L2.St} {H : Hp} {s : Shared} {l it : Addr} (I : Inv X pins σ H s) (e : H it = some (ItT l it)) : s.heap.IsTupleIter it l 0 := (I.hok it _ e).1
section
variable {X : Cx} {tg e : Expr} {t : TE} {C f : Addr} {fld : Str} {k : Nat} {ps : List Str}
theorem pi_ownT (he : PE X e t) (F : FnY X.prog X.w X.K X.mg X.base CX0 k f ps (spIterT X.K C fld)) (m : Meth X.K C "__iter__" f) (hr : Room k X.A) : PI X tg e (iOwnT X.K C fld t) := by
  refine ⟨fun pins s σ H R I h => ?_⟩
  refine thn (he.run pins s σ H _ I h) fun v s1 ⟨x, H1, I1, r1, a, dx, l, fs, ex, ha, hf, ⟨zs, hz⟩, q⟩ => ?_
  subst ex
  cases r1
  obtain ⟨mA, J, _⟩ := ins_get I1.hok ha
  obtain ⟨od, J, _⟩ := J.look
  obtain ⟨mm, hF⟩ := I1.fr
  refine PySem.W.owit_iter hF I1.ok.mod.kin J m.at_ m.fn ?_
  refine wpAny_call (codeAny_mono (F.2 X.A X.stack s1 H1 [.ref a] [.ref a] (fun v H2 => ∃ it, v = .ref it ∧ H1 it = Option.none ∧ s1.heap.objs.size ≤ it ∧ H2 = upd H1 it (ItT l it)) E0 hr I1.env0 (.cons (show RelV (.ref a) (.ref a) from rfl) .nil) ⟨a, dx, l, fs, zs, rfl, ha, hf, hz, fun it h0 hn => ⟨it, rfl, h0, hn, rfl⟩⟩) fun r s' hq => ?_)
  cases r with
  | error e => exact hq.elim
  | ok fl =>
    cases fl with
    | next => exact hq.elim
    | brk => exact hq.elim
    | cont => exact hq.elim
    | ret u =>
      obtain ⟨v2, H2, I2, r2, it, ev, h0, hn, eH⟩ := I1.after hq
      subst ev
      subst eH
      cases r2
      have ti := itT_at I2 upd_same
      have I3 : Inv X pins σ (ItX.dropH (upd H1 it (ItT l it)) it) s' := ItX.inv_drop I2 (φ := fun h => h.IsTupleIter it l 0) upd_same
      have fp := ItX.inv_fp I2 upd_same (Nat.le_trans I1.sz hn)
      rw [ItX.dropH_upd h0] at I3 fp
      have fin : PIE X pins σ tg R (.ref it) s' := ⟨it, [it], _, _, H1, rfl, I3, turn_tuple l it, ti, fun b hb => by
        have eb : b = it := by simpa using hb
        rw [eb]; exact fp, q⟩
      exact wpAny_specialOf (name := "__next__") ti.typeIs PySem.F.slot_tuple_iterator_next.lookup fin
end
end Ts

set_option maxRecDepth 100000
set_option maxHeartbeats 4000000
namespace Ts
open PySem L2
/-! ### what a newcomer is worth -/
theorem wayOf_last (rs : List Row) (q : Row) : wayOf (rs ++ [q]) q.nm = wayOf rs q.fo ++ [q.nm] := by
  unfold wayOf
  rw [List.reverse_append]
  show (if q.nm = q.nm then wayR rs.reverse q.fo ++ [q.nm] else wayR rs.reverse q.nm) = _
  rw [if_pos rfl]
theorem wayOf_skip (rs : List Row) (q : Row) {z : Str} (h : q.nm ≠ z) : wayOf (rs ++ [q]) z = wayOf rs z := by
  unfold wayOf
  rw [List.reverse_append]
  show (if q.nm = z then wayR rs.reverse q.fo ++ [z] else wayR rs.reverse z) = _
  rw [if_neg h]
theorem turned_congr {ts us : List Str} : ∀ (l : List Str) (d : Bool), (∀ x ∈ l, x ∈ ts ↔ x ∈ us) → turned d ts l = turned d us l
  | [], _, _ => rfl
  | x :: l, d, h => by
    show turned (if x ∈ ts then !d else d) ts l = turned (if x ∈ us then !d else d) us l
    have e : (if x ∈ ts then !d else d) = (if x ∈ us then !d else d) := by
      by_cases hx : x ∈ ts
      · rw [if_pos hx, if_pos ((h x (List.mem_cons_self ..)).mp hx)]
      · rw [if_neg hx, if_neg fun q => hx ((h x (List.mem_cons_self ..)).mpr q)]
    rw [e]
    exact turned_congr l _ fun y hy => h y (List.mem_cons_of_mem _ hy)
theorem valOf_congr {rs : List Row} {d : Bool} {ts us : List Str} {z : Str} (h : ∀ x ∈ names rs, x ∈ ts ↔ x ∈ us) : valOf rs d ts z = valOf rs d us z :=
  turned_congr _ _ fun x hx => h x (way_mem hx)
theorem mem_turnsL {rs : List Row} {xs : List Str} {x : Str} : x ∈ turnsL rs xs ↔ x ∈ names rs ∧ x ∈ xs := by
  unfold turnsL
  rw [List.mem_filter, decide_eq_true_eq]
theorem names_app (rs qs : List Row) : names (rs ++ qs) = names rs ++ names qs := List.map_append
theorem val_newc {rs : List Row} {q : Row} (d : Bool) {ts : List Str} (h : q.nm ∉ ts) : valOf (rs ++ [q]) d (turnsL (rs ++ [q]) ts) q.nm = valOf rs d ts q.fo := by
  unfold valOf
  rw [wayOf_last, turned_snoc, if_neg fun e => h (mem_turnsL.mp e).2]
  refine turned_congr _ _ fun x hx => ?_
  rw [mem_turnsL, names_app]
  exact ⟨fun e => e.2, fun e => ⟨List.mem_append.mpr (.inl (way_mem hx)), e⟩⟩
theorem filter_of_sub {l : List Str} : ∀ {s : List Str}, s.Sublist l → l.Nodup → l.filter (fun z => decide (z ∈ s)) = s := by
  intro s h
  induction h with
  | slnil => intro _; rfl
  | cons a h ih =>
    intro nd
    rw [List.nodup_cons] at nd
    rw [List.filter_cons_of_neg (by
      rw [decide_eq_true_eq]
      exact fun e => nd.1 (h.subset e))]
    exact ih nd.2
  | cons_cons a h ih =>
    rename_i l1 l2
    intro nd
    rw [List.nodup_cons] at nd
    rw [List.filter_cons_of_pos (by rw [decide_eq_true_eq]; exact List.mem_cons_self ..)]
    have e : l2.filter (fun z => decide (z ∈ a :: l1)) = l2.filter (fun z => decide (z ∈ l1)) := by
      refine List.filter_congr fun z hz => ?_
      have ne : z ≠ a := fun e => nd.1 (e ▸ hz)
      simp [ne]
    rw [e, ih nd.2]
theorem Valid.nodup {rs : List Row} (h : Valid rs) : (names rs).Nodup := by
  unfold names
  rw [List.nodup_iff_pairwise_ne, List.pairwise_iff_getElem]
  intro i j hi hj hij e
  rw [List.length_map] at hi hj
  rw [List.getElem_map, List.getElem_map] at e
  refine (h j rs[j] (List.getElem?_eq_getElem hj)).new (List.mem_map.mpr ⟨rs[i], ?_, e⟩)
  exact List.mem_take_iff_getElem.mpr ⟨i, by omega, rfl⟩
theorem turnsL_sub {rs : List Row} (h : Valid rs) {ts : List Str} (s : ts.Sublist (names rs)) : turnsL rs ts = ts := filter_of_sub s h.nodup
theorem turnsL_congr {rs : List Row} {xs ys : List Str} (h : ∀ x, x ∈ xs ↔ x ∈ ys) : turnsL rs xs = turnsL rs ys := by
  unfold turnsL
  refine List.filter_congr fun z _ => ?_
  rw [decide_eq_decide]
  exact h z
/-! ### a dict of values, as data -/
def kvD (b : Str × Bool) : PyData := .tuple [.str b.1, .bool b.2]
/-- the items of the values -/
def itemsM (rs : List Row) (d : Bool) (ts : List Str) : List (Str × Bool) := (("top" : Str), d) :: rs.map fun r => (r.nm, valOf rs d ts r.nm)
theorem kvM_items (rs : List Row) (d : Bool) (ts : List Str) : kvM rs d ts rs = (itemsM rs d ts).map fun q => ((.inr q.1 : Key), V.bl q.2) := by
  unfold kvM itemsM kvF
  rw [List.map_cons, List.map_map]
  rfl
theorem items_dp {K : PySem.W.Frag} {H : Hp} : ∀ {qs : List (Str × Bool)} {ts : List Addr}, Paired (fun (t : Addr) (q : Key × V) => H t = some (.tup [kV q.1, q.2])) ts (qs.map fun q => ((.inr q.1 : Key), V.bl q.2)) → DpAll K H (ts.map V.ref) (qs.map kvD)
  | [], [], _ => .nil
  | [], _ :: _, h => by cases h
  | _ :: _, [], h => by cases h
  | q :: qs, t :: ts, h => by
    cases h with
    | cons h1 h2 => exact .cons (.tup (sqT h1) (.cons (.str _) (.cons (.bl _) .nil))) (items_dp h2)
theorem items_lay : ∀ (qs : List (Str × Bool)), (∀ q ∈ qs, PyData.strOk q.1 = true) → PyData.canLayAll0 (qs.map kvD) = true
  | [], _ => by simp [PyData.canLayAll0]
  | q :: qs, h => by
    have h1 := h q (List.mem_cons_self ..)
    simp [List.map_cons, kvD, PyData.canLayAll0, PyData.canLay0, h1, items_lay qs (fun x hx => h x (List.mem_cons_of_mem _ hx))]
theorem items_depth : ∀ (qs : List (Str × Bool)), PyData.depthAll (qs.map kvD) ≤ 1
  | [] => by simp [PyData.depthAll]
  | q :: qs => by
    have ih := items_depth qs
    simp only [List.map_cons, kvD, PyData.depthAll, PyData.depth]
    omega
theorem shaped_items {qs : List (Str × Bool)} (h : ∀ q ∈ qs, PyData.strOk q.1 = true) : SeqAt.shaped (.list (qs.map kvD)) = true := by
  have q := items_depth qs
  unfold SeqAt.shaped
  rw [Bool.and_eq_true]
  refine ⟨by simp only [PyData.canLay0]; exact items_lay qs h, decide_eq_true ?_⟩
  simp only [PyData.depth]
  omega
theorem items_ok {rs : List Row} (h : Valid rs) (d : Bool) (ts : List Str) : ∀ q ∈ itemsM rs d ts, PyData.strOk q.1 = true := by
  intro q hq
  rcases List.mem_cons.mp hq with e | hq
  · rw [e]; exact top_ok
  · obtain ⟨r, hr, rfl⟩ := List.mem_map.mp hq
    exact names_ok h _ (List.mem_map.mpr ⟨r, hr, rfl⟩)
theorem items_same : ∀ (qs : List (Str × Bool)), PyData.eqvAll (qs.map kvD) (qs.map kvD) = true
  | [] => by simp [PyData.eqvAll]
  | q :: qs => by
    simp [List.map_cons, kvD, PyData.eqvAll, PyData.eqv, items_same qs]
section
variable {P : Program} {w : World} {K : PySem.W.Frag} {mg : Str → Option Value} {base : Heap} {C CM : Addr}
theorem sc_M_iter : FnScope ["self"] ["self"] (defScope s_Meaning_iter) := ⟨rfl, rfl, rfl, by decide +kernel, rfl, by decide +kernel, by decide +kernel⟩
theorem ok_M_iter {f : Addr} {fd : FuncData} (F : Fun K "__iter__" "Meaning.__iter__" s_Meaning_iter f fd) (bd : Binds K fd ["self"] []) (hI : mg "iter" = none) (M : TxM K mg CM) : FnY P w K mg base CX0 2 f ["self"] (spIterT K CM "turns") := by
  refine fn_young F sc_M_iter bd (fun n vs H Q E h => ?_) (fun cdv A outer s H vs Q E hr h => ?_)
  · obtain ⟨a, dx, l, fs, zs, rfl, _⟩ := h
    rfl
  · obtain ⟨a, dx, l, fs, zs, rfl, ha, hf, hz, q⟩ := h
    refine ⟨_, pss_one (ps_ret (pe_callB call_iterT (by rfl) hI (by decide +kernel) (pa_cons (pe_fld (pv 0) rfl) pa_nil))), ?_⟩
    exact ⟨_, rfl, a, CM, dx, fs, _, rfl, ha, M.cl, M.nu, hf, l, zs, rfl, hz, q⟩
end
end Ts

set_option maxRecDepth 100000
set_option maxHeartbeats 4000000
namespace Ts
open PySem L2
theorem mk_same {C : Addr} {H H' : Hp} {x dx : Addr} (nx : H x = none) (nd : H dx = none) (sb : SB x (upd (upd H dx (.own x)) x (.ins C dx [])) H') : Same H H' := fun b o e =>
  sb b o (ne_of_none e nx) (by rw [upd_ne (ne_of_none e nx), upd_ne (ne_of_none e nd)]; exact e)
theorem mk_same0 {C : Addr} {H : Hp} {x dx : Addr} (nx : H x = none) (nd : H dx = none) : Same H (upd (upd H dx (.own x)) x (.ins C dx [])) := fun b o e => by
  rw [upd_ne (ne_of_none e nx), upd_ne (ne_of_none e nd)]; exact e
theorem SeqRows.snoc {H : Hp} {as : List Addr} {rs : List Row} {a : Addr} {r : Row} (h : SeqRows H as rs) (ha : H a = some (.tup (rowVs r)) ∨ H a = some (.lst (rowVs r))) : SeqRows H (as ++ [a]) (rs ++ [r]) := by
  refine ⟨by simp [h.len], fun i b q hb hq => ?_⟩
  rcases Nat.lt_or_ge i as.length with hi | hi
  · rw [List.getElem?_append_left hi] at hb
    rw [List.getElem?_append_left (h.len ▸ hi)] at hq
    exact h.at_ i b q hb hq
  · rw [List.getElem?_append_right hi] at hb
    rw [List.getElem?_append_right (h.len ▸ hi)] at hq
    have e0 : i - as.length = 0 := by
      have := (List.getElem?_eq_some_iff.mp hb).1
      simp at this
      omega
    have e1 : i - rs.length = 0 := by rw [← h.len]; exact e0
    rw [e0] at hb
    rw [e1] at hq
    simp at hb hq
    subst hb; subst hq
    exact ha
theorem SeqRows.append {H : Hp} : ∀ {bs : List Addr} {qs : List Row} {as : List Addr} {rs : List Row}, SeqRows H as rs → SeqRows H bs qs → SeqRows H (as ++ bs) (rs ++ qs)
  | [], [], as, rs, h, _ => by simpa using h
  | [], _ :: _, _, _, _, h => by have := h.len; simp at this
  | _ :: _, [], _, _, _, h => by have := h.len; simp at this
  | b :: bs, q :: qs, as, rs, h, h2 => by
    have h3 : SeqRows H bs qs := ⟨by simpa using h2.len, fun i a r ha hr => h2.at_ (i + 1) a r (by simpa using ha) (by simpa using hr)⟩
    have := SeqRows.append (h.snoc (h2.at_ 0 b q rfl rfl)) h3
    simpa using this
theorem rows_at {as : List Addr} {rs : List Row} {H : Hp} (h : RowsAt H as rs) {i : Nat} {x : V} (hx : (as.map V.ref)[i]? = some x) : ∃ ra r, x = .ref ra ∧ as[i]? = some ra ∧ rs[i]? = some r ∧ H ra = some (.tup (rowVs r)) := by
  rw [List.getElem?_map] at hx
  obtain ⟨ra, hra, rfl⟩ := Option.map_eq_some_iff.mp hx
  obtain ⟨r, hr'⟩ : ∃ r, rs[i]? = some r := ⟨rs[i]'(by rw [← h.len]; exact (List.getElem?_eq_some_iff.mp hra).1), List.getElem?_eq_getElem _⟩
  exact ⟨ra, r, rfl, hra, hr', h.at_ i ra r hra hr'⟩
theorem filter_more {rs : List Row} {i : Nat} {r : Row} (h : rs[i]? = some r) (p : Row → Bool) : (rs.take (i + 1)).filter p = (rs.take i).filter p ++ (if p r = true then [r] else []) := by
  rw [take_more h, List.filter_append]
  by_cases e : p r = true
  · rw [if_pos e, List.filter_cons_of_pos e]; rfl
  · rw [if_neg e, List.filter_cons_of_neg e]; rfl
/-- a new list that keeps some of the rows: what stands between two turns -/
structure KeepI (H0 H : Hp) (D : Addr) (qs : List Row) : Prop where
  same : Same H0 H
  ex : ∃ as : List Addr, H D = some (.lst (as.map V.ref)) ∧ RowsAt H as qs
theorem KeepI.nil {H : Hp} {D : Addr} (h : H D = none) : KeepI H (upd H D (.lst [])) D [] := ⟨Same.new h, [], upd_same, RowsAt.nil⟩
theorem KeepI.grow {H0 H H' : Hp} {D ra : Addr} {qs : List Row} {r : Row} (h : KeepI H0 H D qs) (hD : H0 D = none) (s : Same H H') (hr : H' ra = some (.tup (rowVs r))) (hl : qs.length ≤ 900) :
    ∃ acc, H' D = some (.lst acc) ∧ acc.length < sizeLine ∧ KeepI H0 (upd H' D (.lst (acc ++ [V.ref ra]))) D (qs ++ [r]) := by
  obtain ⟨as, h1, h2⟩ := h.ex
  have hD' := s _ _ h1
  have kt : ∀ {b : Addr} {xs : List V}, H' b = some (.tup xs) → (upd H' D (.lst (as.map V.ref ++ [V.ref ra]))) b = some (.tup xs) := fun {b xs} e => by
    rw [upd_ne (fun y => by rw [y, hD'] at e; cases e)]; exact e
  refine ⟨as.map V.ref, hD', small1000 (by rw [List.length_map, h2.len]; omega), fun b o e => ?_, as ++ [ra], by rw [upd_same, List.map_append]; rfl, RowsAt.snoc ⟨h2.len, fun j b q hb hq => kt (s _ _ (h2.at_ j b q hb hq))⟩ (kt hr)⟩
  rw [upd_ne (fun y => by rw [y, hD] at e; cases e)]
  exact s _ _ (h.same _ _ e)
theorem KeepI.on {H0 H H' : Hp} {D : Addr} {qs : List Row} (h : KeepI H0 H D qs) (s : Same H H') : KeepI H0 H' D qs := by
  obtain ⟨as, h1, h2⟩ := h.ex
  exact ⟨h.same.trans s, as, s _ _ h1, h2.same s⟩
def spMore (C : Addr) : Sp := fun vs H Q _ => ∃ (t a : Addr) (rs : List Row) (r : Row), vs = [.ref t, .ref a] ∧ TreeAt C H t rs ∧ Seq H a (rowVs r) ∧ Fits rs r ∧ rs.length + 1 ≤ 100 ∧ ∀ x H', Same H H' → TreeAt C H' x (rs ++ [r]) → Q (.ref x) H'
def spLess (C : Addr) : Sp := fun vs H Q _ => ∃ (t : Addr) (z : Str) (rs : List Row), vs = [.ref t, .str z] ∧ TreeAt C H t rs ∧ z ∈ names rs ∧ ∀ x H', Same H H' → TreeAt C H' x (lessL rs z) → Q (.ref x) H'
def spMoved (C : Addr) : Sp := fun vs H Q _ => ∃ (t : Addr) (m : Row) (fo : Str) (rs : List Row), vs = [.ref t, .str m.nm, .str fo] ∧ TreeAt C H t rs ∧ m ∈ rs ∧ (fo = ("top" : Str) ∨ ∃ q ∈ rs, q.nm = fo ∧ q.ki = ("folder" : Str) ∧ under rs m.nm q = false) ∧ ∀ x H', Same H H' → TreeAt C H' x (movedL rs m fo) → Q (.ref x) H'
end Ts

set_option maxRecDepth 100000
set_option maxHeartbeats 4000000
namespace Ts
open PySem L2
/-! ### making trees and meanings, as a caller reads it -/
theorem mean_made {K : PySem.W.Frag} {C CM : Addr} {Q : VK} {H : Hp} {t h : Addr} {d : Bool} {xs : List Str} {rs : List Row} (ht : TreeAt C H t rs) (hx : SqX K H h (xs.map V.str)) (hf : ∀ x ∈ xs, Free rs x)
    (k : ∀ m H', Same H H' → MeanAt C CM H' m t rs d (turnsL rs xs) → Q (.ref m) H') :
    ∀ x dx, H x = none → H dx = none → dx ≠ x → spMeaningInit K C CM (.ref x :: ([.ref t, .bl d, .ref h] ++ [])) (upd (upd H dx (.own x)) x (.ins CM dx [])) (fun v H2 => v = .non ∧ Q (.ref x) H2) E0 :=
  fun x dx nx nd _ => ⟨x, dx, t, h, d, xs, rs, rfl, upd_same, ht.same (mk_same0 nx nd), hx.same (mk_same0 nx nd), hf, fun H' sb m => ⟨rfl, k x H' (mk_same nx nd sb) m⟩⟩
theorem mean_madeD {K : PySem.W.Frag} {C CM : Addr} {Q : VK} {H : Hp} {t h : Addr} {d : Bool} {rs : List Row} (ht : TreeAt C H t rs) (hx : SqT K H h []) 
    (k : ∀ m H', Same H H' → MeanAt C CM H' m t rs d [] → Q (.ref m) H') :
    ∀ x dx, H x = none → H dx = none → dx ≠ x → spMeaningInit K C CM (.ref x :: ([.ref t, .bl d] ++ [.ref h])) (upd (upd H dx (.own x)) x (.ins CM dx [])) (fun v H2 => v = .non ∧ Q (.ref x) H2) E0 :=
  fun x dx nx nd _ => ⟨x, dx, t, h, d, [], rs, rfl, upd_same, ht.same (mk_same0 nx nd), (show SqX K H h [] from .inr hx).same (mk_same0 nx nd), (fun x hx => by cases hx), fun H' sb m => ⟨rfl, k x H' (mk_same nx nd sb) (by
    have e : turnsL rs [] = [] := by unfold turnsL; simp
    rw [e] at m
    exact m)⟩⟩
theorem tree_made {C : Addr} {Q : VK} {H : Hp} {p : Addr} {as : List Addr} {rs : List Row} (hp : Seq H p (as.map V.ref)) (hr : SeqRows H as rs) (hl : rs.length ≤ 100) (hv : Valid rs)
    (k : ∀ t H', Same H H' → TreeAt C H' t rs → Q (.ref t) H') :
    ∀ x dx, H x = none → H dx = none → dx ≠ x → spTreeInit C (.ref x :: ([.ref p] ++ [])) (upd (upd H dx (.own x)) x (.ins C dx [])) (fun v H2 => v = .non ∧ Q (.ref x) H2) E0 :=
  fun x dx nx nd _ => ⟨x, dx, p, as, rs, rfl, upd_same, hp.same (mk_same0 nx nd), hr.same (mk_same0 nx nd), hl, hv, fun H' sb m => ⟨rfl, k x H' (mk_same nx nd sb) m⟩⟩
theorem newz_len : ("newz" : Str).length = 4 := by decide +kernel
theorem newz_low : Low ("newz" : Str) := by unfold Low; decide +kernel
theorem newz_fits {rs : List Row} (hn : ∀ r ∈ rs, r.nm.length ≠ 4) {fo : Str} (hfo : fo = ("top" : Str) ∨ fo ∈ folderNames rs) : Fits rs ⟨"newz", fo, "item", some 1⟩ := by
  refine ⟨⟨.inr newz_len, newz_low⟩, fun e => ?_, fun hm => ?_, hfo.imp id mem_folders, (show ("item" : Str) ∈ kinds3 by decide +kernel), (show (1 : Int) ≤ 1 by decide)⟩
  · have := congrArg Str.length e
    rw [show (Row.nm ⟨"newz", fo, "item", some 1⟩) = ("newz" : Str) from rfl, newz_len, top_len] at this
    exact absurd this (by decide)
  · obtain ⟨r, h1, h2⟩ := List.mem_map.mp hm
    exact hn r h1 (by rw [h2]; exact newz_len)
theorem newz_not {rs : List Row} (hn : ∀ r ∈ rs, r.nm.length ≠ 4) : ("newz" : Str) ∉ names rs := fun hm => by
  obtain ⟨r, h1, h2⟩ := List.mem_map.mp hm
  exact hn r h1 (by rw [h2]; exact newz_len)
theorem rowOf_app {rs qs : List Row} {z : Str} {r : Row} (h : rowOf rs z = some r) : rowOf (rs ++ qs) z = some r := by
  unfold rowOf at h ⊢
  rw [List.find?_append, h]; rfl
theorem Free.app {rs qs : List Row} {z : Str} (h : Free rs z) : Free (rs ++ qs) z := by
  obtain ⟨r, e, hp⟩ := h
  exact ⟨r, rowOf_app e, hp⟩
end Ts

set_option maxRecDepth 100000
set_option maxHeartbeats 4000000
namespace Ts
open PySem L2
/-! ### all but lists is kept -/
def KL (H H' : Hp) : Prop := ∀ b o, H b = some o → (∀ xs, o ≠ .lst xs) → H' b = some o
theorem KL.of {H H' : Hp} (s : Same H H') : KL H H' := fun b o e _ => s b o e
theorem KL.refl (H : Hp) : KL H H := fun _ _ e _ => e
theorem KL.trans {H H1 H2 : Hp} (x : KL H H1) (y : KL H1 H2) : KL H H2 := fun b o e n => y b o (x b o e n) n
theorem KL.upd {H : Hp} {l : Addr} {xs : List V} {o : HO} (h : H l = some (.lst xs)) : KL H (L2.upd H l o) := fun b o e n => by
  rw [upd_ne (fun q => by rw [q, h] at e; exact n _ (Option.some.inj e).symm)]
  exact e
theorem RowsAt.kl {H H' : Hp} {as : List Addr} {rs : List Row} (h : RowsAt H as rs) (s : KL H H') : RowsAt H' as rs := ⟨h.len, fun i a r ha hr => s _ _ (h.at_ i a r ha hr) (fun _ e => nomatch e)⟩
theorem TreeAt.kl {C : Addr} {H H' : Hp} {t : Addr} {rs : List Row} (h : TreeAt C H t rs) (s : KL H H') : TreeAt C H' t rs := by
  obtain ⟨dx, q, f, k, p, qs, h1, h2, h3, h4, h5, h6⟩ := h.ex
  exact ⟨⟨dx, q, f, k, p, qs, s _ _ h1 (fun _ e => nomatch e), s _ _ h2 (fun _ e => nomatch e), h3.kl s, s _ _ h4 (fun _ e => nomatch e), s _ _ h5 (fun _ e => nomatch e), s _ _ h6 (fun _ e => nomatch e)⟩, h.val, h.len⟩
theorem MeanAt.kl {C CM : Addr} {H H' : Hp} {m t : Addr} {rs : List Row} {d : Bool} {ts : List Str} (h : MeanAt C CM H m t rs d ts) (s : KL H H') : MeanAt C CM H' m t rs d ts := by
  obtain ⟨dx, u, k, h1, h2, h3⟩ := h.ex
  exact ⟨⟨dx, u, k, s _ _ h1 (fun _ e => nomatch e), s _ _ h2 (fun _ e => nomatch e), s _ _ h3 (fun _ e => nomatch e)⟩, h.tree.kl s, h.norm⟩
theorem any_falses : ∀ n : Nat, (List.replicate n false).any id = false
  | 0 => rfl
  | n + 1 => by rw [List.replicate_succ, List.any_cons, any_falses n]; rfl
theorem all_trues : ∀ n : Nat, (List.replicate n true).all id = true
  | 0 => rfl
  | n + 1 => by rw [List.replicate_succ, List.all_cons, all_trues n]; rfl
theorem KL.sb {H H' : Hp} {a : Addr} {n : Int} (st : Stm H a n) (s : SB a H H') : KL H H' := fun b o e no => s b o (fun q => by
  obtain ⟨x, y, z, ea, _⟩ := st
  rw [q, ea] at e
  exact no _ (Option.some.inj e).symm) e
theorem RowsL.sbk {H H' : Hp} {a p : Addr} {rs : List Row} {n : Int} (h : RowsL H p rs) (np : p ≠ a) (st : Stm H a n) (s : SB a H H') : RowsL H' p rs := by
  obtain ⟨as, h1, h2⟩ := h.ex
  exact ⟨as, s _ _ np h1, h2.kl (KL.sb st s)⟩
theorem RowsL.upd {H : Hp} {p l : Addr} {xs : List V} {o : HO} {rs : List Row} (h : RowsL H p rs) (np : p ≠ l) (e : H l = some (.lst xs)) : RowsL (L2.upd H l o) p rs := by
  obtain ⟨as, h1, h2⟩ := h.ex
  exact ⟨as, by rw [upd_ne np]; exact h1, h2.kl (KL.upd e)⟩
theorem smb {H H1 H2 : Hp} {a : Addr} (h : Same H H1) (ha : H a = none) (s : SB a H1 H2) : Same H H2 := fun b o e => s b o (ne_of_none e ha) (h b o e)
theorem smu {H H1 : Hp} {a : Addr} {o : HO} (h : Same H H1) (ha : H a = none) : Same H (L2.upd H1 a o) := fun b o e => by
  rw [upd_ne (ne_of_none e ha)]
  exact h b o e
theorem cut_str (ts : List Str) (lo hi : Option Int) : ∃ zs : List Str, cutV (ts.map V.str) lo hi = zs.map V.str ∧ (∀ z ∈ zs, z ∈ ts) ∧ zs.length ≤ ts.length := by
  refine ⟨(ts.drop (HT.sIx (ts.map V.str).length 0 lo)).take (HT.sIx (ts.map V.str).length (ts.map V.str).length hi - HT.sIx (ts.map V.str).length 0 lo), ?_, fun z hz => List.mem_of_mem_drop (List.mem_of_mem_take hz), ?_⟩
  · unfold cutV
    rw [← List.map_drop, ← List.map_take]
  · rw [List.length_take, List.length_drop]; omega
theorem prices_ok : ∀ q ∈ pricesL, PriceOk q := by
  intro q hq
  simp [pricesL] at hq
  rcases hq with rfl | rfl | rfl | rfl | rfl <;> simp [PriceOk]
theorem kinds_ok3 : ∀ k ∈ kindsL, k ∈ kinds3 := by decide +kernel
theorem paired_same {H H' : Hp} (s : Same H H') : ∀ {ts : List Addr} {qs : List (Key × V)}, Paired (fun (t : Addr) (q : Key × V) => H t = some (.tup [kV q.1, q.2])) ts qs → Paired (fun (t : Addr) (q : Key × V) => H' t = some (.tup [kV q.1, q.2])) ts qs
  | _, _, .nil => .nil
  | _, _, .cons h t => .cons (s _ _ h) (paired_same s t)
theorem iteF' {c : Bool} {A B : Prop} (h : c = false) (b : B) : if c = true then A else B := by rw [h]; exact b
theorem kvM_at {rs : List Row} {d : Bool} {ts : List Str} {j : Nat} {k : Key} {v : V} (h : (kvM rs d ts rs)[j]? = some (k, v)) : ∃ z : Str, k = .inr z ∧ (z = ("top" : Str) ∨ z ∈ names rs) := by
  have hm := List.mem_of_getElem? h
  unfold kvM at hm
  rcases List.mem_cons.mp hm with e | hm
  · exact ⟨"top", (Prod.mk.inj e).1, .inl rfl⟩
  · unfold kvF at hm
    obtain ⟨r, hr, e⟩ := List.mem_map.mp hm
    exact ⟨r.nm, (Prod.mk.inj e).1.symm, .inr (List.mem_map.mpr ⟨r, hr, rfl⟩)⟩
theorem valV_kvM' {rs : List Row} (h : Valid rs) (d : Bool) (ts : List Str) {z : Str} (hz : z = ("top" : Str) ∨ z ∈ names rs) : valV (kvM rs d ts rs) (.inr z : Key) = some (.bl (valOf rs d ts z)) :=
  valV_kvM h d ts (by
    by_cases e : z = ("top" : Str)
    · exact .inl e
    · exact .inr ⟨e, hz.resolve_left e⟩)
def spLaw (K : PySem.W.Frag) : Sp := fun vs H Q _ => ∃ (a : Addr) (ns : List Int), vs = [.ref a] ∧ SqL K H a (ns.map V.int) ∧ ns.length ≤ 63 ∧ ∀ H', Q (.bl true) H'
/-- how the class of trees stands to other sorts -/
structure TxN (K : PySem.W.Frag) (C : Addr) : Prop where
  ne : PySem.W.findIn K (.ref C) "__ne__" = some (some (.builtin "object.__ne__"))
  ob : PySem.W.subIn K (.ref C) (.type "object") = some true
theorem nfC {K : PySem.W.Frag} {C : Addr} : PySem.W.notFirst K C (.ref C) = true := by simp [PySem.W.notFirst]
end Ts

set_option maxRecDepth 100000
set_option maxHeartbeats 4000000
namespace Ts
open PySem L2
/-! ### two meanings of one tree -/
/-- the top and the boxes -/
def plc (rs : List Row) : List Str := ("top" : Str) :: names rs
theorem val_all {rs : List Row} (hv : Valid rs) {d d2 : Bool} {ts us : List Str} (h1 : turnsL rs ts = ts) (h2 : turnsL rs us = us) : (∀ z ∈ plc rs, valOf rs d ts z = valOf rs d2 us z) ↔ (d = d2 ∧ ts = us) := by
  constructor
  · intro h
    have hd : d = d2 := by
      have := h ("top" : Str) (List.mem_cons_self ..)
      rw [val_top hv, val_top hv] at this
      exact this
    refine ⟨hd, ?_⟩
    rw [← h1, ← h2]
    unfold turnsL
    refine List.filter_congr fun z hz => ?_
    obtain ⟨r, hr, rfl⟩ := List.mem_map.mp hz
    have e1 := h r.nm (List.mem_cons_of_mem _ hz)
    have e2 := h r.fo (by
      rcases hv.foAll hr with e | e
      · rw [e]; exact List.mem_cons_self ..
      · exact List.mem_cons_of_mem _ e)
    rw [val_step hv d ts hr, val_step hv d2 us hr, e2] at e1
    revert e1
    generalize valOf rs d2 us r.fo = b
    generalize decide (r.nm ∈ ts) = x
    generalize decide (r.nm ∈ us) = y
    cases b <;> cases x <;> cases y <;> simp
  · rintro ⟨rfl, rfl⟩ z _
    rfl
theorem val_norm {rs : List Row} (d : Bool) (us : List Str) (z : Str) : valOf rs d (turnsL rs us) z = valOf rs d us z :=
  valOf_congr fun x hx => by rw [mem_turnsL]; exact ⟨fun e => e.2, fun e => ⟨hx, e⟩⟩
def firstUn (rs : List Row) (d : Bool) (ts : List Str) (d2 : Bool) (us : List Str) : Option Str := (plc rs).find? fun z => decide (valOf rs d ts z ≠ valOf rs d2 us z)
def optS : Option Str → V
  | none => .non
  | some z => .str z
theorem find_at {α : Type} {p : α → Bool} : ∀ {l : List α} {i : Nat} {z : α}, (∀ x ∈ l.take i, p x = false) → l[i]? = some z → p z = true → l.find? p = some z
  | [], i, z, _, h, _ => by simp at h
  | x :: l, 0, z, _, h, hp => by
    have e : x = z := Option.some.inj h
    subst e
    rw [List.find?_cons_of_pos hp]
  | x :: l, i + 1, z, hx, h, hp => by
    have h0 := hx x (by rw [List.take_succ_cons]; exact List.mem_cons_self ..)
    rw [List.find?_cons_of_neg (by rw [h0]; exact Bool.false_ne_true)]
    exact find_at (fun y hy => hx y (by rw [List.take_succ_cons]; exact List.mem_cons_of_mem _ hy)) (by simpa using h) hp
theorem kvM_plc {rs : List Row} {d : Bool} {ts : List Str} {j : Nat} {k : Key} {v : V} (h : (kvM rs d ts rs)[j]? = some (k, v)) : ∃ z : Str, k = .inr z ∧ (plc rs)[j]? = some z := by
  have e : (kvM rs d ts rs).map Prod.fst = (plc rs).map Sum.inr := by
    unfold kvM plc names kvF
    rw [List.map_cons, List.map_cons, List.map_map, List.map_map]
    rfl
  have e2 : ((kvM rs d ts rs).map Prod.fst)[j]? = some k := by rw [List.getElem?_map, h]; rfl
  rw [e, List.getElem?_map] at e2
  obtain ⟨z, hz, e3⟩ := Option.map_eq_some_iff.mp e2
  exact ⟨z, e3.symm, hz⟩
theorem kvM_len (rs : List Row) (d : Bool) (ts : List Str) : (kvM rs d ts rs).length = (plc rs).length := by
  unfold kvM plc names kvF
  simp
theorem mem_plc {rs : List Row} {z : Str} : z ∈ plc rs ↔ z = ("top" : Str) ∨ z ∈ names rs := List.mem_cons
/-! ### two sorted lists of the same texts -/
theorem ltCps_irr : ∀ l : List Nat, PySem.Spec.ltCps l l = false
  | [] => rfl
  | a :: l => by simp [PySem.Spec.ltCps, ltCps_irr l]
theorem ltCps_total : ∀ (a b : List Nat), PySem.Spec.ltCps a b = false → PySem.Spec.ltCps b a = false → a = b
  | [], [], _, _ => rfl
  | [], _ :: _, h, _ => by simp [PySem.Spec.ltCps] at h
  | _ :: _, [], _, h => by simp [PySem.Spec.ltCps] at h
  | x :: a, y :: b, h1, h2 => by
    simp only [PySem.Spec.ltCps, Bool.or_eq_false_iff, decide_eq_false_iff_not, Bool.and_eq_false_iff, beq_eq_false_iff_ne] at h1 h2
    have e : x = y := by omega
    subst e
    rw [ltCps_total a b (h1.2.resolve_left (by simp)) (h2.2.resolve_left (by simp))]
theorem geCps_trans : ∀ (a b c : List Nat), PySem.Spec.ltCps b a = false → PySem.Spec.ltCps c b = false → PySem.Spec.ltCps c a = false
  | [], [], [], _, _ => rfl
  | [], _, _ :: _, _, _ => by simp [PySem.Spec.ltCps]
  | [], _ :: _, [], _, h => by simp [PySem.Spec.ltCps] at h
  | _ :: _, [], _, h, _ => by simp [PySem.Spec.ltCps] at h
  | _ :: _, _ :: _, [], _, h => by simp [PySem.Spec.ltCps] at h
  | x :: a, y :: b, z :: c, h1, h2 => by
    simp only [PySem.Spec.ltCps, Bool.or_eq_false_iff, decide_eq_false_iff_not, Bool.and_eq_false_iff, beq_eq_false_iff_ne] at h1 h2 ⊢
    refine ⟨by omega, ?_⟩
    by_cases e : z = x
    · right
      have e1 : y = x := by omega
      have e2 : z = y := by omega
      exact geCps_trans a b c (h1.2.resolve_left (by simp [e1])) (h2.2.resolve_left (by simp [e2]))
    · left; exact e
theorem pw_of_rising : ∀ (l : List Str) (p : Str), PyProof.Rows.risingS p l = true → (p :: l).Pairwise fun a b => PySem.Spec.ltCps b.cps.toList a.cps.toList = false
  | [], p, _ => by simp
  | x :: l, p, h => by
    have h' : (!PySem.Spec.ltCps x.cps.toList p.cps.toList && PyProof.Rows.risingS x l) = true := h
    rw [Bool.and_eq_true, Bool.not_eq_true'] at h'
    have ih := pw_of_rising l x h'.2
    rw [List.pairwise_cons]
    refine ⟨fun y hy => ?_, ih⟩
    rcases List.mem_cons.mp hy with rfl | hy
    · exact h'.1
    · exact geCps_trans _ _ _ h'.1 (List.rel_of_pairwise_cons ih hy)
theorem pw_of_sorted : ∀ {l : List Str}, PyProof.Rows.sortedS l = true → l.Pairwise fun a b => PySem.Spec.ltCps b.cps.toList a.cps.toList = false
  | [], _ => List.Pairwise.nil
  | x :: l, h => pw_of_rising l x h
theorem str_of_cps {a b : Str} (h : a.cps.toList = b.cps.toList) : a = b := by
  cases a; cases b
  simp only at h
  rw [Str.mk.injEq]
  exact Array.ext' h
theorem sorted_same {xs ys zs ws : List Str} (p1 : xs.Perm zs) (p2 : ys.Perm ws) (s1 : PyProof.Rows.sortedS xs = true) (s2 : PyProof.Rows.sortedS ys = true) : xs = ys ↔ zs.Perm ws := by
  constructor
  · rintro rfl
    exact p1.symm.trans p2
  · intro h
    refine List.Perm.eq_of_pairwise (le := fun a b => PySem.Spec.ltCps b.cps.toList a.cps.toList = false) (fun a b _ _ h1 h2 => str_of_cps (ltCps_total _ _ h2 h1)) (pw_of_sorted s1) (pw_of_sorted s2) ((p1.trans h).trans p2.symm)
/-! ### what newcomers show -/
def newL (rs : List Row) (d : Bool) (ts : List Str) : List Bool := ((("top" : Str) :: folderNames rs).flatMap fun fo => [valOf rs d ts fo, valOf rs d ts fo]) ++ rs.map fun r => valOf rs d ts r.nm
theorem newL_eq {rs : List Row} {d d2 : Bool} {ts us : List Str} : newL rs d ts = newL rs d2 us ↔ ∀ z ∈ plc rs, valOf rs d ts z = valOf rs d2 us z := by
  unfold newL
  constructor
  · intro h
    have hl : ((("top" : Str) :: folderNames rs).flatMap fun fo => [valOf rs d ts fo, valOf rs d ts fo]).length = ((("top" : Str) :: folderNames rs).flatMap fun fo => [valOf rs d2 us fo, valOf rs d2 us fo]).length := by
      simp only [List.length_flatMap]; rfl
    obtain ⟨h1, h2⟩ := List.append_inj h hl
    intro z hz
    rcases mem_plc.mp hz with rfl | hz
    · rw [List.flatMap_cons, List.flatMap_cons] at h1
      have := List.append_inj h1 rfl
      exact (List.cons.inj this.1).1
    · obtain ⟨r, hr, rfl⟩ := List.mem_map.mp hz
      exact List.map_inj_left.mp h2 r hr
  · intro h
    congr 1
    · rw [List.flatMap_def, List.flatMap_def]
      refine congrArg List.flatten (List.map_congr_left fun fo hfo => ?_)
      rw [h fo (by
        rcases List.mem_cons.mp hfo with rfl | hfo
        · exact List.mem_cons_self ..
        · obtain ⟨q, hq, rfl, _⟩ := mem_folders hfo
          exact List.mem_cons_of_mem _ (List.mem_map.mpr ⟨q, hq, rfl⟩))]
    · exact List.map_congr_left fun r hr => h r.nm (List.mem_cons_of_mem _ (List.mem_map.mpr ⟨r, hr, rfl⟩))
theorem bools_dp {K : PySem.W.Frag} {H : Hp} : ∀ l : List Bool, DpAll K H (l.map V.bl) (l.map PyData.bool)
  | [] => .nil
  | x :: l => .cons (.bl x) (bools_dp l)
theorem bools_eqv : ∀ a b : List Bool, PyData.eqvAll (a.map PyData.bool) (b.map PyData.bool) = decide (a = b)
  | [], [] => by simp [PyData.eqvAll]
  | [], _ :: _ => by simp [PyData.eqvAll]
  | _ :: _, [] => by simp [PyData.eqvAll]
  | x :: a, y :: b => by
    simp only [List.map_cons, PyData.eqvAll, PyData.eqv, bools_eqv a b]
    by_cases h : a = b <;> cases x <;> cases y <;> simp [h]
theorem bools_lay : ∀ l : List Bool, PyData.canLayAll0 (l.map PyData.bool) = true
  | [] => by simp [PyData.canLayAll0]
  | x :: l => by simp [PyData.canLayAll0, PyData.canLay0, bools_lay l]
theorem bools_depth : ∀ l : List Bool, PyData.depthAll (l.map PyData.bool) = 0
  | [] => by simp [PyData.depthAll]
  | x :: l => by simp [PyData.depthAll, PyData.depth, bools_depth l]
theorem shaped_bools (l : List Bool) : SeqAt.shaped (.list (l.map PyData.bool)) = true := by
  unfold SeqAt.shaped
  rw [Bool.and_eq_true]
  refine ⟨by simp only [PyData.canLay0]; exact bools_lay l, decide_eq_true ?_⟩
  simp only [PyData.depth, bools_depth]
  omega
end Ts

set_option maxRecDepth 100000
set_option maxHeartbeats 4000000
namespace Ts
open PySem L2
/-! ### == and != of dicts of one and the same keys, with flat values -/
def kvX (f : Str → V) (l : List Str) : List (Key × V) := l.map fun z => ((.inr z : Key), f z)
theorem valV_kvX (f : Str → V) {z : Str} : ∀ {l : List Str}, z ∈ l → valV (kvX f l) (.inr z : Key) = some (f z)
  | x :: l, hz => by
    show ((((((.inr x : Key), f x) :: kvX f l).find? fun kv => decide (kv.1 = (.inr z : Key))).map (·.2)) : Option V) = some (f z)
    by_cases e : x = z
    · subst e
      rw [List.find?_cons_of_pos (by simp)]; rfl
    · rw [List.find?_cons_of_neg (by simpa using e)]
      exact valV_kvX f ((List.mem_cons.mp hz).resolve_left fun q => e q.symm)
def allE (f g : Str → V) (l : List Str) : Bool := l.all fun z => eqV (f z) (g z)
theorem hitsX {A : Around} {s : Shared} {f g : Str → V} {L : List Str} {vb : List (Key × Value)} (rb : KV (kvX g L) vb) : ∀ {l : List Str} {va : List (Key × Value)}, KV (kvX f l) va → (∀ z ∈ l, z ∈ L ∧ flatV (f z) = true ∧ flatV (g z) = true) → PySem.W.KeqHits A s vb va (allE f g l)
  | [], va, ra, _ => by
    unfold KV kvX at ra
    cases ra
    exact .nil
  | z :: l, va, ra, h => by
    have ra' : Paired _ (((.inr z : Key), f z) :: kvX f l) va := ra
    cases ra' with
    | cons h1 t =>
      rename_i q qs
      obtain ⟨e1, e2⟩ := h1
      obtain ⟨hz, f1, f2⟩ := h z (List.mem_cons_self ..)
      have rr : RelO (some (g z)) (valueAt vb (.inr z : Key)) := by rw [← valV_kvX g hz]; exact rb.val _
      obtain ⟨y, hy, ry⟩ := rr.some_of
      obtain ⟨key, v⟩ := q
      have e1' : (Sum.inr z : Key) = key := e1
      rw [e1'] at hy
      exact .hit hy (eqAt_V e2 ry f1 f2) (hitsX rb t fun x hx => h x (List.mem_cons_of_mem _ hx))
section
variable {X : Cx}
def rEqX : R2 := fun x y H Q => ∃ (a b : Addr) (f g : Str → V) (l : List Str), x = .ref a ∧ y = .ref b ∧ H a = some (.dK (kvX f l)) ∧ H b = some (.dK (kvX g l)) ∧ (∀ z ∈ l, flatV (f z) = true ∧ flatV (g z) = true) ∧ Q (.bl (allE f g l)) H
def rNeX : R2 := fun x y H Q => ∃ (a b : Addr) (f g : Str → V) (l : List Str), x = .ref a ∧ y = .ref b ∧ H a = some (.dK (kvX f l)) ∧ H b = some (.dK (kvX g l)) ∧ (∀ z ∈ l, flatV (f z) = true ∧ flatV (g z) = true) ∧ Q (.bl (!allE f g l)) H
theorem op_eqX (hu : X.A.units < cLine) : OpR X (compareOp .Eq) rEqX := by
  intro pins s σ H x y v u Q I rx ry h
  obtain ⟨a, b, f, g, l, rfl, rfl, ea, eb, hf, q⟩ := h
  obtain rfl : v = Value.ref a := rx
  obtain rfl : u = Value.ref b := ry
  obtain ⟨_, ya, va, ra, da⟩ := (show ObjOk X.prog X.w H s.heap a (.dK (kvX f l)) from I.hok a _ ea)
  obtain ⟨_, yb, vb, rb, db⟩ := (show ObjOk X.prog X.w H s.heap b (.dK (kvX g l)) from I.hok b _ eb)
  have hl : va.length = vb.length := by rw [← ra.length, ← rb.length]; unfold kvX; rw [List.length_map, List.length_map]
  refine PySem.W.keq_eq (knd := mixKind X.prog X.w) (r := allE f g l) ya yb da db hu (fun _ => hitsX rb ra fun z hz => ⟨hz, hf z hz⟩) ?_
  rw [show (va.length == vb.length && allE f g l) = allE f g l from by rw [hl]; simp]
  exact ⟨.bl _, H, I, rfl, q⟩
theorem op_neX (hu : X.A.units < cLine) : OpR X (compareOp .NotEq) rNeX := by
  intro pins s σ H x y v u Q I rx ry h
  obtain ⟨a, b, f, g, l, rfl, rfl, ea, eb, hf, q⟩ := h
  obtain rfl : v = Value.ref a := rx
  obtain rfl : u = Value.ref b := ry
  obtain ⟨_, ya, va, ra, da⟩ := (show ObjOk X.prog X.w H s.heap a (.dK (kvX f l)) from I.hok a _ ea)
  obtain ⟨_, yb, vb, rb, db⟩ := (show ObjOk X.prog X.w H s.heap b (.dK (kvX g l)) from I.hok b _ eb)
  have hl : va.length = vb.length := by rw [← ra.length, ← rb.length]; unfold kvX; rw [List.length_map, List.length_map]
  refine PySem.W.keq_ne (knd := mixKind X.prog X.w) (r := allE f g l) ya yb da db hu (fun _ => hitsX rb ra fun z hz => ⟨hz, hf z hz⟩) ?_
  rw [show (va.length == vb.length && allE f g l) = allE f g l from by rw [hl]; simp]
  exact ⟨.bl _, H, I, rfl, q⟩
theorem hitsP {P : Program} {w : World} {A : Around} {s : Shared} {vb : List (Key × Value)} : ∀ {va : List (Key × Value)} {r : Bool}, PySem.W.KeqHits A s vb va r → PySem.W.KeqHitsP P w A s vb va r := fun h => by
  induction h with
  | nil => exact .nil
  | miss h => exact .miss h
  | hit h e _ k => exact .hit h e.eqP k
theorem eqP_dicts {pins : List (Addr × Obj)} {σ : St} {H : Hp} {s : Shared} (I : Inv X pins σ H s) {A : Around} (hu : A.units < cLine) {a b : Addr} {f g : Str → V} {l : List Str} (ea : H a = some (.dK (kvX f l))) (eb : H b = some (.dK (kvX g l))) (hf : ∀ z ∈ l, flatV (f z) = true ∧ flatV (g z) = true)
    (same : a = b → allE f g l = true) : SeqAt.EqP X.prog X.w A s (.ref a) (.ref b) (allE f g l) := by
  by_cases e : a = b
  · rw [same e]
    subst e
    exact (SeqAt.EqAt.same _).eqP
  · refine SeqAt.eqP_refs e fun E Q q => ?_
    obtain ⟨_, ya, va, ra, da⟩ := (show ObjOk X.prog X.w H s.heap a (.dK (kvX f l)) from I.hok a _ ea)
    obtain ⟨_, yb, vb, rb, db⟩ := (show ObjOk X.prog X.w H s.heap b (.dK (kvX g l)) from I.hok b _ eb)
    have hl : va.length = vb.length := by rw [← ra.length, ← rb.length]; unfold kvX; rw [List.length_map, List.length_map]
    refine PySem.W.rcP_dicts (knd := mixKind X.prog X.w) (r := allE f g l) ya yb da db hu (fun _ => hitsP (hitsX rb ra fun z hz => ⟨hz, hf z hz⟩)) E Q ?_
    rw [show (va.length == vb.length && allE f g l) = allE f g l from by rw [hl]; simp]
    exact q
/-- two lists of two such dicts each -/
def rEq2X : R2 := fun x y H Q => ∃ (a b d1 d2 e1 e2 : Addr) (f1 f2 g1 g2 : Str → V) (l : List Str), x = .ref a ∧ y = .ref b ∧ H a = some (.lst [.ref d1, .ref d2]) ∧ H b = some (.lst [.ref e1, .ref e2]) ∧ H d1 = some (.dK (kvX f1 l)) ∧ H d2 = some (.dK (kvX f2 l)) ∧ H e1 = some (.dK (kvX g1 l)) ∧ H e2 = some (.dK (kvX g2 l)) ∧
  (∀ z ∈ l, flatV (f1 z) = true ∧ flatV (g1 z) = true) ∧ (∀ z ∈ l, flatV (f2 z) = true ∧ flatV (g2 z) = true) ∧ d1 ≠ e1 ∧ d2 ≠ e2 ∧ Q (.bl (allE f1 g1 l && allE f2 g2 l)) H
theorem op_eq2X (hu : X.A.units + 64 < cLine) : OpR X (compareOp .Eq) rEq2X := by
  intro pins s σ H x y v u Q I rx ry h
  obtain ⟨a, b, d1, d2, e1, e2, f1, f2, g1, g2, l, rfl, rfl, ha, hb, hd1, hd2, he1, he2, hf1, hf2, n1, n2, q⟩ := h
  obtain rfl : v = Value.ref a := rx
  obtain rfl : u = Value.ref b := ry
  obtain ⟨us, r1, p1, _⟩ := I.list (show SqL X.K H a _ from SqL.of ha)
  obtain ⟨ws, r2, p2, _⟩ := I.list (show SqL X.K H b _ from SqL.of hb)
  have hin : X.A.in1.units < cLine := by show X.A.units + 1 < cLine; omega
  obtain rfl : us = [.ref d1, .ref d2] := by
    cases r1 with
    | cons x1 t => cases t with
      | cons x2 t => cases t; cases x1; cases x2; rfl
  obtain rfl : ws = [.ref e1, .ref e2] := by
    cases r2 with
    | cons x1 t => cases t with
      | cons x2 t => cases t; cases x1; cases x2; rfl
  refine SeqAt.rcP_lists (e := fun j => if j = 0 then allE f1 g1 l else allE f2 g2 l) p1.isList p2.isList rfl (by omega) (fun j h1 h2 => ?_) _ _ ?_
  · match j, h1 with
    | 0, _ => exact eqP_dicts I hin hd1 he1 hf1 fun e => absurd e n1
    | 1, _ => exact eqP_dicts I hin hd2 he2 hf2 fun e => absurd e n2
  · refine ⟨.bl _, H, I, rfl, ?_⟩
    have e : ((List.range #[Value.ref d1, Value.ref d2].size).all fun j => if j = 0 then allE f1 g1 l else allE f2 g2 l) = (allE f1 g1 l && allE f2 g2 l) := by
      show ((List.range 2).all fun j => if j = 0 then allE f1 g1 l else allE f2 g2 l) = _
      simp [List.range, List.range.loop]
    show Q (.bl ((List.range #[Value.ref d1, Value.ref d2].size).all fun j => if j = 0 then allE f1 g1 l else allE f2 g2 l)) H
    rw [e]
    exact q
theorem pt_weak {e : Expr} {t : TT} (h : PT X e t) : PT X e (fun σ H Q => ∃ R : Bool → Hp → Prop, t σ H R ∧ ∀ b H', R b H' → Q b H') := ⟨fun pins s σ H Q I ⟨R, h1, h2⟩ => thn (h.run pins s σ H R I h1) fun u s1 ⟨H1, I1, q⟩ => ⟨H1, I1, h2 _ _ q⟩⟩
theorem pe_weak {e : Expr} {te : TE} (h : PE X e te) : PE X e (fun σ H Q => ∃ R : VK, te σ H R ∧ ∀ v H', R v H' → Q v H') := ⟨fun pins s σ H Q I ⟨R, h1, h2⟩ => thn (h.run pins s σ H R I h1) fun u s1 ⟨x, H1, I1, rx, q⟩ => ⟨x, H1, I1, rx, h2 _ _ q⟩⟩
end
end Ts

set_option maxRecDepth 100000
set_option maxHeartbeats 4000000
namespace Ts
open PySem L2
/-! ### own operators between two objects of one class -/
def rBinC (C : Addr) (sp : Sp) (E : XK) : R2 := fun x y H Q => ∃ (a b dx dy : Addr) (fs gs : List (Str × V)), x = .ref a ∧ y = .ref b ∧ H a = some (.ins C dx fs) ∧ H b = some (.ins C dy gs) ∧ sp [.ref a, .ref b] H (fun v H' => ∃ r : Addr, v = .ref r ∧ Q v H') E
def rInvC (C : Addr) (sp : Sp) (E : XK) : V → Hp → VK → Prop := fun x H Q => ∃ (a dx : Addr) (fs : List (Str × V)), x = .ref a ∧ H a = some (.ins C dx fs) ∧ sp [.ref a] H Q E
section
variable {X : Cx} {k : Nat} {C f : Addr} {fd : FuncData} {ps : List Str} {sp : Sp} {CX : CXT} {E : XK}
theorem op_binC {op : Operator} {nm : Str} (F : FnOk X.prog X.w X.K X.mg X.base CX k f fd ps sp) (m : Meth X.K C nm f) (hn : PySem.dunder op.info.2 = nm) (hc : PySem.W.selfFirst X.K C = true) (hr : Room k X.A) (hb : Binds X.K fd ps []) (hx : Passes CX X E) : OpR X (binaryOp op) (rBinC C sp E) := by
  intro pins s σ H x y v u Q I rx ry hq
  obtain ⟨a, b, dx, dy, fs, gs, rfl, rfl, ha, hb', hsp⟩ := hq
  cases rx
  cases ry
  obtain ⟨mA, J, _⟩ := ins_get I.hok ha
  obtain ⟨od, J, _⟩ := J.look
  obtain ⟨mm, hF⟩ := I.fr
  refine PySem.W.binop_K hF I.ok.mod.kin J (ty_looks I (show RelV (.ref b) (.ref b) from rfl) (.ins hb')) hc (by rw [hn]; exact m.at_) m.fn ?_
  refine wpAny_mono (run_at F hr rfl hb hx I (us := [.ref a, .ref b]) (.cons (show RelV (.ref a) (.ref a) from rfl) (.cons (show RelV (.ref b) (.ref b) from rfl) .nil)) hsp) (fun r s' hq => ?_) fun _ _ x => x
  obtain ⟨z, H', I', rz, q, rfl, hQ⟩ := hq
  cases rz
  exact ⟨.ref q, H', I', rfl, hQ⟩
theorem un_invC (F : FnOk X.prog X.w X.K X.mg X.base CX k f fd ps sp) (m : Meth X.K C "__invert__" f) (hr : Room k X.A) (hb : Binds X.K fd ps []) (hx : Passes CX X E) : UnR X (unaryOp .Invert) (rInvC C sp E) := by
  intro pins s σ H x v Q I rx hq
  obtain ⟨a, dx, fs, rfl, ha, hsp⟩ := hq
  cases rx
  obtain ⟨mA, J, _⟩ := ins_get I.hok ha
  obtain ⟨od, J, _⟩ := J.look
  obtain ⟨mm, hF⟩ := I.fr
  exact PySem.W.ksp_inv hF I.ok.mod.kin J m.at_ m.fn (run_at F hr rfl hb hx I (us := [.ref a]) (.cons (show RelV (.ref a) (.ref a) from rfl) .nil) hsp)
end
end Ts

set_option maxRecDepth 100000
set_option maxHeartbeats 4000000
namespace Ts
open PySem L2
/-! ### meanings by their values -/
/-- the turns that give these values -/
def turnsG (rs : List Row) (v : Str → Bool) : List Str := (rs.filter fun r => decide (v r.nm ≠ v r.fo)).map (·.nm)
theorem row_same {rs : List Row} (hv : Valid rs) {r q : Row} (hr : r ∈ rs) (hq : q ∈ rs) (e : r.nm = q.nm) : r = q := by
  obtain ⟨i, hi, e1⟩ := List.mem_iff_getElem.mp hr
  obtain ⟨j, hj, e2⟩ := List.mem_iff_getElem.mp hq
  have h1 := rowOf_at hv (i := i) (r := r) (by rw [← e1]; exact List.getElem?_eq_getElem hi)
  have h2 := rowOf_at hv (i := j) (r := q) (by rw [← e2]; exact List.getElem?_eq_getElem hj)
  rw [e, h2] at h1
  exact (Option.some.inj h1).symm
theorem mem_turnsG {rs : List Row} (hv : Valid rs) {v : Str → Bool} {r : Row} (hr : r ∈ rs) : r.nm ∈ turnsG rs v ↔ v r.nm ≠ v r.fo := by
  unfold turnsG
  constructor
  · intro h
    obtain ⟨q, hq, e⟩ := List.mem_map.mp h
    rw [List.mem_filter, decide_eq_true_eq] at hq
    rw [row_same hv hr hq.1 e.symm]
    exact hq.2
  · intro h
    exact List.mem_map.mpr ⟨r, List.mem_filter.mpr ⟨hr, decide_eq_true h⟩, rfl⟩
theorem turnsG_sub (rs : List Row) (v : Str → Bool) : (turnsG rs v).Sublist (names rs) := List.Sublist.map _ List.filter_sublist
theorem val_turnsG {rs : List Row} (hv : Valid rs) (v : Str → Bool) : ∀ z ∈ plc rs, valOf rs (v "top") (turnsG rs v) z = v z := by
  have key : ∀ n : Nat, ∀ i, i < n → ∀ r, rs[i]? = some r → valOf rs (v "top") (turnsG rs v) r.nm = v r.nm := by
    intro n
    induction n with
    | zero => intro i hi; omega
    | succ n ih =>
      intro i hi r hr
      have hrm := List.mem_of_getElem? hr
      have hfo : valOf rs (v "top") (turnsG rs v) r.fo = v r.fo := by
        rcases hv.fo hr with e | e
        · rw [e, val_top hv]
        · obtain ⟨q, hq, e2⟩ := List.mem_map.mp e
          obtain ⟨j, hj, e3⟩ := List.mem_take_iff_getElem.mp hq
          rw [← e2]
          exact ih j (by omega) q (by rw [← e3]; exact List.getElem?_eq_getElem _)
      rw [val_step hv _ _ hrm, hfo]
      have e : decide (r.nm ∈ turnsG rs v) = decide (v r.nm ≠ v r.fo) := decide_eq_decide.mpr (mem_turnsG hv hrm)
      rw [e]
      cases v r.fo <;> cases v r.nm <;> rfl
  intro z hz
  rcases mem_plc.mp hz with rfl | hz
  · exact val_top hv _ _
  · obtain ⟨r, hr, rfl⟩ := List.mem_map.mp hz
    obtain ⟨i, hi, e⟩ := List.mem_iff_getElem.mp hr
    exact key (i + 1) i (by omega) r (by rw [← e]; exact List.getElem?_eq_getElem hi)
theorem fo_plc {rs : List Row} (hv : Valid rs) {r : Row} (hr : r ∈ rs) : r.fo ∈ plc rs := mem_plc.mpr (hv.foAll hr)
theorem nm_plc {rs : List Row} {r : Row} (hr : r ∈ rs) : r.nm ∈ plc rs := mem_plc.mpr (.inr (List.mem_map.mpr ⟨r, hr, rfl⟩))
structure MV (C CM : Addr) (H : Hp) (m t : Addr) (rs : List Row) (v : Str → Bool) : Prop where
  ex : ∃ (d : Bool) (ts : List Str), MeanAt C CM H m t rs d ts ∧ ∀ z ∈ plc rs, valOf rs d ts z = v z
  lk : ∀ r ∈ rs, r.pr = none → v r.nm = v r.fo
theorem MV.same {C CM : Addr} {H H' : Hp} {m t : Addr} {rs : List Row} {v : Str → Bool} (h : MV C CM H m t rs v) (s : Same H H') : MV C CM H' m t rs v := by
  obtain ⟨d, ts, hm, hv⟩ := h.ex
  exact ⟨⟨d, ts, hm.same s, hv⟩, h.lk⟩
theorem MV.at_ {C CM : Addr} {H : Hp} {m t : Addr} {rs : List Row} {v : Str → Bool} (h : MV C CM H m t rs v) : ∃ dx fs, H m = some (.ins CM dx fs) := by
  obtain ⟨d, ts, hm, hv⟩ := h.ex
  obtain ⟨dx, u, k, h1, _⟩ := hm.ex
  exact ⟨dx, _, h1⟩
theorem turns_of {rs : List Row} (hv : Valid rs) {d : Bool} {ts : List Str} {v : Str → Bool} (hn : ts = turnsL rs ts) (h : ∀ z ∈ plc rs, valOf rs d ts z = v z) : d = v "top" ∧ ts = turnsG rs v := by
  have h1 : turnsL rs (turnsG rs v) = turnsG rs v := turnsL_sub hv (turnsG_sub rs v)
  refine (val_all hv (d := d) (d2 := v "top") hn.symm h1).mp fun z hz => ?_
  rw [h z hz, val_turnsG hv v z hz]
theorem MV.turns {C CM : Addr} {H : Hp} {m t : Addr} {rs : List Row} {v : Str → Bool} (h : MV C CM H m t rs v) : MeanAt C CM H m t rs (v "top") (turnsG rs v) := by
  obtain ⟨d, ts, hm, hv⟩ := h.ex
  obtain ⟨e1, e2⟩ := turns_of hm.tree.val hm.norm hv
  rw [← e1, ← e2]
  exact hm
theorem MV.free {C CM : Addr} {H : Hp} {m t : Addr} {rs : List Row} {v : Str → Bool} (h : MV C CM H m t rs v) : ∀ z ∈ turnsG rs v, Free rs z := fun z hz => by
  have hv := h.turns.tree.val
  obtain ⟨r, hr, rfl⟩ := List.mem_map.mp hz
  rw [List.mem_filter, decide_eq_true_eq] at hr
  obtain ⟨i, hi, e⟩ := List.mem_iff_getElem.mp hr.1
  exact ⟨r, rowOf_at hv (by rw [← e]; exact List.getElem?_eq_getElem hi), fun q => hr.2 (h.lk r hr.1 q)⟩
theorem MV.valid {C CM : Addr} {H : Hp} {m t : Addr} {rs : List Row} {v : Str → Bool} (h : MV C CM H m t rs v) : Valid rs := h.turns.tree.val
/-- from a meaning -/
theorem MV.of {C CM : Addr} {H : Hp} {m t : Addr} {rs : List Row} {d : Bool} {ts : List Str} (h : MeanAt C CM H m t rs d ts) (hf : ∀ z ∈ ts, Free rs z) : MV C CM H m t rs (valOf rs d ts) := by
  refine ⟨⟨d, ts, h, fun _ _ => rfl⟩, fun r hr q => ?_⟩
  rw [val_step h.tree.val d ts hr]
  have : r.nm ∉ ts := fun hm => by
    obtain ⟨r2, e, hp⟩ := hf _ hm
    obtain ⟨i, hi, e2⟩ := List.mem_iff_getElem.mp hr
    rw [rowOf_at h.tree.val (i := i) (r := r) (by rw [← e2]; exact List.getElem?_eq_getElem hi)] at e
    cases e
    exact hp q
  rw [decide_eq_false this]
  cases valOf rs d ts r.fo <;> rfl
/-- a dict of values -/
def kvG (rs : List Row) (v : Str → Bool) : List (Key × V) := (plc rs).map fun z => ((.inr z : Key), V.bl (v z))
theorem kvM_kvG {rs : List Row} (hv : Valid rs) {d : Bool} {ts : List Str} {v : Str → Bool} (h : ∀ z ∈ plc rs, valOf rs d ts z = v z) : kvM rs d ts rs = kvG rs v := by
  unfold kvM kvG plc names kvF
  rw [List.map_cons, List.map_map]
  congr 1
  · rw [← h _ (mem_plc.mpr (.inl rfl)), val_top hv]
  · refine List.map_congr_left fun r hr => ?_
    show (Sum.inr r.nm, V.bl (valOf rs d ts r.nm)) = (Sum.inr r.nm, V.bl (v r.nm))
    rw [h _ (nm_plc hr)]
theorem valV_list (v : Str → Bool) {z : Str} : ∀ {l : List Str}, z ∈ l → valV (l.map fun z => ((.inr z : Key), V.bl (v z))) (.inr z : Key) = some (.bl (v z))
  | x :: l, hz => by
    rw [List.map_cons]
    by_cases e : x = z
    · subst e; rw [valV_pos rfl]
    · rw [valV_neg (fun q => e (Sum.inr.inj q))]
      exact valV_list v ((List.mem_cons.mp hz).resolve_left fun q => e q.symm)
theorem valV_kvG {rs : List Row} (v : Str → Bool) {z : Str} (hz : z ∈ plc rs) : valV (kvG rs v) (.inr z : Key) = some (.bl (v z)) := valV_list v hz
theorem kvG_at {rs : List Row} {v : Str → Bool} {j : Nat} {k : Key} {x : V} (h : (kvG rs v)[j]? = some (k, x)) : ∃ z : Str, k = .inr z ∧ (plc rs)[j]? = some z := by
  unfold kvG at h
  rw [List.getElem?_map] at h
  obtain ⟨z, hz, e⟩ := Option.map_eq_some_iff.mp h
  exact ⟨z, (Prod.mk.inj e).1.symm, hz⟩
theorem kvG_len (rs : List Row) (v : Str → Bool) : (kvG rs v).length = (plc rs).length := by unfold kvG; rw [List.length_map]
theorem plc_nodup {rs : List Row} (hv : Valid rs) : (plc rs).Nodup := by
  unfold plc
  rw [List.nodup_cons]
  exact ⟨top_not hv, hv.nodup⟩
/-- the values of the first places, one more -/
theorem kvP_more {l : List Str} (nd : l.Nodup) (v : Str → Bool) {i : Nat} {z : Str} (h : l[i]? = some z) : putK ((l.take i).map fun z => ((.inr z : Key), V.bl (v z))) (.inr z) (.bl (v z)) = (l.take (i + 1)).map fun z => ((.inr z : Key), V.bl (v z)) := by
  have hn : z ∉ l.take i := fun hm => by
    obtain ⟨j, hj, e⟩ := List.mem_take_iff_getElem.mp hm
    obtain ⟨hi, e2⟩ := List.getElem?_eq_some_iff.mp h
    have := (List.getElem_inj nd).mp (e.trans e2.symm)
    omega
  have hv : valV ((l.take i).map fun z => ((.inr z : Key), V.bl (v z))) (.inr z : Key) = none := by
    generalize l.take i = m at hn
    induction m with
    | nil => rfl
    | cons x m ih =>
      rw [List.map_cons, valV_neg (fun q => hn (by rw [Sum.inr.inj q]; exact List.mem_cons_self ..))]
      exact ih fun q => hn (List.mem_cons_of_mem _ q)
  rw [putK_new _ hv, take_more h, List.map_append]
  rfl
def eqV (rs : List Row) (v w : Str → Bool) : Bool := (plc rs).all fun z => v z == w z
theorem eqV_true {rs : List Row} {v w : Str → Bool} (h : ∀ z, v z = w z) : eqV rs v w = true := by
  unfold eqV
  rw [List.all_eq_true]
  intro z _
  rw [h z]; simp
theorem eqV_iff {rs : List Row} {v w : Str → Bool} : eqV rs v w = true ↔ ∀ z ∈ plc rs, v z = w z := by
  unfold eqV
  rw [List.all_eq_true]
  exact ⟨fun h z hz => by simpa using h z hz, fun h z hz => by simpa using h z hz⟩
def spBin (C CM : Addr) (f : Bool → Bool → Bool) : Sp := fun vs H Q _ => ∃ (m m2 t t2 : Addr) (rs : List Row) (v w : Str → Bool), vs = [.ref m, .ref m2] ∧ MV C CM H m t rs v ∧ MV C CM H m2 t2 rs w ∧ ∀ m3 H', Same H H' → MV C CM H' m3 t rs (fun z => f (v z) (w z)) → Q (.ref m3) H'
def spInv (C CM : Addr) : Sp := fun vs H Q _ => ∃ (m t : Addr) (rs : List Row) (v : Str → Bool), vs = [.ref m] ∧ MV C CM H m t rs v ∧ ∀ m3 H', Same H H' → MV C CM H' m3 t rs (fun z => !(v z)) → Q (.ref m3) H'
def spWith (C CM : Addr) : Sp := fun vs H Q _ => ∃ (t vd : Addr) (rs : List Row) (v : Str → Bool), vs = [.ref t, .ref vd] ∧ TreeAt C H t rs ∧ H vd = some (.dK (kvG rs v)) ∧ (∀ r ∈ rs, r.pr = none → v r.nm = v r.fo) ∧ ∀ m H', Same H H' → MV C CM H' m t rs v → Q (.ref m) H'
theorem rd_bin {C CM : Addr} {H : Hp} {m m2 t t2 : Addr} {rs : List Row} {v w : Str → Bool} {f : Bool → Bool → Bool} {E : XK} {Q : VK} (h1 : MV C CM H m t rs v) (h2 : MV C CM H m2 t2 rs w) (k : ∀ m3 H', Same H H' → MV C CM H' m3 t rs (fun z => f (v z) (w z)) → Q (.ref m3) H') : rBinC CM (spBin C CM f) E (.ref m) (.ref m2) H Q := by
  obtain ⟨dx, fs, e1⟩ := h1.at_
  obtain ⟨dy, gs, e2⟩ := h2.at_
  exact ⟨m, m2, dx, dy, fs, gs, rfl, rfl, e1, e2, m, m2, t, t2, rs, v, w, rfl, h1, h2, fun m3 H' s mv => ⟨m3, rfl, k m3 H' s mv⟩⟩
theorem rd_inv {C CM : Addr} {H : Hp} {m t : Addr} {rs : List Row} {v : Str → Bool} {E : XK} {Q : VK} (h1 : MV C CM H m t rs v) (k : ∀ m3 H', Same H H' → MV C CM H' m3 t rs (fun z => !(v z)) → Q (.ref m3) H') : rInvC CM (spInv C CM) E (.ref m) H Q := by
  obtain ⟨dx, fs, e1⟩ := h1.at_
  exact ⟨m, dx, fs, rfl, e1, m, t, rs, v, rfl, h1, k⟩
theorem eq_eqV {rs : List Row} (hv : Valid rs) (v w : Str → Bool) : (decide (rs = rs) && (decide (v "top" = w "top") && decide (turnsG rs v = turnsG rs w))) = eqV rs v w := by
  rw [decide_eq_true (rfl : rs = rs), Bool.true_and, Bool.eq_iff_iff, Bool.and_eq_true, decide_eq_true_eq, decide_eq_true_eq, eqV_iff, ← val_all hv (turnsL_sub hv (turnsG_sub rs v)) (turnsL_sub hv (turnsG_sub rs w))]
  exact ⟨fun h z hz => by have := h z hz; rw [val_turnsG hv v z hz, val_turnsG hv w z hz] at this; exact this, fun h z hz => by rw [val_turnsG hv v z hz, val_turnsG hv w z hz]; exact h z hz⟩
theorem rd_eq {K : PySem.W.Frag} {C CM : Addr} {H : Hp} {m m2 t t2 : Addr} {rs : List Row} {v w : Str → Bool} {E : XK} {Q : VK} (h1 : MV C CM H m t rs v) (h2 : MV C CM H m2 t2 rs w) (k : Q (.bl (eqV rs v w)) H) : rEqC K CM (spMEq K C CM) E (.ref m) (.ref m2) H Q := by
  obtain ⟨dx, fs, e1⟩ := h1.at_
  obtain ⟨dy, gs, e2⟩ := h2.at_
  refine ⟨m, dx, fs, .ref CM, rfl, e1, .ins e2, nfM, m, t, _, rs, _, _, rfl, h1.turns, .inl ⟨m2, t2, rs, _, _, rfl, h2.turns, _, rfl, ?_⟩⟩
  rw [eq_eqV h1.valid]
  exact k
theorem rd_ne {K : PySem.W.Frag} {C CM : Addr} {H : Hp} {m m2 t t2 : Addr} {rs : List Row} {v w : Str → Bool} {E : XK} {Q : VK} (h1 : MV C CM H m t rs v) (h2 : MV C CM H m2 t2 rs w) (k : Q (.bl (!eqV rs v w)) H) : rNeC K CM (spMEq K C CM) E (.ref m) (.ref m2) H Q := by
  obtain ⟨dx, fs, e1⟩ := h1.at_
  obtain ⟨dy, gs, e2⟩ := h2.at_
  refine ⟨m, dx, fs, .ref CM, rfl, e1, .ins e2, nfM, m, t, _, rs, _, _, rfl, h1.turns, .inl ⟨m2, t2, rs, _, _, rfl, h2.turns, _, rfl, ?_⟩⟩
  rw [eq_eqV h1.valid]
  exact k
theorem turned_not (ts : List Str) : ∀ (l : List Str) (d : Bool), turned (!d) ts l = !(turned d ts l)
  | [], _ => rfl
  | x :: l, d => by
    show turned (if x ∈ ts then !(!d) else !d) ts l = !(turned (if x ∈ ts then !d else d) ts l)
    rw [← turned_not ts l]
    by_cases h : x ∈ ts
    · rw [if_pos h, if_pos h]
    · rw [if_neg h, if_neg h]
end Ts

set_option maxRecDepth 100000
set_option maxHeartbeats 4000000
namespace Ts
open PySem L2
/-- a dict comprehension over any walk -/
theorem dc_walk {J : It} {n : Nat} {G : Hp → Prop} {Y : Nat → Hp → V → Hp → Prop} (wk : Walk J n G Y) {g : TG} {tt : TT} {tk tv : TE} {us : List Nat} {σ : L2.St} {H0 : Hp} {D : Addr} {Qd : Hp → Prop} (I : Nat → Hp → Prop) (start : I 0 (upd H0 D (.dK []))) (stays : ∀ i H, i ≤ n → I i H → G H)
    (turn : ∀ i x H H', i < n → I i H → Y i H x H' → g x (wipe σ us) H' fun σ2 H2 => wipe σ2 us = wipe σ us ∧ tt σ2 H2 fun b H3 => if b = true then tk σ2 H3 fun y H4 => tv σ2 H4 fun z H5 => ∃ kvs k, y = kV k ∧ H5 D = some (.dK kvs) ∧ kvs.length < sizeLine ∧ I (i + 1) (upd H5 D (.dK (putK kvs k z))) else I (i + 1) H3)
    (done : ∀ H, I n H → Qd H) : ∃ W : Nat → Nat → Hp → Prop, (∃ m, W 0 m (upd H0 D (.dK []))) ∧ ∀ i m H, W i m H → (J.stop i H ∧ Qd H) ∨ (J.go i H ∧ ∃ Nx : Hp → Prop, (∀ H', Nx H' → ∃ m', m' < m ∧ W (i + 1) m' H') ∧ ∀ x H', J.yld i H x H' → g x (wipe σ us) H' fun σ2 H2 => wipe σ2 us = wipe σ us ∧ tt σ2 H2 fun b H3 =>
      if b = true then tk σ2 H3 fun y H4 => tv σ2 H4 fun z H5 => ∃ kvs k, y = kV k ∧ H5 D = some (.dK kvs) ∧ kvs.length < sizeLine ∧ Nx (upd H5 D (.dK (putK kvs k z))) else Nx H3) := by
  refine ⟨fun i m H => m = n - i ∧ i ≤ n ∧ I i H, ⟨n, rfl, Nat.zero_le _, start⟩, ?_⟩
  rintro i m H ⟨rfl, hi, here⟩
  have ok := stays i H hi here
  rcases Nat.lt_or_ge i n with lt | ge
  · exact .inr ⟨wk.goes i H lt ok, I (i + 1), fun H' h' => ⟨n - (i + 1), by omega, rfl, lt, h'⟩, fun x H' y => turn i x H H' lt here (wk.yields i H x H' lt ok y)⟩
  · obtain rfl : i = n := Nat.le_antisymm hi ge
    exact .inl ⟨wk.stops H ok, done H here⟩
def spCheckTrees (C CM : Addr) : Sp := fun vs H Q _ => ∃ (m m2 t t2 : Addr) (rs : List Row) (d d2 : Bool) (ts ts2 : List Str), vs = [.ref m, .ref m2] ∧ MeanAt C CM H m t rs d ts ∧ MeanAt C CM H m2 t2 rs d2 ts2 ∧ Q .non H
section
variable {P : Program} {w : World} {K : PySem.W.Frag} {mg : Str → Option Value} {base : Heap} {C CM : Addr}
theorem sc_check_trees : FnScope ["one", "other"] ["one", "other"] (defScope s_check_trees) := ⟨rfl, rfl, rfl, by decide +kernel, rfl, by decide +kernel, by decide +kernel⟩
theorem ok_check_trees (D : DefAt K mg "check_trees" s_check_trees ["one", "other"]) (M : TxM K mg CM) (N : TxN K C)
    (mE : MethAt K C "__eq__" "Tree.__eq__" s_Tree_eq ["self", "other"]) (GE : FnOk P w K mg base CX0 2 mE.f mE.fd ["self", "other"] (spEqT K C)) : FnOk P w K mg base CX0 4 D.f D.fd ["one", "other"] (spCheckTrees C CM) := by
  refine D.F.ok sc_check_trees (fun vs H Q E h => ?_) (fun cdv A outer s H vs Q E hr h => ?_)
  · obtain ⟨m, m2, t, t2, rs, d, d2, ts, ts2, rfl, _⟩ := h
    rfl
  · obtain ⟨m, m2, t, t2, rs, d, d2, ts, ts2, rfl, hm, hm2, hq⟩ := h
    obtain ⟨dx, u, k, h1, h2, h3⟩ := hm.ex
    obtain ⟨dx2, u2, k2, g1, g2, g3⟩ := hm2.ex
    obtain ⟨tdx, _, _, _, _, _, t1, _⟩ := id hm.tree.ex
    obtain ⟨tdx2, _, _, _, _, _, t3, _⟩ := id hm2.tree.ex
    refine ⟨_, pss_one (ps_if (pt_cmpR (op_neC GE mE.m N.ne N.ob hr mE.b pass0) (pe_fld (pv 0) rfl) (pe_fld (pv 1) rfl) (nomark _)) (pss_one ps_never) pss_nil), ?_⟩
    refine ⟨_, rfl, m, CM, dx, _, _, rfl, h1, M.cl, M.nt, mf_t _ _ _ _, _, rfl, m2, CM, dx2, _, _, rfl, g1, M.cl, M.nt, mf_t _ _ _ _, t, tdx, _, .ref C, rfl, t1, .ins t3, nfC, t, _, rs, rfl, hm.tree, .inl ⟨t2, rs, rfl, hm2.tree, _, rfl, _, rfl, ?_⟩⟩
    exact iteF' (by simp) hq
abbrev nWith : List Str := ["tree", "values", "turns", "box"]
theorem sc_with : FnScope nWith ["tree", "values"] (defScope s_with_values) := ⟨rfl, rfl, rfl, by decide +kernel, rfl, by decide +kernel, by decide +kernel⟩
theorem ok_with {fM : Addr} {fdM : FuncData} (D : DefAt K mg "with_values" s_with_values ["tree", "values"]) (TC : TxC K mg) (T : TxT K mg C) (M : TxM K mg CM)
    (MM : Mk K CM fM) (bM : Binds K fdM ["self", "tree", "default", "turns"] []) (GM : FnOk P w K mg base CX0 7 fM fdM ["self", "tree", "default", "turns"] (spMeaningInit K C CM))
    (mB : MethAt K C "below" "Tree.below" s_Tree_below ["self", "box"]) (GB : FnOk P w K mg base CX0 5 mB.f mB.fd ["self", "box"] (spListOf C belowL))
    (mF : MethAt K C "folder" "Tree.folder" s_Tree_folder ["self", "box"]) (GF : FnOk P w K mg base CX0 4 mF.f mF.fd ["self", "box"] (spGet C fun r => .str r.fo)) : FnOk P w K mg base CX0 9 D.f D.fd ["tree", "values"] (spWith C CM) := by
  obtain ⟨t1, gT⟩ := TC.top
  refine D.F.ok sc_with (fun vs H Q E h => ?_) (fun cdv A outer s H vs Q E hr h => ?_)
  · obtain ⟨t, vd, rs, v, rfl, _⟩ := h
    rfl
  · obtain ⟨t, vd, rs, v, rfl, ht, hvd, hlk, hq⟩ := h
    have hu := hu_of hr
    have hr4 : Room 5 _ := hr.mono (by decide)
    have hr3 : Room 4 _ := hr.mono (by decide)
    refine ⟨_, pss_cons (ps_setLc (i := 2) (own := [("box", 3)]) (g := gName 3) (tt := tTest (tOp rNe (tDGet (tVar 1) (tVar 3)) (tDGet (tVar 1) (tMeth C "folder" (spGet C fun r => .str r.fo) [] E0 (tVar 0) (tCons (tVar 3) tNil))))) (te := tVar 3) rfl sc_with.nd rfl rfl (sw_true rfl rfl rfl (by decide +kernel)) (pi_list (pe_meth (pv 0) T.cl mB.m GB hr4 mB.b .nil pass0 (pa_cons (pe_glob (by rfl) gT (v := .str ("top" : Str)) ⟨_, rfl⟩) pa_nil))) (blkOk_by (N := nWith) (sc := defScope s_with_values) (by decide +kernel))
        (fun _ _ _ _ _ => pg_name (i := 3) sc_with.nd rfl (Or.inl rfl)) (fun _ _ _ _ _ => by exact pts_one (pt_cmpR op_ne (pe_dget hu (pv 1) (pv 3) (fun _ _ => rfl)) (pe_dget hu (pv 1) (pe_meth (pv 0) T.cl mF.m GF hr3 mF.b .nil pass0 (pa_cons (pv 3) pa_nil)) (fun _ _ => rfl)) (nomark _))) (fun _ _ _ _ _ => pv 3))
      (pss_one (ps_ret (pe_make MM GM hr rfl M.g bM .nil pass0 (pa_cons (pv 0) (pa_cons (pe_dget hu (pv 1) (pe_glob (by rfl) gT (v := .str ("top" : Str)) ⟨_, rfl⟩) (fun _ _ => rfl)) (pa_cons (pv 2) pa_nil)))))), ?_⟩
    have hv := ht.val
    have l100 := ht.len
    obtain ⟨dx, q, f, k, p, qs, h1, _⟩ := id ht.ex
    have noB : (tf q f k p).lookup ("below" : Str) = none := tf_no _ _ _ _ (by decide +kernel) (by decide +kernel) (by decide +kernel) (by decide +kernel)
    have noF : (tf q f k p).lookup ("folder" : Str) = none := tf_no _ _ _ _ (by decide +kernel) (by decide +kernel) (by decide +kernel) (by decide +kernel)
    refine ⟨_, rfl, t, dx, _, rfl, h1, noB, t, ("top" : Str), rs, rfl, ht, .inl rfl, fun bl H2 hbl s2 e2 => ?_⟩
    rw [below_top hv] at e2
    refine ⟨bl, rfl, ⟨_, SqL.of e2⟩, fun D hD => ?_⟩
    refine lc_list (K := K) (a := bl) (xs := (names rs).map V.str) (fun i H' => Same H2 H' ∧ H' D = some (.lst ((((rs.take i).filter fun r => decide (v r.nm ≠ v r.fo)).map (·.nm)).map V.str))) ⟨Same.new hD, upd_same⟩ (fun i H' _ m => m.1.seq (SqL.of e2)) ?_ ?_
    · rintro i x H3 hxi ⟨s3, hD3⟩
      unfold names at hxi
      rw [List.getElem?_map, List.getElem?_map] at hxi
      obtain ⟨n1, hn1, rfl⟩ := Option.map_eq_some_iff.mp hxi
      obtain ⟨r, hr', rfl⟩ := Option.map_eq_some_iff.mp hn1
      have hrm := List.mem_of_getElem? hr'
      have s23 := s2.trans s3
      have dg := DGet.k (k := Sum.inr r.nm) (s23 _ _ hvd)
      rw [valV_kvG v (nm_plc hrm)] at dg
      have dg2 := DGet.k (k := Sum.inr r.fo) (s23 _ _ hvd)
      rw [valV_kvG v (fo_plc hv hrm)] at dg2
      have szD : (((rs.take i).filter fun r => decide (v r.nm ≠ v r.fo)).map (·.nm)).length ≤ 1000 := by
        rw [List.length_map]
        have h1 := List.length_filter_le (fun r : Row => decide (v r.nm ≠ v r.fo)) (rs.take i)
        rw [List.length_take] at h1
        omega
      refine ⟨rfl, _, rfl, _, rfl, vd, _, rfl, dg, _, rfl, _, rfl, t, dx, _, rfl, s23 _ _ h1, noF, _, rfl, t, r.nm, rs, r, rfl, ht.same s23, rowOf_at hv hr', vd, _, rfl, dg2, rfl, _, rfl, ?_⟩
      have e0 : (!decide (V.bl (v r.nm) = V.bl (v r.fo))) = decide (v r.nm ≠ v r.fo) := by
        cases v r.nm <;> cases v r.fo <;> rfl
      rw [e0]
      refine ite2 (fun hc => ?_) (fun hc => ?_)
      · refine ⟨_, rfl, _, hD3, by rw [List.length_map]; exact small1000 szD, fun b o eb => ?_, ?_⟩
        · rw [upd_ne (fun y => by rw [y, hD] at eb; cases eb)]
          exact s3 _ _ eb
        · rw [upd_same, filter_take hr', if_pos hc, List.map_append]; rfl
      · refine ⟨s3, ?_⟩
        rw [filter_take hr', if_neg hc, List.append_nil]
        exact hD3
    rintro H3 ⟨s3, hD3⟩
    rw [show ((names rs).map V.str).length = rs.length from by unfold names; rw [List.length_map, List.length_map], List.take_length] at hD3
    have s23 := s2.trans s3
    have dgt := DGet.k (k := Sum.inr ("top" : Str)) (s23 _ _ hvd)
    rw [valV_kvG v (mem_plc.mpr (.inl rfl))] at dgt
    refine ⟨_, rfl, _, rfl, vd, _, rfl, dgt, _, rfl, ?_⟩
    have fr : ∀ z ∈ turnsG rs v, Free rs z := fun z hz => by
      obtain ⟨r, hr, rfl⟩ := List.mem_map.mp hz
      rw [List.mem_filter, decide_eq_true_eq] at hr
      obtain ⟨i, hi, e⟩ := List.mem_iff_getElem.mp hr.1
      exact ⟨r, rowOf_at hv (by rw [← e]; exact List.getElem?_eq_getElem hi), fun q => hr.2 (hlk r hr.1 q)⟩
    refine fun m dm nm nd _ => ⟨m, dm, t, D, v "top", turnsG rs v, rs, rfl, upd_same, (ht.same s23).same (mk_same0 nm nd), SqX.same (.inl (SqL.of hD3)) (mk_same0 nm nd), fr, fun H4 sb4 hm => ⟨rfl, ?_⟩⟩
    rw [turnsL_sub hv (turnsG_sub rs v)] at hm
    exact hq m H4 (s23.trans (mk_same nm nd sb4)) ⟨⟨_, _, hm, val_turnsG hv v⟩, hlk⟩
theorem sc_M_xor : FnScope ["self", "other", "box"] ["self", "other"] (defScope s_Meaning_xor) := ⟨rfl, rfl, rfl, by decide +kernel, rfl, by decide +kernel, by decide +kernel⟩
theorem ok_M_xor {f : Addr} {fd : FuncData} (F : Fun K "__xor__" "Meaning.__xor__" s_Meaning_xor f fd) (M : TxM K mg CM) (Dc : DefAt K mg "check_trees" s_check_trees ["one", "other"]) (Gc : FnOk P w K mg base CX0 4 Dc.f Dc.fd ["one", "other"] (spCheckTrees C CM))
    (Dw : DefAt K mg "with_values" s_with_values ["tree", "values"]) (Gw : FnOk P w K mg base CX0 9 Dw.f Dw.fd ["tree", "values"] (spWith C CM)) : FnOk P w K mg base CX0 10 f fd ["self", "other"] (spBin C CM fun a b => a != b) := by
  refine F.ok sc_M_xor (fun vs H Q E h => ?_) (fun cdv A outer s H vs Q E hr h => ?_)
  · obtain ⟨m, m2, t, t2, rs, v, w', rfl, _⟩ := h
    rfl
  · obtain ⟨m, m2, t, t2, rs, v, w', rfl, hm, hm2, hq⟩ := h
    have hu := hu_of hr
    have hr3 : Room 4 _ := hr.mono (by decide)
    have hv := hm.valid
    have hl := hm.turns.tree.len
    obtain ⟨dx, u, k, h1, h2, h3⟩ := hm.turns.ex
    obtain ⟨dx2, u2, k2, g1, g2, g3⟩ := hm2.turns.ex
    rw [kvM_kvG hv (val_turnsG hv v)] at h3
    rw [kvM_kvG hv (val_turnsG hv w')] at g3
    refine ⟨_, pss_cons (ps_expr (pe_call Gc hr3 rfl Dc.g Dc.F.kp Dc.b .nil pass0 (pa_cons (pv 0) (pa_cons (pv 1) pa_nil))))
      (pss_one (ps_ret (pe_call Gw hr rfl Dw.g Dw.F.kp Dw.b .nil pass0 (pa_cons (pe_fld (pv 0) rfl) (pa_cons (pe_lock (pe_dc (own := [("box", 2)]) (g := gName 2) (tt := tYes) (tk := tVar 2) (tv := tOp rNe (tDGet (tFld K (tVar 0) "known") (tVar 2)) (tDGet (tFld K (tVar 1) "known") (tVar 2))) rfl sc_M_xor.nd (pi_keys (pe_fld (pv 0) rfl)) (blkOk_by (N := ["self", "other", "box"]) (sc := defScope s_Meaning_xor) (by decide +kernel))
        (fun _ _ _ _ _ => pg_name (i := 2) sc_M_xor.nd rfl (Or.inl rfl)) (fun _ _ _ _ _ => pts_nil) (fun _ _ _ _ _ => pv 2) (fun _ _ _ _ _ => by exact pe_cmpR op_ne (pe_dget hu (pe_fld (pv 0) rfl) (pv 2) (fun _ _ => rfl)) (pe_dget hu (pe_fld (pv 1) rfl) (pv 2) (fun _ _ => rfl)) (nomark _)))) pa_nil))))), ?_⟩
    refine ⟨_, rfl, _, rfl, m, m2, t, t2, rs, _, _, _, _, rfl, hm.turns, hm2.turns, ?_⟩
    refine ⟨_, rfl, m, CM, dx, _, _, rfl, h1, M.cl, M.nt, mf_t _ _ _ _, ?_⟩
    refine ⟨k, _, h3, trivial, fun od => ?_⟩
    obtain ⟨Hl, El⟩ : ∃ Hx, Hx = upd H k (.frz od (.dK (kvG rs v))) := ⟨_, rfl⟩
    have lk : Hl k = some (.frz od (.dK (kvG rs v))) := by rw [El]; exact upd_same
    have l1 : Hl m = some (.ins CM dx (mf t u k (v "top"))) := by
      rw [El, upd_ne (fun e => by rw [e, h3] at h1; cases h1)]; exact h1
    have l2 : Hl m2 = some (.ins CM dx2 (mf t2 u2 k2 (w' "top"))) := by
      rw [El, upd_ne (fun e => by rw [e, h3] at g1; cases g1)]; exact g1
    have back : ∀ {H' : Hp}, Same Hl H' → Same H (upd H' k (.dK (kvG rs v))) := fun {H'} sl b o e => by
      by_cases q : b = k
      · rw [q, upd_same, ← e, q]; exact h3.symm
      · rw [upd_ne q]; exact sl _ _ (by rw [El, upd_ne q]; exact e)
    have lk2 : ∃ kv, Rd Hl k2 (.dK kv) ∧ kv = kvG rs w' := by
      by_cases q : k2 = k
      · rw [q] at g3
        rw [h3] at g3
        have e3 := HO.dK.inj (Option.some.inj g3)
        exact ⟨_, by rw [q]; exact .inr ⟨od, lk⟩, e3⟩
      · exact ⟨_, .inl (by rw [El, upd_ne q]; exact g3), rfl⟩
    obtain ⟨kv2, rd2, rfl⟩ := lk2
    rw [← El]
    clear El
    refine ⟨_, rfl, m, CM, dx, _, _, rfl, l1, M.cl, M.nk, mf_k _ _ _ _, k, od, rfl, .inl ⟨_, lk, fun D hD => ?_⟩⟩
    have nD : D ≠ k := (ne_of_none lk hD).symm
    have lp : (plc rs).length ≤ 101 := by unfold plc names; rw [List.length_cons, List.length_map]; omega
    refine dc_walk (walk_keys (d := k) (o := od) (kvs := kvG rs v)) (fun i H' => Same Hl H' ∧ H' D = some (.dK (((plc rs).take i).map fun z => ((.inr z : Key), V.bl ((fun a b => a != b) (v z) (w' z)))))) ⟨Same.new hD, upd_same⟩ (fun i H' _ m => m.1 _ _ lk) ?_ ?_
    · rintro i x H5x H5 hi ⟨s5, hD5⟩ ⟨rfl, k', v', hk, rfl⟩
      obtain ⟨z, rfl, hz⟩ := kvG_at hk
      have hzm := List.mem_of_getElem? hz
      have dg1 : DGet H5 k (.str z) (some (.bl (v z))) := .inl ⟨_, .inr z, .inr ⟨od, s5 _ _ lk⟩, rfl, (valV_kvG v hzm).symm⟩
      have dg2 : DGet H5 k2 (.str z) (some (.bl (w' z))) := .inl ⟨_, .inr z, rd2.imp (s5 _ _) (fun ⟨o, e⟩ => ⟨o, s5 _ _ e⟩), rfl, (valV_kvG w' hzm).symm⟩
      refine ⟨rfl, tYes_if ?_⟩
      refine ⟨_, rfl, _, rfl, m, CM, dx, _, _, rfl, s5 _ _ l1, M.cl, M.nk, mf_k _ _ _ _, _, rfl, k, _, rfl, dg1, _, rfl, m2, CM, dx2, _, _, rfl, s5 _ _ l2, M.cl, M.nk, mf_k _ _ _ _, _, rfl, k2, _, rfl, dg2, rfl, ?_⟩
      have e9 : (upd H5 D (.dK (putK (((plc rs).take i).map fun z => ((.inr z : Key), V.bl (v z != w' z))) (.inr z) (.bl (!decide (V.bl (v z) = V.bl (w' z))))))) D = some (.dK (((plc rs).take (i + 1)).map fun z => ((.inr z : Key), V.bl (v z != w' z)))) := by
        rw [upd_same, ← kvP_more (plc_nodup hv) (fun z => v z != w' z) hz]
        cases v z <;> cases w' z <;> rfl
      exact ⟨_, .inr z, rfl, hD5, small1000 (by rw [List.length_map, List.length_take]; omega), fun b o eb => by
          rw [upd_ne (fun y => by rw [y, hD] at eb; cases eb)]
          exact s5 _ _ eb, e9⟩
    rintro H5 ⟨s5, hD5⟩
    rw [kvG_len, List.take_length] at hD5
    refine ⟨s5 _ _ lk, ?_⟩
    have bk := back s5
    refine ⟨t, D, rs, fun z => (fun a b => a != b) (v z) (w' z), rfl, hm.turns.tree.same bk, by rw [upd_ne nD]; exact hD5, fun r hr q => ?_, fun m3 H6 s6 hm3 => hq m3 H6 (bk.trans s6) hm3⟩
    show (fun a b => a != b) (v r.nm) (w' r.nm) = (fun a b => a != b) (v r.fo) (w' r.fo)
    rw [hm.lk r hr q, hm2.lk r hr q]
theorem sc_M_and : FnScope ["self", "other", "box"] ["self", "other"] (defScope s_Meaning_and) := ⟨rfl, rfl, rfl, by decide +kernel, rfl, by decide +kernel, by decide +kernel⟩
theorem ok_M_and {f : Addr} {fd : FuncData} (F : Fun K "__and__" "Meaning.__and__" s_Meaning_and f fd) (M : TxM K mg CM) (Dc : DefAt K mg "check_trees" s_check_trees ["one", "other"]) (Gc : FnOk P w K mg base CX0 4 Dc.f Dc.fd ["one", "other"] (spCheckTrees C CM))
    (Dw : DefAt K mg "with_values" s_with_values ["tree", "values"]) (Gw : FnOk P w K mg base CX0 9 Dw.f Dw.fd ["tree", "values"] (spWith C CM)) : FnOk P w K mg base CX0 10 f fd ["self", "other"] (spBin C CM fun a b => a && b) := by
  refine F.ok sc_M_and (fun vs H Q E h => ?_) (fun cdv A outer s H vs Q E hr h => ?_)
  · obtain ⟨m, m2, t, t2, rs, v, w', rfl, _⟩ := h
    rfl
  · obtain ⟨m, m2, t, t2, rs, v, w', rfl, hm, hm2, hq⟩ := h
    have hu := hu_of hr
    have hr3 : Room 4 _ := hr.mono (by decide)
    have hv := hm.valid
    have hl := hm.turns.tree.len
    obtain ⟨dx, u, k, h1, h2, h3⟩ := hm.turns.ex
    obtain ⟨dx2, u2, k2, g1, g2, g3⟩ := hm2.turns.ex
    rw [kvM_kvG hv (val_turnsG hv v)] at h3
    rw [kvM_kvG hv (val_turnsG hv w')] at g3
    refine ⟨_, pss_cons (ps_expr (pe_call Gc hr3 rfl Dc.g Dc.F.kp Dc.b .nil pass0 (pa_cons (pv 0) (pa_cons (pv 1) pa_nil))))
      (pss_one (ps_ret (pe_call Gw hr rfl Dw.g Dw.F.kp Dw.b .nil pass0 (pa_cons (pe_fld (pv 0) rfl) (pa_cons (pe_lock (pe_dc (own := [("box", 2)]) (g := gName 2) (tt := tYes) (tk := tVar 2) (tv := tAndV (tDGet (tFld K (tVar 0) "known") (tVar 2)) (tDGet (tFld K (tVar 1) "known") (tVar 2))) rfl sc_M_and.nd (pi_keys (pe_fld (pv 0) rfl)) (blkOk_by (N := ["self", "other", "box"]) (sc := defScope s_Meaning_and) (by decide +kernel))
        (fun _ _ _ _ _ => pg_name (i := 2) sc_M_and.nd rfl (Or.inl rfl)) (fun _ _ _ _ _ => pts_nil) (fun _ _ _ _ _ => pv 2) (fun _ _ _ _ _ => by exact pe_and (pe_dget hu (pe_fld (pv 0) rfl) (pv 2) (fun _ _ => rfl)) (pe_one (pe_dget hu (pe_fld (pv 1) rfl) (pv 2) (fun _ _ => rfl)))))) pa_nil))))), ?_⟩
    refine ⟨_, rfl, _, rfl, m, m2, t, t2, rs, _, _, _, _, rfl, hm.turns, hm2.turns, ?_⟩
    refine ⟨_, rfl, m, CM, dx, _, _, rfl, h1, M.cl, M.nt, mf_t _ _ _ _, ?_⟩
    refine ⟨k, _, h3, trivial, fun od => ?_⟩
    obtain ⟨Hl, El⟩ : ∃ Hx, Hx = upd H k (.frz od (.dK (kvG rs v))) := ⟨_, rfl⟩
    have lk : Hl k = some (.frz od (.dK (kvG rs v))) := by rw [El]; exact upd_same
    have l1 : Hl m = some (.ins CM dx (mf t u k (v "top"))) := by
      rw [El, upd_ne (fun e => by rw [e, h3] at h1; cases h1)]; exact h1
    have l2 : Hl m2 = some (.ins CM dx2 (mf t2 u2 k2 (w' "top"))) := by
      rw [El, upd_ne (fun e => by rw [e, h3] at g1; cases g1)]; exact g1
    have back : ∀ {H' : Hp}, Same Hl H' → Same H (upd H' k (.dK (kvG rs v))) := fun {H'} sl b o e => by
      by_cases q : b = k
      · rw [q, upd_same, ← e, q]; exact h3.symm
      · rw [upd_ne q]; exact sl _ _ (by rw [El, upd_ne q]; exact e)
    have lk2 : ∃ kv, Rd Hl k2 (.dK kv) ∧ kv = kvG rs w' := by
      by_cases q : k2 = k
      · rw [q] at g3
        rw [h3] at g3
        have e3 := HO.dK.inj (Option.some.inj g3)
        exact ⟨_, by rw [q]; exact .inr ⟨od, lk⟩, e3⟩
      · exact ⟨_, .inl (by rw [El, upd_ne q]; exact g3), rfl⟩
    obtain ⟨kv2, rd2, rfl⟩ := lk2
    rw [← El]
    clear El
    refine ⟨_, rfl, m, CM, dx, _, _, rfl, l1, M.cl, M.nk, mf_k _ _ _ _, k, od, rfl, .inl ⟨_, lk, fun D hD => ?_⟩⟩
    have nD : D ≠ k := (ne_of_none lk hD).symm
    have lp : (plc rs).length ≤ 101 := by unfold plc names; rw [List.length_cons, List.length_map]; omega
    refine dc_walk (walk_keys (d := k) (o := od) (kvs := kvG rs v)) (fun i H' => Same Hl H' ∧ H' D = some (.dK (((plc rs).take i).map fun z => ((.inr z : Key), V.bl ((fun a b => a && b) (v z) (w' z)))))) ⟨Same.new hD, upd_same⟩ (fun i H' _ m => m.1 _ _ lk) ?_ ?_
    · rintro i x H5x H5 hi ⟨s5, hD5⟩ ⟨rfl, k', v', hk, rfl⟩
      obtain ⟨z, rfl, hz⟩ := kvG_at hk
      have hzm := List.mem_of_getElem? hz
      have dg1 : DGet H5 k (.str z) (some (.bl (v z))) := .inl ⟨_, .inr z, .inr ⟨od, s5 _ _ lk⟩, rfl, (valV_kvG v hzm).symm⟩
      have dg2 : DGet H5 k2 (.str z) (some (.bl (w' z))) := .inl ⟨_, .inr z, rd2.imp (s5 _ _) (fun ⟨o, e⟩ => ⟨o, s5 _ _ e⟩), rfl, (valV_kvG w' hzm).symm⟩
      refine ⟨rfl, tYes_if ⟨_, rfl, _, rfl, m, CM, dx, _, _, rfl, s5 _ _ l1, M.cl, M.nk, mf_k _ _ _ _, _, rfl, k, _, rfl, dg1, _, rfl, ?_⟩⟩
      have e9 : ∀ b : Bool, b = (v z && w' z) → (upd H5 D (.dK (putK (((plc rs).take i).map fun z => ((.inr z : Key), V.bl (v z && w' z))) (.inr z) (.bl b)))) D = some (.dK (((plc rs).take (i + 1)).map fun z => ((.inr z : Key), V.bl (v z && w' z)))) := fun b e => by
        rw [upd_same, e, ← kvP_more (plc_nodup hv) (fun z => v z && w' z) hz]
      refine ite2 (fun hc => ?_) (fun hc => ?_)
      · refine ⟨_, rfl, m2, CM, dx2, _, _, rfl, s5 _ _ l2, M.cl, M.nk, mf_k _ _ _ _, _, rfl, k2, _, rfl, dg2, ?_⟩
        refine ⟨_, .inr z, rfl, hD5, small1000 (by rw [List.length_map, List.length_take]; omega), fun b o eb => by
          rw [upd_ne (fun y => by rw [y, hD] at eb; cases eb)]
          exact s5 _ _ eb, e9 _ (by rw [hc]; rfl)⟩
      · have hc' : v z = false := by simpa using hc
        refine ⟨_, .inr z, rfl, hD5, small1000 (by rw [List.length_map, List.length_take]; omega), fun b o eb => by
          rw [upd_ne (fun y => by rw [y, hD] at eb; cases eb)]
          exact s5 _ _ eb, e9 false (by rw [hc']; rfl)⟩
    rintro H5 ⟨s5, hD5⟩
    rw [kvG_len, List.take_length] at hD5
    refine ⟨s5 _ _ lk, ?_⟩
    have bk := back s5
    refine ⟨t, D, rs, fun z => (fun a b => a && b) (v z) (w' z), rfl, hm.turns.tree.same bk, by rw [upd_ne nD]; exact hD5, fun r hr q => ?_, fun m3 H6 s6 hm3 => hq m3 H6 (bk.trans s6) hm3⟩
    show (fun a b => a && b) (v r.nm) (w' r.nm) = (fun a b => a && b) (v r.fo) (w' r.fo)
    rw [hm.lk r hr q, hm2.lk r hr q]
theorem sc_M_or : FnScope ["self", "other", "box"] ["self", "other"] (defScope s_Meaning_or) := ⟨rfl, rfl, rfl, by decide +kernel, rfl, by decide +kernel, by decide +kernel⟩
theorem ok_M_or {f : Addr} {fd : FuncData} (F : Fun K "__or__" "Meaning.__or__" s_Meaning_or f fd) (M : TxM K mg CM) (Dc : DefAt K mg "check_trees" s_check_trees ["one", "other"]) (Gc : FnOk P w K mg base CX0 4 Dc.f Dc.fd ["one", "other"] (spCheckTrees C CM))
    (Dw : DefAt K mg "with_values" s_with_values ["tree", "values"]) (Gw : FnOk P w K mg base CX0 9 Dw.f Dw.fd ["tree", "values"] (spWith C CM)) : FnOk P w K mg base CX0 10 f fd ["self", "other"] (spBin C CM fun a b => a || b) := by
  refine F.ok sc_M_or (fun vs H Q E h => ?_) (fun cdv A outer s H vs Q E hr h => ?_)
  · obtain ⟨m, m2, t, t2, rs, v, w', rfl, _⟩ := h
    rfl
  · obtain ⟨m, m2, t, t2, rs, v, w', rfl, hm, hm2, hq⟩ := h
    have hu := hu_of hr
    have hr3 : Room 4 _ := hr.mono (by decide)
    have hv := hm.valid
    have hl := hm.turns.tree.len
    obtain ⟨dx, u, k, h1, h2, h3⟩ := hm.turns.ex
    obtain ⟨dx2, u2, k2, g1, g2, g3⟩ := hm2.turns.ex
    rw [kvM_kvG hv (val_turnsG hv v)] at h3
    rw [kvM_kvG hv (val_turnsG hv w')] at g3
    refine ⟨_, pss_cons (ps_expr (pe_call Gc hr3 rfl Dc.g Dc.F.kp Dc.b .nil pass0 (pa_cons (pv 0) (pa_cons (pv 1) pa_nil))))
      (pss_one (ps_ret (pe_call Gw hr rfl Dw.g Dw.F.kp Dw.b .nil pass0 (pa_cons (pe_fld (pv 0) rfl) (pa_cons (pe_lock (pe_dc (own := [("box", 2)]) (g := gName 2) (tt := tYes) (tk := tVar 2) (tv := tOrV (tDGet (tFld K (tVar 0) "known") (tVar 2)) (tDGet (tFld K (tVar 1) "known") (tVar 2))) rfl sc_M_or.nd (pi_keys (pe_fld (pv 0) rfl)) (blkOk_by (N := ["self", "other", "box"]) (sc := defScope s_Meaning_or) (by decide +kernel))
        (fun _ _ _ _ _ => pg_name (i := 2) sc_M_or.nd rfl (Or.inl rfl)) (fun _ _ _ _ _ => pts_nil) (fun _ _ _ _ _ => pv 2) (fun _ _ _ _ _ => by exact pe_or (pe_dget hu (pe_fld (pv 0) rfl) (pv 2) (fun _ _ => rfl)) (pe_one (pe_dget hu (pe_fld (pv 1) rfl) (pv 2) (fun _ _ => rfl)))))) pa_nil))))), ?_⟩
    refine ⟨_, rfl, _, rfl, m, m2, t, t2, rs, _, _, _, _, rfl, hm.turns, hm2.turns, ?_⟩
    refine ⟨_, rfl, m, CM, dx, _, _, rfl, h1, M.cl, M.nt, mf_t _ _ _ _, ?_⟩
    refine ⟨k, _, h3, trivial, fun od => ?_⟩
    obtain ⟨Hl, El⟩ : ∃ Hx, Hx = upd H k (.frz od (.dK (kvG rs v))) := ⟨_, rfl⟩
    have lk : Hl k = some (.frz od (.dK (kvG rs v))) := by rw [El]; exact upd_same
    have l1 : Hl m = some (.ins CM dx (mf t u k (v "top"))) := by
      rw [El, upd_ne (fun e => by rw [e, h3] at h1; cases h1)]; exact h1
    have l2 : Hl m2 = some (.ins CM dx2 (mf t2 u2 k2 (w' "top"))) := by
      rw [El, upd_ne (fun e => by rw [e, h3] at g1; cases g1)]; exact g1
    have back : ∀ {H' : Hp}, Same Hl H' → Same H (upd H' k (.dK (kvG rs v))) := fun {H'} sl b o e => by
      by_cases q : b = k
      · rw [q, upd_same, ← e, q]; exact h3.symm
      · rw [upd_ne q]; exact sl _ _ (by rw [El, upd_ne q]; exact e)
    have lk2 : ∃ kv, Rd Hl k2 (.dK kv) ∧ kv = kvG rs w' := by
      by_cases q : k2 = k
      · rw [q] at g3
        rw [h3] at g3
        have e3 := HO.dK.inj (Option.some.inj g3)
        exact ⟨_, by rw [q]; exact .inr ⟨od, lk⟩, e3⟩
      · exact ⟨_, .inl (by rw [El, upd_ne q]; exact g3), rfl⟩
    obtain ⟨kv2, rd2, rfl⟩ := lk2
    rw [← El]
    clear El
    refine ⟨_, rfl, m, CM, dx, _, _, rfl, l1, M.cl, M.nk, mf_k _ _ _ _, k, od, rfl, .inl ⟨_, lk, fun D hD => ?_⟩⟩
    have nD : D ≠ k := (ne_of_none lk hD).symm
    have lp : (plc rs).length ≤ 101 := by unfold plc names; rw [List.length_cons, List.length_map]; omega
    refine dc_walk (walk_keys (d := k) (o := od) (kvs := kvG rs v)) (fun i H' => Same Hl H' ∧ H' D = some (.dK (((plc rs).take i).map fun z => ((.inr z : Key), V.bl ((fun a b => a || b) (v z) (w' z)))))) ⟨Same.new hD, upd_same⟩ (fun i H' _ m => m.1 _ _ lk) ?_ ?_
    · rintro i x H5x H5 hi ⟨s5, hD5⟩ ⟨rfl, k', v', hk, rfl⟩
      obtain ⟨z, rfl, hz⟩ := kvG_at hk
      have hzm := List.mem_of_getElem? hz
      have dg1 : DGet H5 k (.str z) (some (.bl (v z))) := .inl ⟨_, .inr z, .inr ⟨od, s5 _ _ lk⟩, rfl, (valV_kvG v hzm).symm⟩
      have dg2 : DGet H5 k2 (.str z) (some (.bl (w' z))) := .inl ⟨_, .inr z, rd2.imp (s5 _ _) (fun ⟨o, e⟩ => ⟨o, s5 _ _ e⟩), rfl, (valV_kvG w' hzm).symm⟩
      refine ⟨rfl, tYes_if ⟨_, rfl, _, rfl, m, CM, dx, _, _, rfl, s5 _ _ l1, M.cl, M.nk, mf_k _ _ _ _, _, rfl, k, _, rfl, dg1, _, rfl, ?_⟩⟩
      have e9 : ∀ b : Bool, b = (v z || w' z) → (upd H5 D (.dK (putK (((plc rs).take i).map fun z => ((.inr z : Key), V.bl (v z || w' z))) (.inr z) (.bl b)))) D = some (.dK (((plc rs).take (i + 1)).map fun z => ((.inr z : Key), V.bl (v z || w' z)))) := fun b e => by
        rw [upd_same, e, ← kvP_more (plc_nodup hv) (fun z => v z || w' z) hz]
      refine ite2 (fun hc => ?_) (fun hc => ?_)
      · refine ⟨_, .inr z, rfl, hD5, small1000 (by rw [List.length_map, List.length_take]; omega), fun b o eb => by
          rw [upd_ne (fun y => by rw [y, hD] at eb; cases eb)]
          exact s5 _ _ eb, e9 true (by rw [hc]; rfl)⟩
      · have hc' : v z = false := by simpa using hc
        refine ⟨_, rfl, m2, CM, dx2, _, _, rfl, s5 _ _ l2, M.cl, M.nk, mf_k _ _ _ _, _, rfl, k2, _, rfl, dg2, ?_⟩
        refine ⟨_, .inr z, rfl, hD5, small1000 (by rw [List.length_map, List.length_take]; omega), fun b o eb => by
          rw [upd_ne (fun y => by rw [y, hD] at eb; cases eb)]
          exact s5 _ _ eb, e9 _ (by rw [hc']; rfl)⟩
    rintro H5 ⟨s5, hD5⟩
    rw [kvG_len, List.take_length] at hD5
    refine ⟨s5 _ _ lk, ?_⟩
    have bk := back s5
    refine ⟨t, D, rs, fun z => (fun a b => a || b) (v z) (w' z), rfl, hm.turns.tree.same bk, by rw [upd_ne nD]; exact hD5, fun r hr q => ?_, fun m3 H6 s6 hm3 => hq m3 H6 (bk.trans s6) hm3⟩
    show (fun a b => a || b) (v r.nm) (w' r.nm) = (fun a b => a || b) (v r.fo) (w' r.fo)
    rw [hm.lk r hr q, hm2.lk r hr q]
theorem sc_M_sub : FnScope ["self", "other", "box"] ["self", "other"] (defScope s_Meaning_sub) := ⟨rfl, rfl, rfl, by decide +kernel, rfl, by decide +kernel, by decide +kernel⟩
theorem ok_M_sub {f : Addr} {fd : FuncData} (F : Fun K "__sub__" "Meaning.__sub__" s_Meaning_sub f fd) (M : TxM K mg CM) (Dc : DefAt K mg "check_trees" s_check_trees ["one", "other"]) (Gc : FnOk P w K mg base CX0 4 Dc.f Dc.fd ["one", "other"] (spCheckTrees C CM))
    (Dw : DefAt K mg "with_values" s_with_values ["tree", "values"]) (Gw : FnOk P w K mg base CX0 9 Dw.f Dw.fd ["tree", "values"] (spWith C CM)) : FnOk P w K mg base CX0 10 f fd ["self", "other"] (spBin C CM fun a b => a && !b) := by
  refine F.ok sc_M_sub (fun vs H Q E h => ?_) (fun cdv A outer s H vs Q E hr h => ?_)
  · obtain ⟨m, m2, t, t2, rs, v, w', rfl, _⟩ := h
    rfl
  · obtain ⟨m, m2, t, t2, rs, v, w', rfl, hm, hm2, hq⟩ := h
    have hu := hu_of hr
    have hr3 : Room 4 _ := hr.mono (by decide)
    have hv := hm.valid
    have hl := hm.turns.tree.len
    obtain ⟨dx, u, k, h1, h2, h3⟩ := hm.turns.ex
    obtain ⟨dx2, u2, k2, g1, g2, g3⟩ := hm2.turns.ex
    rw [kvM_kvG hv (val_turnsG hv v)] at h3
    rw [kvM_kvG hv (val_turnsG hv w')] at g3
    refine ⟨_, pss_cons (ps_expr (pe_call Gc hr3 rfl Dc.g Dc.F.kp Dc.b .nil pass0 (pa_cons (pv 0) (pa_cons (pv 1) pa_nil))))
      (pss_one (ps_ret (pe_call Gw hr rfl Dw.g Dw.F.kp Dw.b .nil pass0 (pa_cons (pe_fld (pv 0) rfl) (pa_cons (pe_lock (pe_dc (own := [("box", 2)]) (g := gName 2) (tt := tYes) (tk := tVar 2) (tv := tAndV (tDGet (tFld K (tVar 0) "known") (tVar 2)) (tNotV (tDGet (tFld K (tVar 1) "known") (tVar 2)))) rfl sc_M_sub.nd (pi_keys (pe_fld (pv 0) rfl)) (blkOk_by (N := ["self", "other", "box"]) (sc := defScope s_Meaning_sub) (by decide +kernel))
        (fun _ _ _ _ _ => pg_name (i := 2) sc_M_sub.nd rfl (Or.inl rfl)) (fun _ _ _ _ _ => pts_nil) (fun _ _ _ _ _ => pv 2) (fun _ _ _ _ _ => by exact pe_and (pe_dget hu (pe_fld (pv 0) rfl) (pv 2) (fun _ _ => rfl)) (pe_one (pe_not (pe_dget hu (pe_fld (pv 1) rfl) (pv 2) (fun _ _ => rfl))))))) pa_nil))))), ?_⟩
    refine ⟨_, rfl, _, rfl, m, m2, t, t2, rs, _, _, _, _, rfl, hm.turns, hm2.turns, ?_⟩
    refine ⟨_, rfl, m, CM, dx, _, _, rfl, h1, M.cl, M.nt, mf_t _ _ _ _, ?_⟩
    refine ⟨k, _, h3, trivial, fun od => ?_⟩
    obtain ⟨Hl, El⟩ : ∃ Hx, Hx = upd H k (.frz od (.dK (kvG rs v))) := ⟨_, rfl⟩
    have lk : Hl k = some (.frz od (.dK (kvG rs v))) := by rw [El]; exact upd_same
    have l1 : Hl m = some (.ins CM dx (mf t u k (v "top"))) := by
      rw [El, upd_ne (fun e => by rw [e, h3] at h1; cases h1)]; exact h1
    have l2 : Hl m2 = some (.ins CM dx2 (mf t2 u2 k2 (w' "top"))) := by
      rw [El, upd_ne (fun e => by rw [e, h3] at g1; cases g1)]; exact g1
    have back : ∀ {H' : Hp}, Same Hl H' → Same H (upd H' k (.dK (kvG rs v))) := fun {H'} sl b o e => by
      by_cases q : b = k
      · rw [q, upd_same, ← e, q]; exact h3.symm
      · rw [upd_ne q]; exact sl _ _ (by rw [El, upd_ne q]; exact e)
    have lk2 : ∃ kv, Rd Hl k2 (.dK kv) ∧ kv = kvG rs w' := by
      by_cases q : k2 = k
      · rw [q] at g3
        rw [h3] at g3
        have e3 := HO.dK.inj (Option.some.inj g3)
        exact ⟨_, by rw [q]; exact .inr ⟨od, lk⟩, e3⟩
      · exact ⟨_, .inl (by rw [El, upd_ne q]; exact g3), rfl⟩
    obtain ⟨kv2, rd2, rfl⟩ := lk2
    rw [← El]
    clear El
    refine ⟨_, rfl, m, CM, dx, _, _, rfl, l1, M.cl, M.nk, mf_k _ _ _ _, k, od, rfl, .inl ⟨_, lk, fun D hD => ?_⟩⟩
    have nD : D ≠ k := (ne_of_none lk hD).symm
    have lp : (plc rs).length ≤ 101 := by unfold plc names; rw [List.length_cons, List.length_map]; omega
    refine dc_walk (walk_keys (d := k) (o := od) (kvs := kvG rs v)) (fun i H' => Same Hl H' ∧ H' D = some (.dK (((plc rs).take i).map fun z => ((.inr z : Key), V.bl ((fun a b => a && !b) (v z) (w' z)))))) ⟨Same.new hD, upd_same⟩ (fun i H' _ m => m.1 _ _ lk) ?_ ?_
    · rintro i x H5x H5 hi ⟨s5, hD5⟩ ⟨rfl, k', v', hk, rfl⟩
      obtain ⟨z, rfl, hz⟩ := kvG_at hk
      have hzm := List.mem_of_getElem? hz
      have dg1 : DGet H5 k (.str z) (some (.bl (v z))) := .inl ⟨_, .inr z, .inr ⟨od, s5 _ _ lk⟩, rfl, (valV_kvG v hzm).symm⟩
      have dg2 : DGet H5 k2 (.str z) (some (.bl (w' z))) := .inl ⟨_, .inr z, rd2.imp (s5 _ _) (fun ⟨o, e⟩ => ⟨o, s5 _ _ e⟩), rfl, (valV_kvG w' hzm).symm⟩
      refine ⟨rfl, tYes_if ⟨_, rfl, _, rfl, m, CM, dx, _, _, rfl, s5 _ _ l1, M.cl, M.nk, mf_k _ _ _ _, _, rfl, k, _, rfl, dg1, _, rfl, ?_⟩⟩
      have e9 : ∀ b : Bool, b = (v z && !(w' z)) → (upd H5 D (.dK (putK (((plc rs).take i).map fun z => ((.inr z : Key), V.bl (v z && !(w' z)))) (.inr z) (.bl b)))) D = some (.dK (((plc rs).take (i + 1)).map fun z => ((.inr z : Key), V.bl (v z && !(w' z))))) := fun b e => by
        rw [upd_same, e, ← kvP_more (plc_nodup hv) (fun z => v z && !(w' z)) hz]
      refine ite2 (fun hc => ?_) (fun hc => ?_)
      · refine ⟨_, rfl, m2, CM, dx2, _, _, rfl, s5 _ _ l2, M.cl, M.nk, mf_k _ _ _ _, _, rfl, k2, _, rfl, dg2, _, rfl, ?_⟩
        refine ⟨_, .inr z, rfl, hD5, small1000 (by rw [List.length_map, List.length_take]; omega), fun b o eb => by
          rw [upd_ne (fun y => by rw [y, hD] at eb; cases eb)]
          exact s5 _ _ eb, e9 _ (by rw [hc]; rfl)⟩
      · have hc' : v z = false := by simpa using hc
        refine ⟨_, .inr z, rfl, hD5, small1000 (by rw [List.length_map, List.length_take]; omega), fun b o eb => by
          rw [upd_ne (fun y => by rw [y, hD] at eb; cases eb)]
          exact s5 _ _ eb, e9 false (by rw [hc']; rfl)⟩
    rintro H5 ⟨s5, hD5⟩
    rw [kvG_len, List.take_length] at hD5
    refine ⟨s5 _ _ lk, ?_⟩
    have bk := back s5
    refine ⟨t, D, rs, fun z => (fun a b => a && !b) (v z) (w' z), rfl, hm.turns.tree.same bk, by rw [upd_ne nD]; exact hD5, fun r hr q => ?_, fun m3 H6 s6 hm3 => hq m3 H6 (bk.trans s6) hm3⟩
    show (fun a b => a && !b) (v r.nm) (w' r.nm) = (fun a b => a && !b) (v r.fo) (w' r.fo)
    rw [hm.lk r hr q, hm2.lk r hr q]
theorem sc_M_invert : FnScope ["self"] ["self"] (defScope s_Meaning_invert) := ⟨rfl, rfl, rfl, by decide +kernel, rfl, by decide +kernel, by decide +kernel⟩
theorem ok_M_invert {fM f : Addr} {fdM fd : FuncData} (F : Fun K "__invert__" "Meaning.__invert__" s_Meaning_invert f fd) (M : TxM K mg CM)
    (MM : Mk K CM fM) (bM : Binds K fdM ["self", "tree", "default", "turns"] []) (GM : FnOk P w K mg base CX0 7 fM fdM ["self", "tree", "default", "turns"] (spMeaningInit K C CM)) : FnOk P w K mg base CX0 9 f fd ["self"] (spInv C CM) := by
  refine F.ok sc_M_invert (fun vs H Q E h => ?_) (fun cdv A outer s H vs Q E hr h => ?_)
  · obtain ⟨m, t, rs, v, rfl, _⟩ := h
    rfl
  · obtain ⟨m, t, rs, v, rfl, hm, hq⟩ := h
    have hv := hm.valid
    obtain ⟨dx, u, k, h1, h2, h3⟩ := hm.turns.ex
    refine ⟨_, pss_one (ps_ret (pe_make MM GM hr rfl M.g bM .nil pass0 (pa_cons (pe_fld (pv 0) rfl) (pa_cons (pe_not (pe_fld (pv 0) rfl)) (pa_cons (pe_fld (pv 0) rfl) pa_nil))))), ?_⟩
    refine ⟨_, rfl, m, CM, dx, _, _, rfl, h1, M.cl, M.nt, mf_t _ _ _ _, _, rfl, m, CM, dx, _, _, rfl, h1, M.cl, M.nd, mf_d _ _ _ _, _, rfl, _, rfl, m, CM, dx, _, _, rfl, h1, M.cl, M.nu, mf_u _ _ _ _, ?_⟩
    refine fun m3 dm nm nd _ => ⟨m3, dm, t, u, !(v "top"), turnsG rs v, rs, rfl, upd_same, hm.turns.tree.same (mk_same0 nm nd), SqX.same (.inr (sqT h2)) (mk_same0 nm nd), hm.free, fun H4 sb4 hm4 => ⟨rfl, ?_⟩⟩
    rw [turnsL_sub hv (turnsG_sub rs v)] at hm4
    refine hq m3 H4 (mk_same nm nd sb4) ⟨⟨_, _, hm4, fun z hz => ?_⟩, fun r hr q => ?_⟩
    · show turned (!(v "top")) (turnsG rs v) (wayOf rs z) = !(v z)
      rw [turned_not, ← val_turnsG hv v z hz]
      rfl
    · show (!(v r.nm)) = !(v r.fo)
      rw [hm.lk r hr q]
end
end Ts

set_option maxRecDepth 100000
set_option maxHeartbeats 4000000
namespace Ts
open PySem L2
def spLOpen : Sp := fun vs H Q _ => ∃ (p : Addr) (rs : List Row), vs = [.ref p] ∧ RowsL H p rs ∧ rs.length ≤ 100 ∧ ∀ D H', H D = none → Same H H' → H' D = some (.lst (((rs.filter fun r => decide (r.pr ≠ none)).map (·.nm)).map V.str)) → Q (.ref D) H'
section
variable {P : Program} {w : World} {K : PySem.W.Frag} {mg : Str → Option Value} {base : Heap} {C CM : Addr}
abbrev nLOpen : List Str := ["_law_rows_here", "_law_row"]
theorem sc_Lopen : FnScope nLOpen ["_law_rows_here"] (defScope s_L_open) := ⟨rfl, rfl, rfl, by decide +kernel, rfl, by decide +kernel, by decide +kernel⟩
theorem ok_Lopen (D : DefAt K mg "_law_open" s_L_open ["_law_rows_here"]) : FnOk P w K mg base CX0 2 D.f D.fd ["_law_rows_here"] spLOpen := by
  refine D.F.ok sc_Lopen (fun vs H Q E h => ?_) (fun cdv A outer s H vs Q E hr h => ?_)
  · obtain ⟨p, rs, rfl, _⟩ := h
    rfl
  · obtain ⟨p, rs, rfl, hL, hl, hq⟩ := h
    obtain ⟨as, hp, hrows⟩ := id hL.ex
    refine ⟨_, pss_one (ps_ret (pe_lc (own := [("_law_row", 1)]) (g := gName 1) (tt := tTest (tOp (fun x y H Q => y = .non ∧ Q (.bl (!decide (x = .non))) H) (tOp (rIxT K) (tVar 1) (tC (.int 3))) (tC .non))) (te := tOp (rIxT K) (tVar 1) (tC (.int 0))) rfl sc_Lopen.nd (pi_list (pv 0)) (blkOk_by (N := nLOpen) (sc := defScope s_L_open) (by decide +kernel))
        (fun _ _ _ _ _ => pg_name (i := 1) sc_Lopen.nd rfl (Or.inl rfl)) (fun _ _ _ _ _ => by exact pts_one (pt_cmpR op_notN (pe_ix ix_tup (pv 1) pe_int (fun _ _ => rfl)) pe_non (nomark _))) (fun _ _ _ _ _ => by exact pe_ix ix_tup (pv 1) pe_int (fun _ _ => rfl)))), ?_⟩
    refine ⟨_, rfl, p, rfl, ⟨_, SqL.of hp⟩, fun D hD => ?_⟩
    refine lc_list (K := K) (a := p) (xs := as.map V.ref) (fun i H' => Same H H' ∧ H' D = some (.lst ((((rs.take i).filter fun r => decide (r.pr ≠ none)).map (·.nm)).map V.str))) ⟨Same.new hD, upd_same⟩ (fun i H' _ m => m.1.seq (SqL.of hp)) ?_ ?_
    · rintro i x H3 hx ⟨s3, hD3⟩
      rw [List.getElem?_map] at hx
      obtain ⟨ra, hra, rfl⟩ := Option.map_eq_some_iff.mp hx
      obtain ⟨r, hr'⟩ : ∃ r, rs[i]? = some r := ⟨rs[i]'(by rw [← hrows.len]; exact (List.getElem?_eq_some_iff.mp hra).1), List.getElem?_eq_getElem _⟩
      have e0 := s3 _ _ (hrows.at_ i ra r hra hr')
      have szD : (((rs.take i).filter fun r => decide (r.pr ≠ none)).map (·.nm)).length ≤ 1000 := by
        rw [List.length_map]
        have h1 := List.length_filter_le (fun r : Row => decide (r.pr ≠ none)) (rs.take i)
        rw [List.length_take] at h1
        omega
      refine ⟨rfl, _, rfl, ra, _, _, _, rfl, rfl, sqT e0, atI3 _ _ _ _, rfl, _, rfl, ?_⟩
      have e : (!decide (prV r.pr = V.non)) = decide (r.pr ≠ none) := by
        cases h : r.pr with
        | none => rfl
        | some c => rw [show decide (prV (some c) = V.non) = false from decide_eq_false (fun h => by cases h)]; rfl
      rw [e]
      refine ite2 (fun hi => ?_) (fun hi => ?_)
      · refine ⟨_, rfl, ra, _, _, _, rfl, rfl, sqT e0, atI0 _ _ _ _, _, hD3, by rw [List.length_map]; exact small1000 szD, fun b o eb => ?_, ?_⟩
        · rw [upd_ne (fun y => by rw [y, hD] at eb; cases eb)]
          exact s3 _ _ eb
        · rw [upd_same, filter_take hr', if_pos hi, List.map_append]; rfl
      · refine ⟨s3, ?_⟩
        rw [filter_take hr', if_neg hi, List.append_nil]
        exact hD3
    · rintro H3 ⟨s3, hD3⟩
      rw [List.length_map, hrows.len, List.take_length] at hD3
      exact hq D H3 hD s3 hD3
end
end Ts

set_option maxRecDepth 100000
set_option maxHeartbeats 4000000
namespace Ts
open PySem L2
def spLSome : Sp := fun vs H Q _ => ∃ (a l : Addr) (n : Int) (xs : List Str), vs = [.ref a, .ref l] ∧ Stm H a n ∧ n ≤ 1000000000 ∧ l ≠ a ∧ H l = some (.lst (xs.map V.str)) ∧ xs.length ≤ 100 ∧
  ∀ (D : Addr) (H' : Hp) (ys : List Str), H D = none → D ≠ a → H' D = some (.lst (ys.map V.str)) → ys.Sublist xs → SB a H H' → Stm H' a (n + xs.length) → Q (.ref D) H'
section
variable {P : Program} {w : World} {K : PySem.W.Frag} {mg : Str → Option Value} {base : Heap} {C CM : Addr}
abbrev nLSome : List Str := ["_law_stream_here", "_law_things", "_law_thing"]
theorem sc_Lsome : FnScope nLSome ["_law_stream_here", "_law_things"] (defScope s_L_some) := ⟨rfl, rfl, rfl, by decide +kernel, rfl, by decide +kernel, by decide +kernel⟩
theorem ok_Lsome (D : DefAt K mg "_law_some" s_L_some ["_law_stream_here", "_law_things"]) (Dd : DefAt K mg "_law_draw" s_L_draw ["_law_stream_here", "_law_many"]) (Gd : FnOk P w K mg base CX0 2 Dd.f Dd.fd ["_law_stream_here", "_law_many"] spDraw) : FnOk P w K mg base CX0 3 D.f D.fd ["_law_stream_here", "_law_things"] spLSome := by
  refine D.F.ok sc_Lsome (fun vs H Q E h => ?_) (fun cdv A outer s H vs Q E hr h => ?_)
  · obtain ⟨a, l, n, xs, rfl, _⟩ := h
    rfl
  · obtain ⟨a, l, n, xs, rfl, hst, hn, nla, hl, hx, hq⟩ := h
    refine ⟨_, pss_one (ps_ret (pe_lc (own := [("_law_thing", 2)]) (g := gName 2) (tt := tTest (tOp rEq (tCall spDraw [] E0 (tCons (tVar 0) (tCons (tC (.int 2)) tNil))) (tC (.int 0)))) (te := tVar 2) rfl sc_Lsome.nd (pi_list (pv 1)) (blkOk_by (N := nLSome) (sc := defScope s_L_some) (by decide +kernel))
        (fun _ _ _ _ _ => pg_name (i := 2) sc_Lsome.nd rfl (Or.inl rfl)) (fun _ _ _ _ _ => by exact pts_one (pt_cmpR op_eq (pe_call Gd hr rfl Dd.g Dd.F.kp Dd.b .nil pass0 (pa_cons (pv 0) (pa_cons pe_int pa_nil))) pe_int (nomark _))) (fun _ _ _ _ _ => pv 2))), ?_⟩
    refine ⟨_, rfl, l, rfl, ⟨_, SqL.of hl⟩, fun D hD => ?_⟩
    have Da : D ≠ a := (hst.ne hD).symm
    refine lc_list (K := K) (a := l) (xs := xs.map V.str) (fun i H' => SB a H H' ∧ Stm H' a (n + i) ∧ ∃ ys : List Str, H' D = some (.lst (ys.map V.str)) ∧ ys.Sublist (xs.take i)) ⟨SB.upd hD, by simpa using hst.upd (o := .lst []) hD, [], upd_same, by simp⟩ (fun i H' _ m => SqL.of (m.1 _ _ nla hl)) ?_ ?_
    · rintro i x H2 hxi ⟨sb, st, ys, hD2, hsub⟩
      rw [List.getElem?_map] at hxi
      obtain ⟨z, hz, rfl⟩ := Option.map_eq_some_iff.mp hxi
      have hi : i < xs.length := (List.getElem?_eq_some_iff.mp hz).1
      refine ⟨rfl, _, rfl, a, 2, _, rfl, st, by omega, by decide, by decide, fun r H3 r0 r1 st3 he3 => ?_⟩
      have sb3 := sb.trans (sb_eq he3)
      have hD3 : H3 D = some (.lst (ys.map V.str)) := by rw [he3 D Da]; exact hD2
      have ly := hsub.length_le
      rw [List.length_take] at ly
      refine ⟨rfl, _, rfl, ?_⟩
      refine ite2 (fun _ => ?_) (fun _ => ?_)
      · refine ⟨_, rfl, _, hD3, small1000 (by rw [List.length_map]; omega), fun b o nb e => ?_, ?_, ys ++ [z], by rw [upd_same, List.map_append]; rfl, ?_⟩
        · rw [upd_ne (fun y => by rw [y, hD] at e; cases e)]
          exact sb3 b o nb e
        · obtain ⟨x1, y1, z1, e1, k1⟩ := st3
          exact ⟨x1, y1, z1, by rw [upd_ne Da.symm]; exact e1, k1.1, k1.2.1, k1.2.2.1, k1.2.2.2.1, by have := k1.2.2.2.2; push_cast; omega⟩
        · rw [take_more hz]
          exact List.Sublist.append hsub (List.Sublist.refl _)
      · refine ⟨sb3, st3.mono (by push_cast; omega), ys, hD3, ?_⟩
        rw [take_more hz]
        exact hsub.trans (List.sublist_append_left _ _)
    · rintro H2 ⟨sb, st, ys, hD2, hsub⟩
      rw [List.length_map] at st hsub
      rw [List.take_length] at hsub
      exact hq D H2 ys hD Da hD2 hsub sb st
end
end Ts

set_option maxRecDepth 100000
set_option maxHeartbeats 4000000
namespace Ts
open PySem L2
def openN (rs : List Row) : List Str := (rs.filter fun r => decide (r.pr ≠ none)).map (·.nm)
theorem openN_free {rs : List Row} (hv : Valid rs) : ∀ z ∈ openN rs, Free rs z := fun z hz => by
  obtain ⟨r, hr', rfl⟩ := List.mem_map.mp hz
  rw [List.mem_filter, decide_eq_true_eq] at hr'
  obtain ⟨i, hi, e⟩ := List.mem_iff_getElem.mp hr'.1
  exact ⟨r, rowOf_at hv (by rw [← e]; exact List.getElem?_eq_getElem hi), hr'.2⟩
theorem openN_len {rs : List Row} (h : rs.length ≤ 100) : (openN rs).length ≤ 100 := by
  unfold openN
  rw [List.length_map]
  exact Nat.le_trans (List.length_filter_le _ _) h
def spLMeaning (C CM : Addr) : Sp := fun vs H Q _ => ∃ (a p t : Addr) (n : Int) (rs : List Row), vs = [.ref a, .ref p, .ref t] ∧ Stm H a n ∧ n ≤ 500000000 ∧ RowsL H p rs ∧ p ≠ a ∧ TreeAt C H t rs ∧ ∀ m v H', MV C CM H' m t rs v → SB a H H' → (∀ b, H b = none → H' b ≠ none → True) → Stm H' a (n + 200) → Q (.ref m) H'
section
variable {P : Program} {w : World} {K : PySem.W.Frag} {mg : Str → Option Value} {base : Heap} {C CM : Addr}
abbrev pMng : List Str := ["_law_stream_here", "_law_rows_here", "_law_tree"]
theorem sc_mng : FnScope pMng pMng (defScope s_L_meaning) := ⟨rfl, rfl, rfl, by decide +kernel, rfl, by decide +kernel, by decide +kernel⟩
theorem ok_mng {fM : Addr} {fdM : FuncData} (D : DefAt K mg "_law_meaning" s_L_meaning pMng) (M : TxM K mg CM) (Dd : DefAt K mg "_law_draw" s_L_draw ["_law_stream_here", "_law_many"]) (Gd : FnOk P w K mg base CX0 2 Dd.f Dd.fd ["_law_stream_here", "_law_many"] spDraw)
    (Do : DefAt K mg "_law_open" s_L_open ["_law_rows_here"]) (Go : FnOk P w K mg base CX0 2 Do.f Do.fd ["_law_rows_here"] spLOpen)
    (Dso : DefAt K mg "_law_some" s_L_some ["_law_stream_here", "_law_things"]) (Gso : FnOk P w K mg base CX0 3 Dso.f Dso.fd ["_law_stream_here", "_law_things"] spLSome)
    (MM : Mk K CM fM) (bM : Binds K fdM ["self", "tree", "default", "turns"] []) (GM : FnOk P w K mg base CX0 7 fM fdM ["self", "tree", "default", "turns"] (spMeaningInit K C CM)) :
    FnOk P w K mg base CX0 9 D.f D.fd pMng (spLMeaning C CM) := by
  refine D.F.ok sc_mng (fun vs H Q E h => ?_) (fun cdv A outer s H vs Q E hr h => ?_)
  · obtain ⟨a, p, t, n, rs, rfl, _⟩ := h
    rfl
  · obtain ⟨a, p, t, n, rs, rfl, hst, hn, hL, np, ht, hq⟩ := h
    have hr2 : Room 3 _ := hr.mono (by decide)
    have hr1 : Room 2 _ := hr.mono (by decide)
    have hv := ht.val
    have hl := ht.len
    refine ⟨_, pss_one (ps_ret (pe_make MM GM hr rfl M.g bM .nil pass0 (pa_cons (pv 2) (pa_cons (pe_cmpR op_eq (pe_call Gd hr1 rfl Dd.g Dd.F.kp Dd.b .nil pass0 (pa_cons (pv 0) (pa_cons pe_int pa_nil))) pe_int (nomark _)) (pa_cons (pe_call Gso hr2 rfl Dso.g Dso.F.kp Dso.b .nil pass0 (pa_cons (pv 0) (pa_cons (pe_call Go hr1 rfl Do.g Do.F.kp Do.b .nil pass0 (pa_cons (pv 1) pa_nil)) pa_nil))) pa_nil))))), ?_⟩
    refine ⟨_, rfl, _, rfl, a, 2, n, rfl, hst, by omega, by decide, by decide, fun r H1 r0 r1 st1 he1 => ⟨rfl, ?_⟩⟩
    have sb1 := sb_eq (H := H) he1
    have L1 := hL.sbk np hst sb1
    have t1 := ht.kl (KL.sb hst sb1)
    refine ⟨_, rfl, _, rfl, p, rs, rfl, L1, hl, fun D2 H2 hD2 s2 e2 => ?_⟩
    have lo := openN_len hl
    refine ⟨a, D2, _, _, rfl, st1.same s2, by omega, (st1.ne hD2).symm, e2, lo, fun u H3 ts hu3 nu eu hsub sb3 st3 => ?_⟩
    have t3 := (t1.same s2).kl (KL.sb (st1.same s2) sb3)
    have fr : ∀ z ∈ ts, Free rs z := fun z hz => openN_free hv z (hsub.subset hz)
    have hnorm : turnsL rs ts = ts := turnsL_sub hv (hsub.trans (List.Sublist.map _ List.filter_sublist))
    refine fun m dm nm nd _ => ⟨m, dm, t, u, _, ts, rs, rfl, upd_same, t3.same (mk_same0 nm nd), SqX.same (.inl (SqL.of eu)) (mk_same0 nm nd), fr, fun H4 sb4 hm => ⟨rfl, ?_⟩⟩
    rw [hnorm] at hm
    have s4 := mk_same nm nd sb4
    refine hq m _ H4 (MV.of hm fr) ((sb1.trans (SB.of s2)).trans (sb3.trans (SB.of s4))) (fun _ _ _ => trivial) ((st3.same s4).mono ?_)
    have e : ((rs.filter fun r => decide (r.pr ≠ none)).map (·.nm)).length ≤ 100 := lo
    omega
end
end Ts

set_option maxRecDepth 100000
set_option maxHeartbeats 4000000
namespace Ts
open PySem L2
theorem in_below {rs : List Row} (h : Valid rs) {z : Str} {r : Row} (hr : r ∈ rs) : decide (r.nm ∈ belowL rs z) = isIn rs z r := by
  by_cases i : isIn rs z r = true
  · rw [i]
    exact decide_eq_true (List.mem_map.mpr ⟨r, List.mem_filter.mpr ⟨hr, i⟩, rfl⟩)
  · rw [Bool.not_eq_true] at i
    rw [i]
    refine decide_eq_false fun hm => ?_
    obtain ⟨q, hq, e⟩ := List.mem_map.mp hm
    obtain ⟨q1, q2⟩ := List.mem_filter.mp hq
    rw [names_inj h q1 hr e, i] at q2
    cases q2
theorem filter_two (p : Row → Bool) : ∀ l : List Row, (l.filter p).length + (l.filter fun r => !p r).length = l.length
  | [] => rfl
  | r :: l => by
    have ih := filter_two p l
    by_cases e : p r = true
    · rw [List.filter_cons_of_pos e, List.filter_cons_of_neg (by simp [e]), List.length_cons, List.length_cons]; omega
    · rw [List.filter_cons_of_neg e, List.filter_cons_of_pos (by simp [e]), List.length_cons, List.length_cons]; omega
section
variable {P : Program} {w : World} {K : PySem.W.Frag} {mg : Str → Option Value} {base : Heap} {C : Addr}
abbrev nMoved : List Str := ["self", "box", "folder", "below", "ahead", "behind", "row"]
theorem sc_Tree_moved : FnScope nMoved ["self", "box", "folder"] (defScope s_Tree_moved) := ⟨rfl, rfl, rfl, by decide +kernel, rfl, by decide +kernel, by decide +kernel⟩
theorem ok_Tree_moved {f fT : Addr} {fd fdT : FuncData} (F : Fun K "moved" "Tree.moved" s_Tree_moved f fd) (Db : DefAt K mg "check_box" s_check_box ["tree", "thing"]) (Gb : FnOk P w K mg base CX0 3 Db.f Db.fd ["tree", "thing"] (spBox C))
    (Dp : DefAt K mg "check_place" s_check_place ["tree", "thing"]) (Gp : FnOk P w K mg base CX0 4 Dp.f Dp.fd ["tree", "thing"] (spPlace C)) (TC : TxC K mg) (T : TxT K mg C)
    (mB : MethAt K C "below" "Tree.below" s_Tree_below ["self", "box"]) (GB : FnOk P w K mg base CX0 5 mB.f mB.fd ["self", "box"] (spListOf C belowL))
    (MT : Mk K C fT) (bT : Binds K fdT ["self", "rows"] []) (GT : FnOk P w K mg base CX0 5 fT fdT ["self", "rows"] (spTreeInit C)) : FnOk P w K mg base CX0 7 f fd ["self", "box", "folder"] (spMoved C) := by
  obtain ⟨t1, gT⟩ := TC.top
  obtain ⟨t2, gF⟩ := TC.folder
  refine F.ok sc_Tree_moved (fun vs H Q E h => ?_) (fun cdv A outer s H vs Q E hr h => ?_)
  · obtain ⟨t, m, fo, rs, rfl, _⟩ := h
    rfl
  · obtain ⟨t, m, fo, rs, rfl, ht, hm, hfo, hq⟩ := h
    have hu := hu_of hr
    have hv := ht.val
    have l100 := ht.len
    have hz : m.nm ∈ names rs := List.mem_map.mpr ⟨m, hm, rfl⟩
    have zt : m.nm ≠ ("top" : Str) := fun e => top_not hv (e ▸ hz)
    obtain ⟨dx, q, f, k, p, qs, h1, h2, h3, h4, h5, h6⟩ := ht.ex
    refine ⟨_, pss_cons (ps_expr (pe_call Gb (hr.mono (by decide)) rfl Db.g Db.F.kp Db.b .nil pass0 (pa_cons (pv 0) (pa_cons (pv 1) pa_nil))))
      (pss_cons (ps_expr (pe_call Gp (hr.mono (by decide)) rfl Dp.g Dp.F.kp Dp.b .nil pass0 (pa_cons (pv 0) (pa_cons (pv 2) pa_nil))))
      (pss_cons (ps_set (i := 3) sc_Tree_moved.nd rfl (.inr rfl) (pe_meth (pv 0) T.cl mB.m GB (hr.mono (by decide)) mB.b .nil pass0 (pa_cons (pv 1) pa_nil)))
      (C8.pss_cut (ps_if (PW.pt (pw_and (pt_cmpR op_ne (pv 2) (pe_glob (by rfl) gT (v := .str ("top" : Str)) ⟨_, rfl⟩) (nomark _)) (pw_and1 (PW.pt (pw_or (pt_cmpR op_ne (pe_dget hu (pe_fld (pv 0) rfl) (pv 2) (fun _ _ => rfl)) (pe_glob (by rfl) gF (v := .str ("folder" : Str)) ⟨_, rfl⟩) (nomark _)) (pw_or (pt_cmpR op_eq (pv 2) (pv 1) (nomark _)) (pw_or1 (pt_cmpR op_in_seq (pv 2) (pv 3) (by rfl))))))))) (pss_one ps_never) pss_nil)
      (pss_cons (ps_setLc (i := 4) (own := [("row", 6)]) (g := gName 6) (tt := tAnd (tTest (tOp rNe (tOp (rIxT K) (tVar 6) (tC (.int 0))) (tVar 1))) (tTest (tOp (rIn K true) (tOp (rIxT K) (tVar 6) (tC (.int 0))) (tVar 3)))) (te := tVar 6) rfl sc_Tree_moved.nd rfl rfl (sw_true rfl rfl rfl (by decide +kernel)) (pi_tup (pe_fld (pv 0) rfl)) (blkOk_by (N := nMoved) (sc := defScope s_Tree_moved) (by decide +kernel))
        (fun _ _ _ _ _ => pg_name (i := 6) sc_Tree_moved.nd rfl (Or.inl rfl)) (fun _ _ _ _ _ => by exact pts_one (PW.pt (pw_and (pt_cmpR op_ne (pe_ix ix_tup (pv 6) pe_int (fun _ _ => rfl)) (pv 1) (nomark _)) (pw_and1 (pt_cmpR op_notIn_seq (pe_ix ix_tup (pv 6) pe_int (fun _ _ => rfl)) (pv 3) (by rfl)))))) (fun _ _ _ _ _ => pv 6))
      (pss_cons (ps_setLc (i := 5) (own := [("row", 6)]) (g := gName 6) (tt := tTest (tOp (rIn K false) (tOp (rIxT K) (tVar 6) (tC (.int 0))) (tVar 3))) (te := tVar 6) rfl sc_Tree_moved.nd rfl rfl (sw_true rfl rfl rfl (by decide +kernel)) (pi_tup (pe_fld (pv 0) rfl)) (blkOk_by (N := nMoved) (sc := defScope s_Tree_moved) (by decide +kernel))
        (fun _ _ _ _ _ => pg_name (i := 6) sc_Tree_moved.nd rfl (Or.inl rfl)) (fun _ _ _ _ _ => by exact pts_one (pt_cmpR op_in_seq (pe_ix ix_tup (pv 6) pe_int (fun _ _ => rfl)) (pv 3) (by rfl))) (fun _ _ _ _ _ => pv 6))
      (pss_one (ps_ret (pe_make MT GT hr rfl T.g bT .nil pass0 (pa_cons (pe_op op_cat (pe_op op_cat (pv 4) (pe_lst (pa_cons (pe_tup (pa_cons (pv 1) (pa_cons (pv 2) (pa_cons (pe_dget hu (pe_fld (pv 0) rfl) (pv 1) (fun _ _ => rfl)) (pa_cons (pe_dget hu (pe_fld (pv 0) rfl) (pv 1) (fun _ _ => rfl)) pa_nil))))) pa_nil))) (pv 5)) pa_nil))))))))), ?_⟩
    have noB : (tf q f k p).lookup ("below" : Str) = none := tf_no _ _ _ _ (by decide +kernel) (by decide +kernel) (by decide +kernel) (by decide +kernel)
    have hfo' : fo = ("top" : Str) ∨ fo ∈ names rs := hfo.imp id fun ⟨q, hq, e, _⟩ => List.mem_map.mpr ⟨q, hq, e⟩
    refine ⟨_, rfl, _, rfl, t, m.nm, rs, rfl, ht, hz, ?_⟩
    refine ⟨_, rfl, _, rfl, t, fo, rs, rfl, ht, hfo', ?_⟩
    refine ⟨_, rfl, t, dx, _, rfl, h1, noB, _, rfl, t, m.nm, rs, rfl, ht, .inr hz, fun bl H1 hbl s1 e1 => ?_⟩
    have lbe := List.length_filter_le (isIn rs m.nm) rs
    refine ⟨fun σ' H' => σ' = [some (.ref t), some (.str m.nm), some (.str fo), some (.ref bl), none, none, none] ∧ H' = H1, ?_, ?_⟩
    · refine ⟨_, rfl, rfl, _, rfl, ?_⟩
      refine ite2 (fun hc => ?_) (fun hc => iteF ⟨rfl, rfl⟩)
      have hn : fo ≠ ("top" : Str) := fun e => by rw [e] at hc; simp at hc
      obtain ⟨q', hq', eq', kq', uq'⟩ := hfo.resolve_left hn
      obtain ⟨j, hj, ej⟩ := List.mem_iff_getElem.mp hq'
      have ro := rowOf_at hv (i := j) (r := q') (by rw [← ej]; exact List.getElem?_eq_getElem hj)
      have dg := DGet.k (k := Sum.inr fo) (s1 _ _ h5)
      rw [valV_kvF, show (rs.find? fun q => decide (q.nm = fo)) = some q' from by rw [← eq']; exact ro] at dg
      refine ⟨_, rfl, t, C, dx, _, _, rfl, s1 _ _ h1, T.cl, T.nk, tf_k _ _ _ _, _, rfl, k, _, rfl, dg, rfl, _, rfl, ?_⟩
      rw [decide_eq_true (congrArg V.str kq')]
      refine iteF ?_
      refine ⟨_, rfl, _, rfl, rfl, _, rfl, ?_⟩
      have ne1 : fo ≠ m.nm := fun e => by
        rw [under_self hv hq' (eq'.trans e)] at uq'
        cases uq'
      rw [decide_eq_false (fun e => ne1 (V.str.inj e))]
      refine iteF ?_
      refine ⟨_, rfl, _, rfl, bl, _, rfl, .inl (SqL.of e1), rfl, flat_strs _, _, rfl, ?_⟩
      have e : (if false = true then !inV (.str fo) ((belowL rs m.nm).map V.str) else inV (.str fo) ((belowL rs m.nm).map V.str)) = false := by
        rw [if_neg Bool.false_ne_true, inV_strs, ← eq', in_below hv hq']
        rw [under_iff hv zt hq', decide_eq_false (by rw [eq']; exact ne1), Bool.false_or] at uq'
        exact uq'
      rw [e]
      exact iteF ⟨rfl, rfl⟩
    rintro σ' H' ⟨rfl, rfl⟩
    -- ahead
    refine ⟨_, rfl, t, C, dx, _, _, rfl, s1 _ _ h1, T.cl, T.nq, tf_q _ _ _ _, q, rfl, ⟨_, sqT (s1 _ _ h2)⟩, fun D hD => ?_⟩
    have r1 := h3.same s1
    refine lc_tup (K := K) (a := q) (xs := qs.map V.ref) (fun i H2 => KeepI H' H2 D ((rs.take i).filter fun r => !under rs m.nm r)) (KeepI.nil hD) (fun i H2 _ m => sqT (m.same _ _ (s1 _ _ h2))) ?_ ?_
    · rintro i x H4 hx mi
      obtain ⟨ra, r, rfl, hra, hr', e0⟩ := rows_at r1 hx
      have e4 := mi.same _ _ e0
      have hrm := List.mem_of_getElem? hr'
      refine ⟨rfl, _, rfl, ra, _, _, _, rfl, rfl, sqT e4, atI0 _ _ _ _, _, rfl, rfl, _, rfl, ?_⟩
      refine ite2 (fun hc => ?_) (fun hc => ?_)
      · have hne : r.nm ≠ m.nm := fun e => by rw [e] at hc; simp at hc
        refine ⟨_, rfl, ra, _, _, _, rfl, rfl, sqT e4, atI0 _ _ _ _, _, rfl, bl, _, rfl, .inl (SqL.of (mi.same _ _ e1)), rfl, flat_strs _, _, rfl, ?_⟩
        have e : (if true = true then !inV (.str r.nm) ((belowL rs m.nm).map V.str) else inV (.str r.nm) ((belowL rs m.nm).map V.str)) = !under rs m.nm r := by
          rw [if_pos rfl, inV_strs, in_below hv hrm, under_iff hv zt hrm, decide_eq_false hne, Bool.false_or]
        rw [e]
        refine ite2 (fun hc => ?_) (fun hc => ?_)
        · have g := mi.grow hD (Same.refl _) e4 (by have := List.length_filter_le (fun r => !under rs m.nm r) (rs.take i); rw [List.length_take] at this; omega)
          refine ⟨_, rfl, ?_⟩
          rw [filter_more hr', if_pos hc]
          exact g
        · rw [filter_more hr', if_neg hc, List.append_nil]
          exact mi
      · have he : r.nm = m.nm := Classical.byContradiction fun e => hc (by
          show (!decide (V.str r.nm = V.str m.nm)) = true
          rw [decide_eq_false (fun q => e (V.str.inj q))]; rfl)
        refine iteF ?_
        rw [filter_more hr', if_neg (by rw [under_self hv hrm he]; simp), List.append_nil]
        exact mi
    rintro H4 mA
    rw [List.length_map, h3.len, List.take_length] at mA
    have s4 := s1.trans mA.same
    -- behind
    refine ⟨_, rfl, t, C, dx, _, _, rfl, s4 _ _ h1, T.cl, T.nq, tf_q _ _ _ _, q, rfl, ⟨_, sqT (s4 _ _ h2)⟩, fun D2 hD2 => ?_⟩
    have r4 := h3.same s4
    refine lc_tup (K := K) (a := q) (xs := qs.map V.ref) (fun i H2 => KeepI H4 H2 D2 ((rs.take i).filter (isIn rs m.nm))) (KeepI.nil hD2) (fun i H2 _ m => sqT (m.same _ _ (s4 _ _ h2))) ?_ ?_
    · rintro i x H5 hx mi
      obtain ⟨ra, r, rfl, hra, hr', e0⟩ := rows_at r4 hx
      have e4 := mi.same _ _ e0
      have hrm := List.mem_of_getElem? hr'
      refine ⟨rfl, _, rfl, ra, _, _, _, rfl, rfl, sqT e4, atI0 _ _ _ _, _, rfl, bl, _, rfl, .inl (SqL.of (mi.same _ _ (mA.same _ _ e1))), rfl, flat_strs _, _, rfl, ?_⟩
      have e : (if false = true then !inV (.str r.nm) ((belowL rs m.nm).map V.str) else inV (.str r.nm) ((belowL rs m.nm).map V.str)) = isIn rs m.nm r := by
        rw [if_neg Bool.false_ne_true, inV_strs, in_below hv hrm]
      rw [e]
      refine ite2 (fun hc => ?_) (fun hc => ?_)
      · have g := mi.grow hD2 (Same.refl _) e4 (by have := List.length_filter_le (isIn rs m.nm) (rs.take i); rw [List.length_take] at this; omega)
        refine ⟨_, rfl, ?_⟩
        rw [filter_more hr', if_pos hc]
        exact g
      · rw [filter_more hr', if_neg hc, List.append_nil]
        exact mi
    rintro H5 mB'
    rw [List.length_map, h3.len, List.take_length] at mB'
    have s5 := s4.trans mB'.same
    have mA5 := mA.on mB'.same
    obtain ⟨as, d1, d2⟩ := mA5.ex
    obtain ⟨bs, b1, b2⟩ := mB'.ex
    obtain ⟨j, hj, ej⟩ := List.mem_iff_getElem.mp hm
    have ro := rowOf_at hv (i := j) (r := m) (by rw [← ej]; exact List.getElem?_eq_getElem hj)
    have dgk := DGet.k (k := Sum.inr m.nm) (s5 _ _ h5)
    rw [valV_kvF, show (rs.find? fun q => decide (q.nm = m.nm)) = some m from ro] at dgk
    have dgp := DGet.k (k := Sum.inr m.nm) (s5 _ _ h6)
    rw [valV_kvF, show (rs.find? fun q => decide (q.nm = m.nm)) = some m from ro] at dgp
    have la : as.length ≤ 100 := by
      have := List.length_filter_le (fun r => !under rs m.nm r) rs
      rw [d2.len]; omega
    have lb : bs.length ≤ 100 := by rw [b2.len]; omega
    refine ⟨_, rfl, _, rfl, _, rfl, _, rfl, t, C, dx, _, _, rfl, s5 _ _ h1, T.cl, T.nk, tf_k _ _ _ _, _, rfl, k, _, rfl, dgk, _, rfl, t, C, dx, _, _, rfl, s5 _ _ h1, T.cl, T.np, tf_p _ _ _ _, _, rfl, p, _, rfl, dgp, (by show 4 ≤ sizeLine; decide), fun u1 hu1 => ⟨(by show 1 ≤ sizeLine; decide), fun u2 hu2 => ?_⟩⟩
    have s6 := (Same.new (o := .tup [V.str m.nm, .str fo, .str m.ki, prV m.pr]) hu1).trans (Same.new (o := .lst [V.ref u1]) hu2)
    have e6 := (Same.new (o := .lst [V.ref u1]) hu2) u1 _ upd_same
    refine ⟨D, u2, _, _, rfl, rfl, s6 _ _ d1, upd_same, szl (by rw [List.length_map]; show _ + 1 ≤ 1000; omega), fun u3 hu3 => ?_⟩
    have s7 := s6.trans (Same.new (o := .lst (as.map V.ref ++ [V.ref u1])) hu3)
    refine ⟨_, rfl, u3, D2, _, _, rfl, rfl, upd_same, s7 _ _ b1, szl (by rw [List.length_append, List.length_map, List.length_map]; show _ + 1 + _ ≤ 1000; omega), fun u4 hu4 => ?_⟩
    have s8 := s7.trans (Same.new (o := .lst (as.map V.ref ++ [V.ref u1] ++ bs.map V.ref)) hu4)
    intro x d nx nd _
    have s9 := mk_same0 (C := C) nx nd
    have e8 := ((Same.new (o := .lst (as.map V.ref ++ [V.ref u1])) hu3).trans (Same.new (o := .lst (as.map V.ref ++ [V.ref u1] ++ bs.map V.ref)) hu4)) _ _ e6
    have rr : SeqRows (upd (upd (upd (upd H5 u1 (.tup [V.str m.nm, .str fo, .str m.ki, prV m.pr])) u2 (.lst [V.ref u1])) u3 (.lst (as.map V.ref ++ [V.ref u1]))) u4 (.lst (as.map V.ref ++ [V.ref u1] ++ bs.map V.ref))) (as ++ (u1 :: bs)) (movedL rs m fo) := by
      refine SeqRows.append (d2.same s8).seq ?_
      have := SeqRows.append (SeqRows.snoc (as := []) (rs := []) ⟨rfl, fun _ _ _ h => by simp at h⟩ (.inl (show _ = some (HO.tup (rowVs { m with fo := fo })) from e8))) (b2.same s8).seq
      simpa using this
    have e9 : (upd (upd (upd (upd H5 u1 (.tup [V.str m.nm, .str fo, .str m.ki, prV m.pr])) u2 (.lst [V.ref u1])) u3 (.lst (as.map V.ref ++ [V.ref u1]))) u4 (.lst (as.map V.ref ++ [V.ref u1] ++ bs.map V.ref))) u4 = some (.lst ((as ++ (u1 :: bs)).map V.ref)) := by rw [upd_same]; simp
    have lm : (movedL rs m fo).length ≤ 100 := by
      have e1 : (rs.filter (under rs m.nm)).length + (rs.filter fun r => !under rs m.nm r).length = rs.length := by
        exact filter_two (under rs m.nm) rs
      rw [under_split hv hm, List.length_cons] at e1
      unfold movedL lessL
      rw [List.length_append, List.length_cons]
      omega
    exact ⟨x, d, u4, _, movedL rs m fo, rfl, upd_same, .inr (s9 _ _ e9), rr.same s9, lm, moved_valid hv hm hfo, fun H6 sb tr => ⟨rfl, hq x H6 ((s5.trans s8).trans (mk_same nx nd sb)) tr⟩⟩
end
end Ts

set_option maxRecDepth 100000
set_option maxHeartbeats 4000000
namespace Ts
open PySem L2
def beneathL (rs : List Row) (z : Str) : List Str := (rs.filter (under rs z)).map (·.nm)
theorem in_beneath {rs : List Row} (h : Valid rs) {z : Str} {r : Row} (hr : r ∈ rs) : decide (r.nm ∈ beneathL rs z) = under rs z r := by
  by_cases i : under rs z r = true
  · rw [i]
    exact decide_eq_true (List.mem_map.mpr ⟨r, List.mem_filter.mpr ⟨hr, i⟩, rfl⟩)
  · rw [Bool.not_eq_true] at i
    rw [i]
    refine decide_eq_false fun hm => ?_
    obtain ⟨q, hq, e⟩ := List.mem_map.mp hm
    obtain ⟨q1, q2⟩ := List.mem_filter.mp hq
    rw [names_inj h q1 hr e, i] at q2
    cases q2
def spBeneath : Sp := fun vs H Q _ => ∃ (p : Addr) (z : Str) (rs : List Row), vs = [.ref p, .str z] ∧ RowsL H p rs ∧ Valid rs ∧ rs.length ≤ 100 ∧
  ∀ D H', H D = none → Same H H' → H' D = some (.lst ((beneathL rs z).map V.str)) → Q (.ref D) H'
section
variable {P : Program} {w : World} {K : PySem.W.Frag} {mg : Str → Option Value} {base : Heap} {C : Addr}
abbrev nBeneath : List Str := ["_law_rows_here", "_law_box", "_law_row"]
theorem sc_beneath : FnScope nBeneath ["_law_rows_here", "_law_box"] (defScope s_L_beneath) := ⟨rfl, rfl, rfl, by decide +kernel, rfl, by decide +kernel, by decide +kernel⟩
theorem ok_beneath (D : DefAt K mg "_law_beneath" s_L_beneath ["_law_rows_here", "_law_box"]) (Dw : DefAt K mg "_law_way" s_L_way ["_law_rows_here", "_law_box"]) (Gw : FnOk P w K mg base CX0 2 Dw.f Dw.fd ["_law_rows_here", "_law_box"] spWay) : FnOk P w K mg base CX0 3 D.f D.fd ["_law_rows_here", "_law_box"] spBeneath := by
  refine D.F.ok sc_beneath (fun vs H Q E h => ?_) (fun cdv A outer s H vs Q E hr h => ?_)
  · obtain ⟨p, z, rs, rfl, _⟩ := h
    rfl
  · obtain ⟨p, z, rs, rfl, hL, hv, hl, hq⟩ := h
    obtain ⟨as, hp, hrows⟩ := id hL.ex
    refine ⟨_, pss_one (ps_ret (pe_lc (own := [("_law_row", 2)]) (g := gName 2) (tt := tTest (tOp (rIn K false) (tVar 1) (tCall spWay [] E0 (tCons (tVar 0) (tCons (tOp (rIxT K) (tVar 2) (tC (.int 0))) tNil))))) (te := tOp (rIxT K) (tVar 2) (tC (.int 0))) rfl sc_beneath.nd (pi_list (pv 0)) (blkOk_by (N := nBeneath) (sc := defScope s_L_beneath) (by decide +kernel))
        (fun _ _ _ _ _ => pg_name (i := 2) sc_beneath.nd rfl (Or.inl rfl)) (fun _ _ _ _ _ => by exact pts_one (pt_cmpR op_in_seq (pv 1) (pe_call Gw hr rfl Dw.g Dw.F.kp Dw.b .nil pass0 (pa_cons (pv 0) (pa_cons (pe_ix ix_tup (pv 2) pe_int (fun _ _ => rfl)) pa_nil))) (by rfl))) (fun _ _ _ _ _ => by exact pe_ix ix_tup (pv 2) pe_int (fun _ _ => rfl)))), ?_⟩
    refine ⟨_, rfl, p, rfl, ⟨_, SqL.of hp⟩, fun D hD => ?_⟩
    refine lc_list (K := K) (a := p) (xs := as.map V.ref) (fun i H' => Same H H' ∧ H' D = some (.lst ((((rs.take i).filter (under rs z)).map (·.nm)).map V.str))) ⟨Same.new hD, upd_same⟩ (fun i H' _ m => m.1.seq (SqL.of hp)) ?_ ?_
    · rintro i x H3 hx ⟨s3, hD3⟩
      obtain ⟨ra, r, rfl, hra, hr', e0⟩ := rows_at hrows hx
      have hrm := List.mem_of_getElem? hr'
      have szD : (((rs.take i).filter (under rs z)).map (·.nm)).length ≤ 1000 := by
        rw [List.length_map]
        have h1 := List.length_filter_le (under rs z) (rs.take i)
        rw [List.length_take] at h1
        omega
      refine ⟨rfl, _, rfl, _, rfl, _, rfl, ra, _, _, _, rfl, rfl, sqT (s3 _ _ e0), atI0 _ _ _ _, p, r.nm, rs, rfl, hL.same s3, hv, hl, .inr (List.mem_map.mpr ⟨r, hrm, rfl⟩), fun D4 H4 h4n s4 hD4 => ?_⟩
      refine ⟨D4, _, rfl, .inl (SqL.of hD4), rfl, flat_strs _, _, rfl, ?_⟩
      have e : (if false = true then !inV (.str z) ((wayOf rs r.nm).map V.str) else inV (.str z) ((wayOf rs r.nm).map V.str)) = under rs z r := by
        rw [if_neg Bool.false_ne_true, inV_strs]; rfl
      rw [e]
      refine ite2 (fun hi => ?_) (fun hi => ?_)
      · refine ⟨_, rfl, ra, _, _, _, rfl, rfl, sqT (s4 _ _ (s3 _ _ e0)), atI0 _ _ _ _, _, s4 _ _ hD3, by rw [List.length_map]; exact small1000 szD, fun b o eb => ?_, ?_⟩
        · rw [upd_ne (fun y => by rw [y, hD] at eb; cases eb)]
          exact s4 _ _ (s3 _ _ eb)
        · rw [upd_same, filter_take hr', if_pos hi, List.map_append]; rfl
      · refine ⟨fun b o eb => s4 _ _ (s3 _ _ eb), ?_⟩
        rw [filter_take hr', if_neg hi, List.append_nil]
        exact s4 _ _ hD3
    · rintro H3 ⟨s3, hD3⟩
      rw [List.length_map, hrows.len, List.take_length] at hD3
      exact hq D H3 hD s3 hD3
end
end Ts

set_option maxRecDepth 100000
set_option maxHeartbeats 4000000
namespace Ts
open PySem L2
/-! ### an own error class with one field, as it stands -/
structure ErrT (K : PySem.W.Frag) (mg : Str → Option Value) (E : Addr) (nm fn : Str) : Prop where
  O : OexC K E
  X : XfC K E
  nb : PySem.W.findIn K (.ref E) fn = some none
  g : mg nm = some (.ref E)
  te : PySem.W.exmOne K (.ref E) (.ref E) = some true
theorem exm_self {K : PySem.W.Frag} {S : Addr} (h1 : PySem.W.subIn K (.ref S) (.type "BaseException") = some true) (h2 : PySem.W.isClsIn K S = true) (h3 : PySem.W.typeIn K (.ref S) = some (.type "type")) (h4 : PySem.W.subIn K (.ref S) (.ref S) = some true) :
    PySem.W.exmOne K (.ref S) (.ref S) = some true := by
  have e1 : (PySem.W.subIn K (.ref S) (.type "BaseException") == some true) = true := by rw [h1] <;> rfl
  have e2 : ((PySem.W.clsIn K S).isSome && PySem.W.typeIn K (.ref S) == some (.type "type")) = true := by
    have h2' : (PySem.W.clsIn K S).isSome = true := h2
    rw [h2', h3] <;> rfl
  show (if (PySem.W.subIn K (.ref S) (.type "BaseException") == some true) = true then (if ((PySem.W.clsIn K S).isSome && PySem.W.typeIn K (.ref S) == some (.type "type")) = true then PySem.W.subIn K (.ref S) (.ref S) else none) else none) = some true
  rw [if_pos e1, if_pos e2]
  exact h4
/-- an error of the class at S is not what «except D» names -/
theorem exm_other {K : PySem.W.Frag} {S D : Addr} (h1 : PySem.W.subIn K (.ref D) (.type "BaseException") = some true) (h2 : PySem.W.isClsIn K D = true) (h3 : PySem.W.typeIn K (.ref D) = some (.type "type")) (h4 : PySem.W.subIn K (.ref S) (.ref D) = some false) :
    PySem.W.exmOne K (.ref S) (.ref D) = some false := by
  have e1 : (PySem.W.subIn K (.ref D) (.type "BaseException") == some true) = true := by rw [h1] <;> rfl
  have e2 : ((PySem.W.clsIn K D).isSome && PySem.W.typeIn K (.ref D) == some (.type "type")) = true := by
    have h2' : (PySem.W.clsIn K D).isSome = true := h2
    rw [h2', h3] <;> rfl
  show (if (PySem.W.subIn K (.ref D) (.type "BaseException") == some true) = true then (if ((PySem.W.clsIn K D).isSome && PySem.W.typeIn K (.ref D) == some (.type "type")) = true then PySem.W.subIn K (.ref S) (.ref D) else none) else none) = some false
  rw [if_pos e1, if_pos e2]
  exact h4
theorem errAll {K : PySem.W.Frag} {h : Heap} {mg : Str → Option Value} (X : K.In h) (G : h.Ns mainGlobals mg) {E BE f : Addr} {cn fn iq : Str} {st : Stmt} {nm q : Str} {N : Addr} {bs : List Value} {sn : List Str} {sub : List Value} {ab : Bool} {col : Option Bool} {dd : Option Addr} {m0 m1 m2 m3 m5 : Option Value}
    {od an : Option Addr} {sl : Array (Option Value)} {oc kV dc pm cd ct : Value}
    (aC : PySem.W.nsIn K mainGlobals cn = some (some (.ref E)))
    (xL : K.lookup E = some (excClassObj nm q E N bs [.ref BE, .type "ValueError", .type "Exception", .type "BaseException", .type "object"] true sn sub ab col dd m0 m1 m2 m3 m5 "ValueError.__new__"))
    (sa : PySem.W.findIn K (.ref E) "__setattr__" = some (some (.builtin "object.__setattr__"))) (ga : PySem.W.findIn K (.ref E) "__getattribute__" = some (some (.builtin "BaseException.__getattribute__"))) (gg : PySem.W.findIn K (.ref E) "__getattr__" = some none) (nb : PySem.W.findIn K (.ref E) fn = some none)
    (a1 : PySem.W.findIn K (.ref E) "__init__" = some (some (.ref f))) (t1 : PySem.W.typeIn K (.ref f) = some (.type "function"))
    (l1 : K.lookup f = some ⟨oc, od, .func (PySem.W.fnOf "__init__" iq (defArgs st) (defBody st) (defScope st) .none kV dc pm an cd ct), sl⟩) (c1 : PySem.W.codeIn K cd iq = true) (k1 : PySem.W.keepIn K (.ref f) = true)
    (kC : PySem.W.keepIn K (.ref E) = true) (eC : PySem.W.subIn K (.ref E) (.type "BaseException") = some true) (tC : PySem.W.typeIn K (.ref E) = some (.type "type")) (hC : PySem.W.hasDictIn K E = true) (iC : PySem.W.isClsIn K E = true) (sC : PySem.W.subIn K (.ref E) (.ref E) = some true) :
    ErrT K mg E cn fn ∧ ∃ (f : Addr) (fd : FuncData), PySem.W.findIn K (.ref E) "__init__" = some (some (.ref f)) ∧ PySem.W.typeIn K (.ref f) = some (.type "function") ∧ Fun K "__init__" iq st f fd :=
  ⟨⟨⟨⟨nm, q, N, bs, _, sn, sub, ab, col, dd, m0, m1, m2, m3, m5, xL, rfl⟩, sa, eC, tC, kC⟩, ⟨ga, gg, eC, hC⟩, nb, PySem.W.mg_of X G aC, exm_self eC iC tC sC⟩, f, _, a1, t1, fun_mk l1 c1 k1⟩
end Ts

set_option maxRecDepth 100000
set_option maxHeartbeats 4000000
namespace Ts
open PySem L2
/-! ### an own error with one field that its own __init__ stores -/
def spErr1 (CC : Addr) (fn : Str) : Sp := fun vs H Q _ => ∃ (a : Addr) (x : V), vs = [.ref a, x] ∧ H a = some (exo a CC none) ∧ ∀ d, H d = none → d ≠ a → Q .non (upd (upd H d (exd d [(fn, x)])) a (exo a CC (some d)))
section
variable {CC : Addr}
/-- what stands behind a raise: the error's own dict, new -/
theorem rd_err1 {fn : Str} {H1 : Hp} {x : V} {Q : XK} (k : ∀ d, H1 d = none → Q (.ref CC) (some d) (upd H1 d (.xd [(fn, x)]))) : ([x] : List V).length ≤ 1000 ∧ ∀ a, H1 a = none → spErr1 CC fn (.ref a :: ([x] ++ [])) (upd H1 a (exo a CC none)) (fun v H2 => v = .non ∧ ∃ (d : Addr) (fs : List (Str × V)), H2 a = some (exo a CC (some d)) ∧ H2 d = some (exd d fs) ∧ H1 d = none ∧ Q (.ref CC) (some d) (upd (del H2 a) d (.xd fs))) (fun _ _ _ => False) := by
  refine ⟨(by show 1 ≤ 1000; decide), fun a ha => ⟨a, x, rfl, upd_same, fun d hd ne => ⟨rfl, d, [(fn, x)], upd_same, by rw [upd_ne ne]; exact upd_same, by rw [upd_ne ne] at hd; exact hd, ?_⟩⟩⟩
  have hd1 : H1 d = none := by rw [upd_ne ne] at hd; exact hd
  have e : upd (del (upd (upd (upd H1 a (exo a CC none)) d (exd d [(fn, x)])) a (exo a CC (some d))) a) d (.xd [(fn, x)]) = upd H1 d (.xd [(fn, x)]) := by
    funext b
    by_cases q : b = d
    · rw [q, upd_same, upd_same]
    · rw [upd_ne q, upd_ne q]
      unfold del
      by_cases r : b = a
      · rw [if_pos r, r]; exact ha.symm
      · rw [if_neg r, upd_ne r, upd_ne q, upd_ne r]
  rw [e]
  exact k d hd1
end
section
variable {P : Program} {w : World} {K : PySem.W.Frag} {mg : Str → Option Value} {base : Heap}
/-- where nothing is raised, a def that may raise is as one that may not -/
theorem calm {k : Nat} {f : Addr} {fd : FuncData} {ps : List Str} {sp sp' : Sp} (F : FnOk P w K mg base (L2.CX P w) k f fd ps sp) (h : ∀ vs H Q E, sp' vs H Q E → sp vs H Q E0) : FnOk P w K mg base CX0 k f fd ps sp' :=
  ⟨fun vs H Q E q => F.len vs H Q E0 (h _ _ _ _ q), fun A outer s H args us vs Q E hr he hb hv hs => codeAny_mono (F.run A outer s H args us vs Q E0 hr he hb hv (h _ _ _ _ hs)) fun r s' q => by
    cases r with
    | ok f => cases f <;> exact q
    | error e =>
      obtain ⟨_, _, _, _, _, _, _, _, _, _, _, _, z⟩ := q
      exact z.elim⟩
end
end Ts

set_option maxRecDepth 100000
set_option maxHeartbeats 4000000
namespace Ts
open PySem L2
section
variable {P : Program} {w : World} {K : PySem.W.Frag} {mg : Str → Option Value} {base : Heap} {CC : Addr}
theorem sc_Locked_init : FnScope ["self", "box"] ["self", "box"] (defScope s_Locked_init) := ⟨rfl, rfl, rfl, by decide +kernel, rfl, by decide +kernel, by decide +kernel⟩
theorem ok_Locked_init {f : Addr} {fd : FuncData} (F : Fun K "__init__" "Locked.__init__" s_Locked_init f fd) (O : OexC K CC) (nb : PySem.W.findIn K (.ref CC) "box" = some none) : FnOk P w K mg base CX0 2 f fd ["self", "box"] (spErr1 CC "box") := by
  refine F.ok sc_Locked_init (fun vs H Q E h => ?_) (fun cdv A outer s H vs Q E hr h => ?_)
  · obtain ⟨a, x, rfl, _⟩ := h
    rfl
  · obtain ⟨a, x, rfl, ha, hq⟩ := h
    refine ⟨_, pss_one (ps_ost (pv 0) (pv 1)), ?_⟩
    exact ⟨_, rfl, _, rfl, a, CC, rfl, O, nb, .inl ⟨ha, fun d hd ne => hq d hd ne⟩⟩
end
end Ts

set_option maxRecDepth 100000
set_option maxHeartbeats 4000000
namespace Ts
open PySem L2
/-! ### turns that may be locked -/
def lockedB (rs : List Row) (z : Str) : Bool := match rowOf rs z with
  | some r => decide (r.pr = none)
  | none => false
def firstLk (rs : List Row) (xs : List Str) : Option Str := xs.find? (lockedB rs)
theorem lk_free {rs : List Row} {z : Str} (hz : z ∈ names rs) (h : lockedB rs z = false) : Free rs z := by
  obtain ⟨r, e, _, _⟩ := rowOf_some hz
  unfold lockedB at h
  rw [e] at h
  exact ⟨r, e, of_decide_eq_false h⟩
theorem free_lk {rs : List Row} {z : Str} (h : Free rs z) : lockedB rs z = false := by
  obtain ⟨r, e, hp⟩ := h
  unfold lockedB
  rw [e]
  exact decide_eq_false hp
theorem first_free {rs : List Row} {xs : List Str} (h : ∀ x ∈ xs, Free rs x) : firstLk rs xs = none := List.find?_eq_none.mpr fun x hx => by rw [free_lk (h x hx)]; exact Bool.false_ne_true
def spCheckTurnsX (K : PySem.W.Frag) (C CL : Addr) : Sp := fun vs H Q E => ∃ (t u : Addr) (xs : List Str) (rs : List Row), vs = [.ref t, .ref u] ∧ TreeAt C H t rs ∧ SqX K H u (xs.map V.str) ∧ (∀ x ∈ xs, x ∈ names rs) ∧
  (∀ z, firstLk rs xs = some z → ∀ d H', H d = none → Same H H' → H' d = some (.xd [("box", .str z)]) → E (.ref CL) (some d) H') ∧ (firstLk rs xs = none → Q .non H)
def spMeaningInitX (K : PySem.W.Frag) (C CM CL : Addr) : Sp := fun vs H Q E => ∃ (m dx t h : Addr) (d : Bool) (xs : List Str) (rs : List Row), vs = [.ref m, .ref t, .bl d, .ref h] ∧ H m = some (.ins CM dx []) ∧ TreeAt C H t rs ∧ SqX K H h (xs.map V.str) ∧ (∀ x ∈ xs, x ∈ names rs) ∧
  (∀ z, firstLk rs xs = some z → ∀ d H', H d = none → Same H H' → H' d = some (.xd [("box", .str z)]) → E (.ref CL) (some d) H') ∧ (firstLk rs xs = none → ∀ H', SB m H H' → MeanAt C CM H' m t rs d (turnsL rs xs) → Q .non H')
section
variable {P : Program} {w : World} {K : PySem.W.Frag} {mg : Str → Option Value} {base : Heap} {C CM CL : Addr}
theorem ok_check_turnsX {fI : Addr} {fdI : FuncData} (D : DefAt K mg "check_turns" s_check_turns ["tree", "turns"]) (Db : DefAt K mg "check_box" s_check_box ["tree", "thing"]) (Gb : FnOk P w K mg base CX0 3 Db.f Db.fd ["tree", "thing"] (spBox C)) (T : TxT K mg C)
    (mP : MethAt K C "price" "Tree.price" s_Tree_price ["self", "box"]) (GP : FnOk P w K mg base CX0 4 mP.f mP.fd ["self", "box"] (spGet C fun r => prV r.pr))
    (TL : ErrT K mg CL "Locked" "box") (iC : PySem.W.findIn K (.ref CL) "__init__" = some (some (.ref fI))) (tI : PySem.W.typeIn K (.ref fI) = some (.type "function")) (GI : FnOk P w K mg base CX0 2 fI fdI ["self", "box"] (spErr1 CL "box")) (bI : Binds K fdI ["self", "box"] []) :
    FnOk P w K mg base (L2.CX P w) 5 D.f D.fd ["tree", "turns"] (spCheckTurnsX K C CL) := by
  refine D.F.okX sc_check_turns (fun vs H Q E h => ?_) (fun cdv A outer s H vs Q E hr h => ?_)
  · obtain ⟨t, u, xs, rs, rfl, _⟩ := h
    rfl
  · have hr2 : Room 3 _ := hr.mono (by decide)
    refine ⟨_, pss_cons (ps_for PassesOwn.leaving rfl (pi_seqX (i := 1) (pv 1)) (pg_name (i := 2) sc_check_turns.nd rfl (.inl rfl))
        (pss_one (ps_expr (pe_call Gb hr2 rfl Db.g Db.F.kp Db.b .nil pass0 (pa_cons (pv 0) (pa_cons (pv 2) pa_nil))))))
      (pss_one (ps_for PassesOwn.leaving rfl (pi_seqX (i := 1) (pv 1)) (pg_name (i := 2) sc_check_turns.nd rfl (.inl rfl))
        (pss_one (ps_if (pt_cmpR op_isN (pe_meth (pv 0) T.cl mP.m GP hr mP.b .nil pass0 (pa_cons (pv 2) pa_nil)) pe_non (nomark _)) (pss_one (ps_raise rfl (takes_of rfl rfl rfl rfl) (pmk_oex TL.O iC tI GI hr2 bI .nil pass0 rfl TL.g (by exact pa_cons (pv 2) pa_nil)))) pss_nil)))), ?_⟩
    obtain ⟨t, u, xs, rs, rfl, ht, hx, hmem, hE, hq⟩ := h
    obtain ⟨dx, q, f, k, p, qs, h1, h2, h3, h4, h5, h6⟩ := id ht.ex
    have noP : (tf q f k p).lookup ("price" : Str) = none := tf_no _ _ _ _ (by decide +kernel) (by decide +kernel) (by decide +kernel) (by decide +kernel)
    have at_ : ∀ {i : Nat} {x : V}, (xs.map V.str)[i]? = some x → ∃ z, x = .str z ∧ xs[i]? = some z ∧ z ∈ names rs := fun {i x} hx => by
      rw [List.getElem?_map] at hx
      obtain ⟨z, hz, rfl⟩ := Option.map_eq_some_iff.mp hx
      exact ⟨z, rfl, hz, hmem z (List.mem_of_getElem? hz)⟩
    refine ⟨u, _, rfl, hx, fun J W => ?_⟩
    refine for_it W (fun i σ H' => ∃ v : Option V, σ = [some (.ref t), some (.ref u), v] ∧ H' = H) ⟨none, rfl, rfl⟩ (fun i σ H' _ ⟨_, _, e⟩ => by rw [e]) ?_ ?_
    · rintro i x σ H2 H3 hi ⟨v, rfl, rfl⟩ ⟨rfl, hxi⟩
      obtain ⟨z, rfl, _, hz⟩ := at_ hxi
      exact ⟨_, rfl, _, rfl, t, z, rs, rfl, ht, hz, _, rfl, rfl⟩
    rintro σ H2 ⟨v, rfl, rfl⟩
    refine ⟨u, _, rfl, hx, fun J W => ?_⟩
    refine for_it W (fun i σ H' => ∃ v : Option V, σ = [some (.ref t), some (.ref u), v] ∧ H' = H2 ∧ ∀ x ∈ xs.take i, lockedB rs x = false) ⟨v, rfl, rfl, fun x hx => by simp at hx⟩ (fun i σ H' _ ⟨_, _, e, _⟩ => by rw [e]) ?_ ?_
    · rintro i x σ H3 H4 hi ⟨v, rfl, rfl, hall⟩ ⟨rfl, hxi⟩
      obtain ⟨z, rfl, hzi, hz⟩ := at_ hxi
      obtain ⟨r, hr', _, _⟩ := rowOf_some hz
      refine ⟨_, rfl, t, dx, _, rfl, h1, noP, _, rfl, t, z, rs, r, rfl, ht, hr', ?_⟩
      have e2 : decide ((fun r : Row => prV r.pr) r = V.non) = lockedB rs z := by
        unfold lockedB
        rw [hr']
        show decide (prV r.pr = V.non) = decide (r.pr = none)
        cases r.pr <;> rfl
      refine ⟨rfl, _, rfl, ?_⟩
      rw [e2]
      refine ite2 (fun hc => ?_) (fun hc => ?_)
      · have ef : firstLk rs xs = some z := find_at hall hzi hc
        exact ⟨_, rfl, rd_err1 fun d hd => hE z ef d _ hd (Same.new hd) upd_same⟩
      · refine ⟨_, rfl, rfl, fun y hy => ?_⟩
        rw [take_more hzi] at hy
        rcases List.mem_append.mp hy with hy | hy
        · exact hall y hy
        · rw [List.mem_singleton.mp hy]
          simpa using hc
    · rintro σ H3 ⟨v, rfl, rfl, hall⟩
      refine hq (List.find?_eq_none.mpr fun y hy => ?_)
      rw [List.length_map, List.take_length] at hall
      rw [hall y hy]
      exact Bool.false_ne_true
theorem ok_M_initX {f : Addr} {fd : FuncData} {dvs : List V} (F : FunD K "__init__" "Meaning.__init__" (defArgs s_Meaning_init) (defBody s_Meaning_init) (defScope s_Meaning_init) dvs [] f fd) (B : TxB mg) (TC : TxC K mg) (T : TxT K mg C) (M : TxM K mg CM)
    (Dc : DefAt K mg "check_turns" s_check_turns ["tree", "turns"]) (Gc : FnOk P w K mg base (L2.CX P w) 5 Dc.f Dc.fd ["tree", "turns"] (spCheckTurnsX K C CL))
    (Dv : DefAt K mg "values_of" s_values_of ["tree", "default", "turns"]) (Gv : FnOk P w K mg base CX0 6 Dv.f Dv.fd ["tree", "default", "turns"] (spValues C))
    (mB : MethAt K C "below" "Tree.below" s_Tree_below ["self", "box"]) (GB : FnOk P w K mg base CX0 5 mB.f mB.fd ["self", "box"] (spListOf C belowL)) :
    FnOk P w K mg base (L2.CX P w) 7 f fd ["self", "tree", "default", "turns"] (spMeaningInitX K C CM CL) := by
  obtain ⟨t1, gT⟩ := TC.top
  refine F.ok sc_M_init (fun vs H Q E h => ?_) (fun cdv A outer s H vs Q E hr h => ?_)
  · obtain ⟨m, dx, t, h, d, xs, rs, rfl, _⟩ := h
    rfl
  · have hr4 : Room 5 _ := hr.mono (by decide)
    refine ⟨_, pss_cons (ps_if (pt_not (pt_val (pe_callB call_isi (by rfl) B.isinstance (by decide +kernel) (pa_cons (pv 2) (pa_cons (pe_bltn (by rfl) B.bool (by decide +kernel) (v := .ty "bool") rfl) pa_nil))))) (pss_one ps_never) pss_nil)
      (pss_cons (ps_expr (pe_call Gc hr4 rfl Dc.g Dc.F.kp Dc.b .nil (passes_call (takes_of rfl rfl rfl rfl) (fun _ _ _ _ h => h)) (pa_cons (pv 1) (pa_cons (pv 3) pa_nil))))
      (pss_cons (ps_fld (pv 0) (pv 1) rfl)
      (pss_cons (ps_fld (pv 0) (pv 2) rfl)
      (pss_cons (ps_fld (pv 0) (pe_callTy call_tuple_of (by rfl) B.tuple (by decide +kernel) (pa_cons (pe_lc (own := [("box", 4)]) (g := gName 4) (tt := tTest (tOp (rIn K false) (tVar 4) (tVar 3))) (te := tVar 4) rfl sc_M_init.nd (pi_list (pe_meth (pv 1) T.cl mB.m GB hr4 mB.b .nil pass0 (pa_cons (pe_glob (by rfl) gT (v := .str ("top" : Str)) ⟨_, rfl⟩) pa_nil))) (blkOk_by (N := nMInit) (sc := defScope s_Meaning_init) (by decide +kernel))
          (fun _ _ _ _ _ => pg_name (i := 4) sc_M_init.nd rfl (Or.inl rfl)) (fun _ _ _ _ _ => by exact pts_one (pt_cmpR op_in_seq (pv 4) (pv 3) (by rfl))) (fun _ _ _ _ _ => pv 4)) pa_nil)) rfl)
      (pss_one (ps_fld (pv 0) (pe_call Gv hr rfl Dv.g Dv.F.kp Dv.b .nil pass0 (pa_cons (pv 1) (pa_cons (pv 2) (pa_cons (pe_fld (pv 0) rfl) pa_nil)))) rfl)))))), ?_⟩
    obtain ⟨m, dx, t, h, d, xs, rs, rfl, hm, ht, hx, hmem, hE, hq⟩ := h
    have hv := ht.val
    have l100 := ht.len
    obtain ⟨tx, q, f, k, p, qs, h1, _⟩ := id ht.ex
    have noB : (tf q f k p).lookup ("below" : Str) = none := tf_no _ _ _ _ (by decide +kernel) (by decide +kernel) (by decide +kernel) (by decide +kernel)
    refine ⟨_, rfl, _, _, _, _, true, rfl, .ty "bool", .base (.bl d), kit_ty (by decide +kernel), _, rfl, iteF ?_⟩
    refine ⟨_, rfl, _, rfl, t, h, xs, rs, rfl, ht, hx, hmem, hE, fun hn => ?_⟩
    refine ⟨_, rfl, _, rfl, m, CM, dx, _, rfl, hm, M.cl, M.nt, (by show 0 < 1000; decide), ?_⟩
    refine ⟨_, rfl, _, rfl, m, CM, dx, _, rfl, upd_same, M.cl, M.nd, (Nat.lt_of_le_of_lt (putF_len _ _ _) (by decide)), ?_⟩
    obtain ⟨Hb, Eb⟩ : ∃ Hx, Hx = upd (upd H m (.ins CM dx (putF "tree" (.ref t) []))) m (.ins CM dx (putF "default" (.bl d) (putF "tree" (.ref t) []))) := ⟨_, rfl⟩
    have bm : Hb m = some (.ins CM dx (putF "default" (.bl d) (putF "tree" (.ref t) []))) := by rw [Eb]; exact upd_same
    have sb : SB m H Hb := fun b o nb e => by rw [Eb, upd_ne nb, upd_ne nb]; exact e
    rw [← Eb]
    clear Eb
    have tb := ht.sbm hm sb
    have hxb : SqX K Hb h (xs.map V.str) := hx.sbm hm sb
    have htm : Hb t = some (.ins C tx (tf q f k p)) := by
      refine sb _ _ (fun e => ?_) h1
      rw [e, hm] at h1
      have e3 := Option.some.inj h1
      injection e3 with _ _ e3
      have e4 := tf_p q f k p
      rw [← e3] at e4
      cases e4
    refine ⟨_, rfl, t, tx, _, rfl, htm, noB, t, ("top" : Str), rs, rfl, tb, .inl rfl, fun bl H2 hbl s2 e2 => ?_⟩
    rw [below_top hv] at e2
    refine ⟨bl, rfl, ⟨_, SqL.of e2⟩, fun D hD => ?_⟩
    have hx2 := hxb.same s2
    refine lc_list (K := K) (a := bl) (xs := (names rs).map V.str) (fun i H' => Same H2 H' ∧ H' D = some (.lst (((names (rs.take i)).filter (fun z => decide (z ∈ xs))).map V.str))) ⟨Same.new hD, upd_same⟩ (fun i H' _ m => m.1.seq (SqL.of e2)) ?_ ?_
    · rintro i x H3 hxi ⟨s3, hD3⟩
      unfold names at hxi
      rw [List.getElem?_map, List.getElem?_map] at hxi
      obtain ⟨n1, hn1, rfl⟩ := Option.map_eq_some_iff.mp hxi
      obtain ⟨r, hr', rfl⟩ := Option.map_eq_some_iff.mp hn1
      have sz : (((names (rs.take i)).filter (fun z => decide (z ∈ xs))).map V.str).length < sizeLine := small1000 (by
        rw [List.length_map]
        have h1 := List.length_filter_le (fun z => decide (z ∈ xs)) (names (rs.take i))
        unfold names at h1 ⊢
        rw [List.length_map, List.length_take] at h1
        omega)
      refine ⟨rfl, _, rfl, _, rfl, h, _, rfl, (hx2.same s3), rfl, flat_strs _, _, rfl, ?_⟩
      have e : (if false = true then !inV (.str r.nm) (xs.map V.str) else inV (.str r.nm) (xs.map V.str)) = decide (r.nm ∈ xs) := by
        rw [if_neg Bool.false_ne_true, inV_strs]
      rw [e]
      refine ite2 (fun hc => ?_) (fun hc => ?_)
      · refine ⟨_, rfl, _, hD3, sz, fun b o eb => ?_, ?_⟩
        · rw [upd_ne (fun y => by rw [y, hD] at eb; cases eb)]
          exact s3 _ _ eb
        · rw [upd_same, turns_more hr', if_pos hc, List.map_append]; rfl
      · refine ⟨s3, ?_⟩
        rw [turns_more hr', if_neg hc, List.append_nil]
        exact hD3
    rintro H3 ⟨s3, hD3⟩
    rw [show ((names rs).map V.str).length = rs.length from by unfold names; rw [List.length_map, List.length_map], List.take_length] at hD3
    refine ⟨D, _, rfl, .inl ⟨SqL.of hD3, fun u hu => ?_⟩⟩
    have s4 := (s2.trans s3).trans (Same.new (o := .tup ((turnsL rs xs).map V.str)) hu)
    have e4 : (upd H3 u (.tup ((turnsL rs xs).map V.str))) u = some (.tup ((turnsL rs xs).map V.str)) := upd_same
    have e4' : (upd H3 u (.tup (((names rs).filter (fun z => decide (z ∈ xs))).map V.str))) = upd H3 u (.tup ((turnsL rs xs).map V.str)) := rfl
    rw [e4']
    have num : u ≠ m := fun e => by rw [e, (s2.trans s3) _ _ bm] at hu; cases hu
    generalize upd H3 u (.tup ((turnsL rs xs).map V.str)) = H4 at s4 e4
    refine ⟨_, rfl, m, CM, dx, _, rfl, s4 _ _ bm, M.cl, M.nu, (Nat.lt_of_le_of_lt (Nat.le_trans (putF_len _ _ _) (Nat.succ_le_succ (putF_len _ _ _))) (by decide)), ?_⟩
    obtain ⟨H5, E5⟩ : ∃ Hx, Hx = upd H4 m (.ins CM dx (putF "turns" (.ref u) (putF "default" (.bl d) (putF "tree" (.ref t) [])))) := ⟨_, rfl⟩
    have m5 : H5 m = some (.ins CM dx (putF "turns" (.ref u) (putF "default" (.bl d) (putF "tree" (.ref t) [])))) := by rw [E5]; exact upd_same
    have sb5 : SB m H H5 := fun b o nb e => by rw [E5, upd_ne nb]; exact s4 _ _ (sb b o nb e)
    have u5 : H5 u = some (.tup ((turnsL rs xs).map V.str)) := by rw [E5, upd_ne num]; exact e4
    rw [← E5]
    clear E5
    refine ⟨_, rfl, _, rfl, _, rfl, m, CM, dx, _, _, rfl, m5, M.cl, M.nu, (by rw [lookup_putF, if_pos rfl]), t, u, d, turnsL rs xs, rs, rfl, ht.sbm hm sb5, u5, fun kd H6 hkd s6 e6 => ?_⟩
    refine ⟨_, rfl, m, CM, dx, _, rfl, s6 _ _ m5, M.cl, M.nk, (Nat.lt_of_le_of_lt (Nat.le_trans (putF_len _ _ _) (Nat.succ_le_succ (Nat.le_trans (putF_len _ _ _) (Nat.succ_le_succ (putF_len _ _ _))))) (by decide)), ?_⟩
    have sb7 : SB m H (upd H6 m (.ins CM dx (mf t u kd d))) := fun b o nb e => by rw [upd_ne nb]; exact s6 _ _ (sb5 b o nb e)
    have nkm : kd ≠ m := fun e => by rw [e, m5] at hkd; cases hkd
    exact hq hn _ sb7 ⟨⟨dx, u, kd, upd_same, by rw [upd_ne num]; exact s6 _ _ u5, by rw [upd_ne nkm]; exact e6⟩, ht.sbm hm sb7, turnsL_norm rs xs⟩
theorem calm_init {f : Addr} {fd : FuncData} {k : Nat} {ps : List Str} (G : FnOk P w K mg base (L2.CX P w) k f fd ps (spMeaningInitX K C CM CL)) : FnOk P w K mg base CX0 k f fd ps (spMeaningInit K C CM) := calm G fun vs H Q E h => by
  obtain ⟨m, dx, t, h', d, xs, rs, rfl, hm, ht, hx, hf, hq⟩ := h
  exact ⟨m, dx, t, h', d, xs, rs, rfl, hm, ht, hx, fun x hx => (hf x hx).mem, (fun z ez => by rw [first_free hf] at ez; cases ez), fun _ => hq⟩
end
end Ts

set_option maxRecDepth 100000
set_option maxHeartbeats 4000000
namespace Ts
open PySem L2
theorem iteT' {b : Bool} {A B : Prop} (e : b = true) (h : A) : if b = true then A else B := by rw [if_pos e]; exact h
/-! ### what a move does to rows and values -/
/-- a move that is let -/
def LetM (rs : List Row) (m : Row) (fo : Str) : Prop := m ∈ rs ∧ (fo = ("top" : Str) ∨ ∃ q ∈ rs, q.nm = fo ∧ q.ki = ("folder" : Str) ∧ under rs m.nm q = false)
theorem LetM.place {rs : List Row} {m : Row} {fo : Str} (h : LetM rs m fo) : fo = ("top" : Str) ∨ fo ∈ names rs := h.2.imp id fun ⟨q, hq, e, _⟩ => List.mem_map.mpr ⟨q, hq, e⟩
theorem nm_ne_top {rs : List Row} (h : Valid rs) {m : Row} (hm : m ∈ rs) : m.nm ≠ ("top" : Str) := fun e => top_not h (by rw [← e]; exact List.mem_map.mpr ⟨m, hm, rfl⟩)
theorem mem_moved {rs : List Row} (h : Valid rs) {m r : Row} (hm : m ∈ rs) (hr : r ∈ rs) (ne : r.nm ≠ m.nm) (fo : Str) : r ∈ movedL rs m fo := by
  unfold movedL
  by_cases u : under rs m.nm r = true
  · rw [under_iff h (nm_ne_top h hm) hr, decide_eq_false ne, Bool.false_or] at u
    exact List.mem_append_right _ (List.mem_cons_of_mem _ (List.mem_filter.mpr ⟨hr, u⟩))
  · exact List.mem_append_left _ (List.mem_filter.mpr ⟨hr, by simpa using u⟩)
theorem moved_self (rs : List Row) (m : Row) (fo : Str) : { m with fo := fo } ∈ movedL rs m fo := List.mem_append_right _ (List.mem_cons_self ..)
theorem rowOf_mem {rs : List Row} (h : Valid rs) {r : Row} (hr : r ∈ rs) : rowOf rs r.nm = some r := by
  obtain ⟨i, hi, e⟩ := List.mem_iff_getElem.mp hr
  exact rowOf_at h (i := i) (by rw [← e]; exact List.getElem?_eq_getElem hi)
theorem locked_moved {rs : List Row} (h : Valid rs) {m : Row} {fo : Str} (hl : LetM rs m fo) {z : Str} (hz : z ∈ names rs) : lockedB (movedL rs m fo) z = lockedB rs z := by
  have v' := moved_valid h hl.1 hl.2
  obtain ⟨r, hr, rfl⟩ := List.mem_map.mp hz
  unfold lockedB
  rw [rowOf_mem h hr]
  by_cases e : r.nm = m.nm
  · have : r = m := names_inj h hr hl.1 e
    subst this
    rw [show r.nm = ({ r with fo := fo } : Row).nm from rfl, rowOf_mem v' (moved_self rs r fo)]
  · rw [rowOf_mem v' (mem_moved h hl.1 hr e fo)]
theorem names_moved {rs : List Row} (h : Valid rs) {m : Row} {fo : Str} (hl : LetM rs m fo) {z : Str} (hz : z ∈ names rs) : z ∈ names (movedL rs m fo) := by
  obtain ⟨r, hr, rfl⟩ := List.mem_map.mp hz
  by_cases e : r.nm = m.nm
  · exact List.mem_map.mpr ⟨_, moved_self rs m fo, e.symm⟩
  · exact List.mem_map.mpr ⟨r, mem_moved h hl.1 hr e fo, rfl⟩
def rules3 : List Str := ["told", "turned", "meant"]
/-- whether the box needs a turn behind the move -/
def needs (rs : List Row) (d : Bool) (ts : List Str) (z fo rule : Str) : Bool :=
  if rule = "meant" then valOf rs d ts z != valOf rs d ts fo else if rule = "told" then decide (z ∈ ts) && (valOf rs d ts z != valOf rs d ts fo) else decide (z ∈ ts)
def turnsB (rs : List Row) (d : Bool) (ts : List Str) (z fo rule : Str) : List Str := (ts.filter fun x => decide (x ≠ z)) ++ (if needs rs d ts z fo rule = true then [z] else [])
theorem turnsB_ne {rs : List Row} {d : Bool} {ts : List Str} {z fo rule x : Str} (h : x ≠ z) : x ∈ turnsB rs d ts z fo rule ↔ x ∈ ts := by
  unfold turnsB
  rw [List.mem_append, List.mem_filter]
  constructor
  · rintro (⟨a, _⟩ | a)
    · exact a
    · split at a
      · exact absurd (List.mem_singleton.mp a) h
      · cases a
  · intro a
    exact .inl ⟨a, decide_eq_true h⟩
theorem turnsB_self {rs : List Row} {d : Bool} {ts : List Str} {z fo rule : Str} : decide (z ∈ turnsB rs d ts z fo rule) = needs rs d ts z fo rule := by
  unfold turnsB
  cases e : needs rs d ts z fo rule with
  | true => exact decide_eq_true (List.mem_append_right _ (by rw [if_pos rfl]; exact List.mem_singleton.mpr rfl))
  | false =>
    refine decide_eq_false fun h => ?_
    rw [if_neg Bool.false_ne_true, List.append_nil] at h
    exact of_decide_eq_true (List.mem_filter.mp h).2 rfl
theorem turnsB_names {rs : List Row} {d : Bool} {ts : List Str} {m : Row} {fo rule : Str} (hm : m ∈ rs) (ht : ∀ z ∈ ts, z ∈ names rs) : ∀ x ∈ turnsB rs d ts m.nm fo rule, x ∈ names rs := by
  intro x hx
  by_cases e : x = m.nm
  · rw [e]; exact List.mem_map.mpr ⟨m, hm, rfl⟩
  · exact ht x ((turnsB_ne e).mp hx)
theorem first_moved {rs : List Row} (h : Valid rs) {m : Row} {fo rule : Str} {d : Bool} {ts : List Str} (hl : LetM rs m fo) (hf : ∀ z ∈ ts, Free rs z) :
    firstLk (movedL rs m fo) (turnsB rs d ts m.nm fo rule) = if (needs rs d ts m.nm fo rule && decide (m.pr = none)) = true then some m.nm else none := by
  have hA : firstLk (movedL rs m fo) (ts.filter fun x => decide (x ≠ m.nm)) = none := List.find?_eq_none.mpr fun x hx => by
    have fx := hf x (List.mem_filter.mp hx).1
    rw [locked_moved h hl fx.mem, free_lk fx]
    exact Bool.false_ne_true
  unfold firstLk at hA ⊢
  unfold turnsB
  rw [List.find?_append, hA, Option.none_or]
  cases needs rs d ts m.nm fo rule with
  | false => rw [Bool.false_and]; rfl
  | true =>
    rw [Bool.true_and, if_pos rfl, List.find?_cons, List.find?_nil, locked_moved h hl (List.mem_map.mpr ⟨m, hl.1, rfl⟩)]
    have : lockedB rs m.nm = decide (m.pr = none) := by unfold lockedB; rw [rowOf_mem h hl.1]
    rw [this]
    cases decide (m.pr = none) <;> rfl
/-- outside the box all values are as before -/
theorem val_out {rs : List Row} (h : Valid rs) {m : Row} {fo rule : Str} {d : Bool} {ts : List Str} (hl : LetM rs m fo) : ∀ (i : Nat) (r : Row), rs[i]? = some r → under rs m.nm r = false → valOf (movedL rs m fo) d (turnsB rs d ts m.nm fo rule) r.nm = valOf rs d ts r.nm := by
  have v' := moved_valid h hl.1 hl.2
  intro i
  induction i using Nat.strongRecOn with
  | _ i ih =>
    intro r hr hu
    have hrm := List.mem_of_getElem? hr
    have ne : r.nm ≠ m.nm := fun e => by rw [under_self h hrm e] at hu; cases hu
    have hr' := mem_moved h hl.1 hrm ne fo
    have fov : valOf (movedL rs m fo) d (turnsB rs d ts m.nm fo rule) r.fo = valOf rs d ts r.fo := by
      rcases h.fo hr with e | e
      · rw [e, val_top v', val_top h]
      · obtain ⟨q, hq, eq⟩ := List.mem_map.mp e
        obtain ⟨j, hj, ej⟩ := List.mem_take_iff_getElem.mp hq
        have hjq : rs[j]? = some q := by rw [← ej]; exact List.getElem?_eq_getElem _
        have uq : under rs m.nm q = false := by
          cases u : under rs m.nm q with
          | false => rfl
          | true => rw [under_up h hrm (List.mem_of_getElem? hjq) eq u] at hu; cases hu
        rw [← eq]
        exact ih j (by omega) q hjq uq
    rw [val_step v' _ _ hr', val_step h _ _ hrm, fov]
    congr 1
    exact decide_eq_decide.mpr (turnsB_ne ne)
theorem val_outZ {rs : List Row} (h : Valid rs) {m : Row} {fo rule : Str} {d : Bool} {ts : List Str} (hl : LetM rs m fo) {z : Str} (hz : z ∈ plc rs) (ho : z ∉ beneathL rs m.nm) : valOf (movedL rs m fo) d (turnsB rs d ts m.nm fo rule) z = valOf rs d ts z := by
  rcases mem_plc.mp hz with rfl | hz
  · rw [val_top (moved_valid h hl.1 hl.2), val_top h]
  · obtain ⟨r, hr, rfl⟩ := List.mem_map.mp hz
    obtain ⟨i, hi, e⟩ := List.mem_iff_getElem.mp hr
    refine val_out h hl i r (by rw [← e]; exact List.getElem?_eq_getElem hi) ?_
    rw [← in_beneath h hr]
    exact decide_eq_false ho
/-- the folder lies outside -/
theorem val_fo {rs : List Row} (h : Valid rs) {m : Row} {fo rule : Str} {d : Bool} {ts : List Str} (hl : LetM rs m fo) : valOf (movedL rs m fo) d (turnsB rs d ts m.nm fo rule) fo = valOf rs d ts fo := by
  rcases hl.2 with e | ⟨q, hq, e, _, hu⟩
  · rw [e, val_top (by rw [← e]; exact moved_valid h hl.1 hl.2), val_top h]
  · refine val_outZ h hl (mem_plc.mpr (.inr (List.mem_map.mpr ⟨q, hq, e⟩))) ?_
    rw [← e]
    have := in_beneath h hq (z := m.nm)
    rw [hu] at this
    exact of_decide_eq_false this
theorem val_box {rs : List Row} (h : Valid rs) {m : Row} {fo rule : Str} {d : Bool} {ts : List Str} (hl : LetM rs m fo) : valOf (movedL rs m fo) d (turnsB rs d ts m.nm fo rule) m.nm = (valOf rs d ts fo != needs rs d ts m.nm fo rule) := by
  have := val_step (moved_valid h hl.1 hl.2) d (turnsB rs d ts m.nm fo rule) (moved_self rs m fo)
  rw [show ({ m with fo := fo } : Row).nm = m.nm from rfl, show ({ m with fo := fo } : Row).fo = fo from rfl, val_fo h hl, turnsB_self] at this
  exact this
theorem val_meant {rs : List Row} (h : Valid rs) {m : Row} {fo : Str} {d : Bool} {ts : List Str} (hl : LetM rs m fo) : valOf (movedL rs m fo) d (turnsB rs d ts m.nm fo "meant") m.nm = valOf rs d ts m.nm := by
  rw [val_box h hl]
  unfold needs
  rw [if_pos rfl]
  cases valOf rs d ts m.nm <;> cases valOf rs d ts fo <;> rfl
/-- within the box all values are as before, or none is -/
theorem val_in {rs : List Row} (h : Valid rs) {m : Row} {fo rule : Str} {d : Bool} {ts : List Str} (hl : LetM rs m fo) : ∀ (i : Nat) (r : Row), rs[i]? = some r → under rs m.nm r = true →
    (valOf rs d ts r.nm == valOf (movedL rs m fo) d (turnsB rs d ts m.nm fo rule) r.nm) = (valOf rs d ts m.nm == valOf (movedL rs m fo) d (turnsB rs d ts m.nm fo rule) m.nm) := by
  have v' := moved_valid h hl.1 hl.2
  intro i
  induction i using Nat.strongRecOn with
  | _ i ih =>
    intro r hr hu
    have hrm := List.mem_of_getElem? hr
    by_cases ne : r.nm = m.nm
    · rw [ne]
    · have hr' := mem_moved h hl.1 hrm ne fo
      have hw : m.nm ∈ wayOf rs r.fo := by
        have u2 : m.nm ∈ wayOf rs r.nm := of_decide_eq_true hu
        rw [way_step h hrm] at u2
        rcases List.mem_append.mp u2 with u2 | u2
        · exact u2
        · exact absurd (List.mem_singleton.mp u2).symm ne
      have e : r.fo ∈ names (rs.take i) := by
        rcases h.fo hr with e | e
        · rw [e, way_top h] at hw; cases hw
        · exact e
      obtain ⟨q, hq, eq⟩ := List.mem_map.mp e
      obtain ⟨j, hj, ej⟩ := List.mem_take_iff_getElem.mp hq
      have hjq : rs[j]? = some q := by rw [← ej]; exact List.getElem?_eq_getElem _
      have uq : under rs m.nm q = true := decide_eq_true (by rw [eq]; exact hw)
      have iq := ih j (by omega) q hjq uq
      rw [eq] at iq
      rw [val_step v' _ _ hr', val_step h _ _ hrm, ← iq, show decide (r.nm ∈ turnsB rs d ts m.nm fo rule) = decide (r.nm ∈ ts) from decide_eq_decide.mpr (turnsB_ne ne)]
      generalize valOf rs d ts r.fo = a
      generalize valOf (movedL rs m fo) d (turnsB rs d ts m.nm fo rule) r.fo = b
      generalize decide (r.nm ∈ ts) = c
      cases a <;> cases b <;> cases c <;> rfl
theorem val_inZ {rs : List Row} (h : Valid rs) {m : Row} {fo rule : Str} {d : Bool} {ts : List Str} (hl : LetM rs m fo) {z : Str} (hz : z ∈ beneathL rs m.nm) :
    (valOf rs d ts z == valOf (movedL rs m fo) d (turnsB rs d ts m.nm fo rule) z) = (valOf rs d ts m.nm == valOf (movedL rs m fo) d (turnsB rs d ts m.nm fo rule) m.nm) := by
  obtain ⟨r, hr, rfl⟩ := List.mem_map.mp hz
  obtain ⟨hr, hu⟩ := List.mem_filter.mp hr
  obtain ⟨i, hi, e⟩ := List.mem_iff_getElem.mp hr
  exact val_in h hl i r (by rw [← e]; exact List.getElem?_eq_getElem hi) hu
end Ts

set_option maxRecDepth 100000
set_option maxHeartbeats 4000000
namespace Ts
open PySem L2
structure TxV (K : PySem.W.Frag) (mg : Str → Option Value) where
  told : ∃ t, mg "TOLD" = some (.str "told" t)
  meant : ∃ t, mg "MEANT" = some (.str "meant" t)
  rulesA : Addr
  rules : mg "RULES" = some (.ref rulesA)
  rulesT : ∃ (o : Obj) (its : Array Value) (n : Nat), K.lookup rulesA = some o ∧ o.cls = .type "tuple" ∧ o.data = .seq its n ∧ its.size ≤ sizeLine ∧ Vals (rules3.map V.str) its.toList
def spRule : Sp := fun vs H Q _ => ∃ r : Str, vs = [.str r] ∧ r ∈ rules3 ∧ Q .non H
def spBehindT (C CM : Addr) : Sp := fun vs H Q _ => ∃ (m t : Addr) (z fo rule : Str) (rs : List Row) (d : Bool) (ts : List Str), vs = [.ref m, .str z, .str fo, .str rule] ∧ MeanAt C CM H m t rs d ts ∧ (z = ("top" : Str) ∨ z ∈ names rs) ∧ (fo = ("top" : Str) ∨ fo ∈ names rs) ∧ rule ∈ rules3 ∧
  Q (.bl (needs rs d ts z fo rule)) H
def spMovedM (C CM CL : Addr) : Sp := fun vs H Q E => ∃ (m t : Addr) (b : Row) (fo rule : Str) (rs : List Row) (d : Bool) (ts : List Str), vs = [.ref m, .str b.nm, .str fo, .str rule] ∧ MeanAt C CM H m t rs d ts ∧ (∀ z ∈ ts, Free rs z) ∧ LetM rs b fo ∧ rule ∈ rules3 ∧
  ((needs rs d ts b.nm fo rule && decide (b.pr = none)) = true → ∀ e H', H e = none → Same H H' → H' e = some (.xd [("box", .str b.nm)]) → E (.ref CL) (some e) H') ∧
  ((needs rs d ts b.nm fo rule && decide (b.pr = none)) = false → ∀ m' t' H', H m' = none → Same H H' → MeanAt C CM H' m' t' (movedL rs b fo) d (turnsL (movedL rs b fo) (turnsB rs d ts b.nm fo rule)) → Q (.ref m') H')
section
variable {P : Program} {w : World} {K : PySem.W.Frag} {mg : Str → Option Value} {base : Heap} {C CM CL : Addr}
theorem sc_rule : FnScope ["thing"] ["thing"] (defScope s_check_rule) := ⟨rfl, rfl, rfl, by decide +kernel, rfl, by decide +kernel, by decide +kernel⟩
theorem ok_rule (D : DefAt K mg "check_rule" s_check_rule ["thing"]) (TV : TxV K mg) : FnOk P w K mg base CX0 2 D.f D.fd ["thing"] spRule := by
  refine D.F.ok sc_rule (fun vs H Q E h => ?_) (fun cdv A outer s H vs Q E hr h => ?_)
  · obtain ⟨r, rfl, _⟩ := h
    rfl
  · obtain ⟨r, rfl, hr', hq⟩ := h
    refine ⟨_, pss_one (ps_if (pt_cmpR op_notIn_seq (pv 0) (pe_glob (by rfl) TV.rules (v := .ref TV.rulesA) rfl) (by rfl)) (pss_one ps_never) pss_nil), ?_⟩
    refine ⟨_, rfl, TV.rulesA, _, rfl, .inr (.inr TV.rulesT), rfl, flat_strs _, _, rfl, ?_⟩
    have e : (if true = true then !inV (.str r) (rules3.map V.str) else inV (.str r) (rules3.map V.str)) = false := by
      rw [if_pos rfl, inV_strs, decide_eq_true hr']; rfl
    rw [e]
    exact iteF hq
abbrev nBehindT : List Str := ["meaning", "box", "folder", "rule", "turned"]
theorem sc_behindT : FnScope nBehindT ["meaning", "box", "folder", "rule"] (defScope s_turns_behind) := ⟨rfl, rfl, rfl, by decide +kernel, rfl, by decide +kernel, by decide +kernel⟩
theorem ok_behindT (D : DefAt K mg "turns_behind" s_turns_behind ["meaning", "box", "folder", "rule"]) (TV : TxV K mg) (M : TxM K mg CM) (mV : MethAt K CM "value" "Meaning.value" s_Meaning_value ["self", "box"]) (GV : FnOk P w K mg base CX0 5 mV.f mV.fd ["self", "box"] (spMValue C CM)) :
    FnOk P w K mg base CX0 6 D.f D.fd ["meaning", "box", "folder", "rule"] (spBehindT C CM) := by
  obtain ⟨t1, gT⟩ := TV.told
  obtain ⟨t2, gM⟩ := TV.meant
  refine D.F.ok sc_behindT (fun vs H Q E h => ?_) (fun cdv A outer s H vs Q E hr h => ?_)
  · obtain ⟨m, t, z, fo, rule, rs, d, ts, rfl, _⟩ := h
    rfl
  · obtain ⟨m, t, z, fo, rule, rs, d, ts, rfl, hm, hz, hf, hru, hq⟩ := h
    obtain ⟨dx, u, k, h1, h2, h3⟩ := id hm.ex
    have noV : (mf t u k d).lookup ("value" : Str) = none := mf_no _ _ _ _ (by decide +kernel) (by decide +kernel) (by decide +kernel) (by decide +kernel)
    refine ⟨_, pss_cons (ps_set (i := 4) sc_behindT.nd rfl (.inl rfl) (pe_cmpR op_in_seq (pv 1) (pe_fld (pv 0) rfl) (by rfl)))
      (pss_cons (ps_if (PW.pt (pw_or (pt_cmpR op_eq (pv 3) (pe_glob (by rfl) gM (v := .str ("meant" : Str)) ⟨_, rfl⟩) (nomark _)) (pw_or1 (PW.pt (pw_and (pt_cmpR op_eq (pv 3) (pe_glob (by rfl) gT (v := .str ("told" : Str)) ⟨_, rfl⟩) (nomark _)) (pw_and1 (pt_val (pv 4))))))))
        (pss_one (ps_ret (pe_cmpR op_ne (pe_meth (pv 0) M.cl mV.m GV hr mV.b .nil pass0 (pa_cons (pv 1) pa_nil)) (pe_meth (pv 0) M.cl mV.m GV hr mV.b .nil pass0 (pa_cons (pv 2) pa_nil)) (nomark _)))) pss_nil)
      (pss_one (ps_ret (pv 4)))), ?_⟩
    refine ⟨_, rfl, _, rfl, m, CM, dx, _, _, rfl, h1, M.cl, M.nu, mf_u _ _ _ _, u, _, rfl, .inr (sqT h2), rfl, flat_strs _, ?_⟩
    have e : (if false = true then !inV (.str z) (ts.map V.str) else inV (.str z) (ts.map V.str)) = decide (z ∈ ts) := by
      rw [if_neg Bool.false_ne_true, inV_strs]
    rw [e]
    have bl : ∀ a b : Bool, (!decide (V.bl a = V.bl b)) = (a != b) := by intro a b; cases a <;> cases b <;> rfl
    simp only [rules3, List.mem_cons, List.not_mem_nil, or_false] at hru
    unfold needs at hq
    rcases hru with rfl | rfl | rfl
    · rw [if_neg (by decide +kernel), if_pos rfl] at hq
      refine ⟨_, rfl, rfl, _, rfl, iteF' (by decide +kernel) ⟨_, rfl, rfl, _, rfl, iteT' (by decide +kernel) ⟨_, rfl, ?_⟩⟩⟩
      cases hzt : decide (z ∈ ts) with
      | true =>
        rw [hzt, Bool.true_and] at hq
        refine ⟨_, rfl, iteT ⟨_, rfl, m, dx, _, rfl, h1, noV, _, rfl, m, t, z, rs, d, ts, rfl, hm, hz, _, rfl, m, dx, _, rfl, h1, noV, _, rfl, m, t, fo, rs, d, ts, rfl, hm, hf, rfl, ?_⟩⟩
        rw [bl]
        exact hq
      | false =>
        rw [hzt, Bool.false_and] at hq
        exact ⟨_, rfl, iteF ⟨_, rfl, hq⟩⟩
    · rw [if_neg (by decide +kernel), if_neg (by decide +kernel)] at hq
      exact ⟨_, rfl, rfl, _, rfl, iteF' (by decide +kernel) ⟨_, rfl, rfl, _, rfl, iteF' (by decide +kernel) (iteF ⟨_, rfl, hq⟩)⟩⟩
    · rw [if_pos rfl] at hq
      refine ⟨_, rfl, rfl, _, rfl, iteT' (by decide +kernel) (iteT ⟨_, rfl, m, dx, _, rfl, h1, noV, _, rfl, m, t, z, rs, d, ts, rfl, hm, hz, _, rfl, m, dx, _, rfl, h1, noV, _, rfl, m, t, fo, rs, d, ts, rfl, hm, hf, rfl, ?_⟩)⟩
      rw [bl]
      exact hq
abbrev nMovedM : List Str := ["meaning", "box", "folder", "rule", "tree", "turns", "turn"]
theorem sc_movedM : FnScope nMovedM ["meaning", "box", "folder", "rule"] (defScope s_moved) := ⟨rfl, rfl, rfl, by decide +kernel, rfl, by decide +kernel, by decide +kernel⟩
theorem ok_movedM {fM : Addr} {fdM : FuncData} (D : DefAt K mg "moved" s_moved ["meaning", "box", "folder", "rule"]) (T : TxT K mg C) (M : TxM K mg CM)
    (mM : MethAt K C "moved" "Tree.moved" s_Tree_moved ["self", "box", "folder"]) (GMv : FnOk P w K mg base CX0 7 mM.f mM.fd ["self", "box", "folder"] (spMoved C))
    (Dr : DefAt K mg "check_rule" s_check_rule ["thing"]) (Gr : FnOk P w K mg base CX0 2 Dr.f Dr.fd ["thing"] spRule)
    (Db : DefAt K mg "turns_behind" s_turns_behind ["meaning", "box", "folder", "rule"]) (Gb : FnOk P w K mg base CX0 6 Db.f Db.fd ["meaning", "box", "folder", "rule"] (spBehindT C CM))
    (MM : Mk K CM fM) (bM : Binds K fdM ["self", "tree", "default", "turns"] []) (GM : FnOk P w K mg base (L2.CX P w) 7 fM fdM ["self", "tree", "default", "turns"] (spMeaningInitX K C CM CL)) :
    FnOk P w K mg base (L2.CX P w) 9 D.f D.fd ["meaning", "box", "folder", "rule"] (spMovedM C CM CL) := by
  refine D.F.okX sc_movedM (fun vs H Q E h => ?_) (fun cdv A outer s H vs Q E hr h => ?_)
  · obtain ⟨m, t, b, fo, rule, rs, d, ts, rfl, _⟩ := h
    rfl
  · have r2 : Room 2 _ := hr.mono (by decide)
    have r6 : Room 6 _ := hr.mono (by decide)
    have r7 : Room 7 _ := hr.mono (by decide)
    refine ⟨_, pss_cons (ps_set (i := 4) sc_movedM.nd rfl (.inl rfl) (pe_meth (pe_fld (pv 0) rfl) T.cl mM.m GMv r7 mM.b .nil pass0 (pa_cons (pv 1) (pa_cons (pv 2) pa_nil))))
      (pss_cons (ps_expr (pe_call Gr r2 rfl Dr.g Dr.F.kp Dr.b .nil pass0 (pa_cons (pv 3) pa_nil)))
      (pss_cons (ps_setLc (i := 5) (own := [("turn", 6)]) (g := gName 6) (tt := tTest (tOp rNe (tVar 6) (tVar 1))) (te := tVar 6) rfl sc_movedM.nd rfl rfl (sw_true rfl rfl rfl (by decide +kernel)) (pi_tup (pe_fld (pv 0) rfl)) (blkOk_by (N := nMovedM) (sc := defScope s_moved) (by decide +kernel))
          (fun _ _ _ _ _ => pg_name (i := 6) sc_movedM.nd rfl (Or.inl rfl)) (fun _ _ _ _ _ => by exact pts_one (pt_cmpR op_ne (pv 6) (pv 1) (nomark _))) (fun _ _ _ _ _ => pv 6))
      (C8.pss_cut (ps_if (pt_val (pe_call Gb r6 rfl Db.g Db.F.kp Db.b .nil pass0 (pa_cons (pv 0) (pa_cons (pv 1) (pa_cons (pv 2) (pa_cons (pv 3) pa_nil)))))) (pss_one (ps_expr (pe_bm PySem.F.plainAttrs_list PySem.F.slot_list_append PySem.F.type_list_append mt_append (pv 5) (pa_cons (pv 1) pa_nil)))) pss_nil)
      (pss_one (ps_ret (pe_make MM GM hr rfl M.g bM .nil (passes_call (takes_of rfl rfl rfl rfl) (fun _ _ _ _ h => h)) (pa_cons (pv 4) (pa_cons (pe_fld (pv 0) rfl) (pa_cons (pv 5) pa_nil))))))))), ?_⟩
    obtain ⟨m, t, b, fo, rule, rs, d, ts, rfl, hm, hfree, hl, hru, hE, hq⟩ := h
    obtain ⟨dx, u, k, h1, h2, h3⟩ := id hm.ex
    obtain ⟨tdx, q, f, tk, p, qs, g1, _⟩ := id hm.tree.ex
    have hv := hm.tree.val
    have l100 := hm.len
    have noM : (tf q f tk p).lookup ("moved" : Str) = none := tf_no _ _ _ _ (by decide +kernel) (by decide +kernel) (by decide +kernel) (by decide +kernel)
    refine ⟨_, rfl, m, CM, dx, _, _, rfl, h1, M.cl, M.nt, mf_t _ _ _ _, t, tdx, _, rfl, g1, noM, _, rfl, _, rfl, t, b, fo, rs, rfl, hm.tree, hl.1, hl.2, fun t' H1 s1 ht1 => ?_⟩
    refine ⟨_, rfl, rule, rfl, hru, ?_⟩
    refine ⟨_, rfl, m, CM, dx, _, _, rfl, s1 _ _ h1, M.cl, M.nu, mf_u _ _ _ _, u, rfl, ⟨_, sqT (s1 _ _ h2)⟩, fun D2 hD2 => ?_⟩
    have lf : ∀ i, ((ts.take i).filter fun z => decide (z ≠ b.nm)).length ≤ 100 := fun i => by
      have := List.length_filter_le (fun z => decide (z ≠ b.nm)) (ts.take i)
      rw [List.length_take] at this
      omega
    refine lc_tup (K := K) (a := u) (xs := ts.map V.str) (fun i H' => Same H1 H' ∧ H' D2 = some (.lst (((ts.take i).filter fun z => decide (z ≠ b.nm)).map V.str))) ⟨Same.new hD2, upd_same⟩ (fun i H' _ m => sqT ((s1.trans m.1) _ _ h2)) ?_ ?_
    · rintro i x H3 hx ⟨s3, e3⟩
      rw [List.getElem?_map] at hx
      obtain ⟨z, hz, rfl⟩ := Option.map_eq_some_iff.mp hx
      refine ⟨rfl, _, rfl, _, rfl, rfl, _, rfl, ?_⟩
      have e0 : (!decide (V.str z = V.str b.nm)) = decide (z ≠ b.nm) := by
        by_cases q : z = b.nm
        · rw [q]; simp
        · have : V.str z ≠ V.str b.nm := fun e => q (V.str.inj e)
          simp [q, this]
      rw [e0]
      refine ite2 (fun hc => ?_) (fun hc => ?_)
      · refine ⟨_, rfl, _, e3, small1000 (by rw [List.length_map]; have := lf i; omega), fun b' o eb => ?_, ?_⟩
        · rw [upd_ne (fun y => by rw [y, hD2] at eb; cases eb)]
          exact s3 _ _ eb
        · rw [upd_same, take_more hz, List.filter_append, List.filter_cons_of_pos (p := fun z => decide (z ≠ b.nm)) hc, List.map_append]; rfl
      · refine ⟨s3, ?_⟩
        rw [take_more hz, List.filter_append, List.filter_cons_of_neg (p := fun z => decide (z ≠ b.nm)) hc, List.filter_nil, List.append_nil]
        exact e3
    rintro H3 ⟨s3, e3⟩
    rw [List.length_map, List.take_length] at e3
    have l3 : (ts.filter fun z => decide (z ≠ b.nm)).length ≤ 100 := by have := lf ts.length; rw [List.take_length] at this; exact this
    have hm3 := hm.same (s1.trans s3)
    have ht3 := ht1.same s3
    have nD : H D2 = none := s1.free hD2
    have bz : b.nm = ("top" : Str) ∨ b.nm ∈ names rs := .inr (List.mem_map.mpr ⟨b, hl.1, rfl⟩)
    refine ⟨fun σ' H' => σ' = [some (.ref m), some (.str b.nm), some (.str fo), some (.str rule), some (.ref t'), some (.ref D2), none] ∧ SB D2 H3 H' ∧ H' D2 = some (.lst ((turnsB rs d ts b.nm fo rule).map V.str)), ?_, ?_⟩
    · refine ⟨_, rfl, _, rfl, _, rfl, _, rfl, m, t, b.nm, fo, rule, rs, d, ts, rfl, hm3, bz, hl.place, hru, ?_⟩
      cases hn : needs rs d ts b.nm fo rule with
      | true =>
        refine ⟨_, rfl, iteT ⟨_, rfl, .inl ⟨rfl, _, SqL.of e3⟩, _, rfl, D2, _, _, rfl, rfl, e3, small1000 (by rw [List.length_map]; omega), rfl, fun b' o nb e => by rw [upd_ne nb]; exact e, ?_⟩⟩
        rw [upd_same]
        unfold turnsB
        rw [hn, if_pos rfl, List.map_append]; rfl
      | false =>
        refine ⟨_, rfl, iteF ⟨rfl, fun b' o nb e => e, ?_⟩⟩
        unfold turnsB
        rw [hn, if_neg Bool.false_ne_true, List.append_nil]
        exact e3
    rintro σ' H4 ⟨rfl, sb4, e4⟩
    have sH : Same H H4 := fun b' o e => sb4 b' o (ne_of_none e nD) ((s1.trans s3) b' o e)
    have kl : KL H3 H4 := fun b' o e no => sb4 b' o (fun y => by rw [y, e3] at e; exact no _ (Option.some.inj e).symm) e
    have ht4 := ht3.kl kl
    have hn4 : ∀ x ∈ turnsB rs d ts b.nm fo rule, x ∈ names (movedL rs b fo) := fun x hx => names_moved hv hl (turnsB_names hl.1 (fun z hz => (hfree z hz).mem) x hx)
    have ff := first_moved (rule := rule) (d := d) hv hl hfree
    refine ⟨_, rfl, _, rfl, m, CM, dx, _, _, rfl, sH _ _ h1, M.cl, M.nd, mf_d _ _ _ _, _, rfl, fun m' dm nm nd _ => ⟨m', dm, t', D2, d, _, movedL rs b fo, rfl, upd_same, ht4.same (mk_same0 nm nd), SqX.same (.inl (SqL.of e4)) (mk_same0 nm nd), hn4, fun z ez e H5 he s5 ex => ?_, fun en H5 sb5 hmA => ⟨rfl, ?_⟩⟩⟩
    · rw [ff] at ez
      split at ez
      · rename_i hc
        cases ez
        exact hE hc e H5 ((sH.trans (mk_same0 nm nd)).free he) ((sH.trans (mk_same0 nm nd)).trans s5) ex
      · cases ez
    · rw [ff] at en
      split at en
      · cases en
      · rename_i hc
        exact hq (by simpa using hc) m' t' H5 (sH.free nm) (sH.trans (mk_same nm nd sb5)) hmA
end
end Ts

set_option maxRecDepth 100000
set_option maxHeartbeats 4000000
namespace Ts
open PySem L2
def spLMeaningF (C CM : Addr) : Sp := fun vs H Q _ => ∃ (a p t : Addr) (n : Int) (rs : List Row), vs = [.ref a, .ref p, .ref t] ∧ Stm H a n ∧ n ≤ 500000000 ∧ RowsL H p rs ∧ p ≠ a ∧ TreeAt C H t rs ∧ ∀ m d ts H', MeanAt C CM H' m t rs d ts → (∀ z ∈ ts, Free rs z) → SB a H H' → Stm H' a (n + 200) → Q (.ref m) H'
section
variable {P : Program} {w : World} {K : PySem.W.Frag} {mg : Str → Option Value} {base : Heap} {C CM : Addr}
theorem ok_mngF {fM : Addr} {fdM : FuncData} (D : DefAt K mg "_law_meaning" s_L_meaning pMng) (M : TxM K mg CM) (Dd : DefAt K mg "_law_draw" s_L_draw ["_law_stream_here", "_law_many"]) (Gd : FnOk P w K mg base CX0 2 Dd.f Dd.fd ["_law_stream_here", "_law_many"] spDraw)
    (Do : DefAt K mg "_law_open" s_L_open ["_law_rows_here"]) (Go : FnOk P w K mg base CX0 2 Do.f Do.fd ["_law_rows_here"] spLOpen)
    (Dso : DefAt K mg "_law_some" s_L_some ["_law_stream_here", "_law_things"]) (Gso : FnOk P w K mg base CX0 3 Dso.f Dso.fd ["_law_stream_here", "_law_things"] spLSome)
    (MM : Mk K CM fM) (bM : Binds K fdM ["self", "tree", "default", "turns"] []) (GM : FnOk P w K mg base CX0 7 fM fdM ["self", "tree", "default", "turns"] (spMeaningInit K C CM)) :
    FnOk P w K mg base CX0 9 D.f D.fd pMng (spLMeaningF C CM) := by
  refine D.F.ok sc_mng (fun vs H Q E h => ?_) (fun cdv A outer s H vs Q E hr h => ?_)
  · obtain ⟨a, p, t, n, rs, rfl, _⟩ := h
    rfl
  · obtain ⟨a, p, t, n, rs, rfl, hst, hn, hL, np, ht, hq⟩ := h
    have hr2 : Room 3 _ := hr.mono (by decide)
    have hr1 : Room 2 _ := hr.mono (by decide)
    have hv := ht.val
    have hl := ht.len
    refine ⟨_, pss_one (ps_ret (pe_make MM GM hr rfl M.g bM .nil pass0 (pa_cons (pv 2) (pa_cons (pe_cmpR op_eq (pe_call Gd hr1 rfl Dd.g Dd.F.kp Dd.b .nil pass0 (pa_cons (pv 0) (pa_cons pe_int pa_nil))) pe_int (nomark _)) (pa_cons (pe_call Gso hr2 rfl Dso.g Dso.F.kp Dso.b .nil pass0 (pa_cons (pv 0) (pa_cons (pe_call Go hr1 rfl Do.g Do.F.kp Do.b .nil pass0 (pa_cons (pv 1) pa_nil)) pa_nil))) pa_nil))))), ?_⟩
    refine ⟨_, rfl, _, rfl, a, 2, n, rfl, hst, by omega, by decide, by decide, fun r H1 r0 r1 st1 he1 => ⟨rfl, ?_⟩⟩
    have sb1 := sb_eq (H := H) he1
    have L1 := hL.sbk np hst sb1
    have t1 := ht.kl (KL.sb hst sb1)
    refine ⟨_, rfl, _, rfl, p, rs, rfl, L1, hl, fun D2 H2 hD2 s2 e2 => ?_⟩
    have lo := openN_len hl
    refine ⟨a, D2, _, _, rfl, st1.same s2, by omega, (st1.ne hD2).symm, e2, lo, fun u H3 ts hu3 nu eu hsub sb3 st3 => ?_⟩
    have t3 := (t1.same s2).kl (KL.sb (st1.same s2) sb3)
    have fr : ∀ z ∈ ts, Free rs z := fun z hz => openN_free hv z (hsub.subset hz)
    have hnorm : turnsL rs ts = ts := turnsL_sub hv (hsub.trans (List.Sublist.map _ List.filter_sublist))
    refine fun m dm nm nd _ => ⟨m, dm, t, u, _, ts, rs, rfl, upd_same, t3.same (mk_same0 nm nd), SqX.same (.inl (SqL.of eu)) (mk_same0 nm nd), fr, fun H4 sb4 hm => ⟨rfl, ?_⟩⟩
    rw [hnorm] at hm
    have s4 := mk_same nm nd sb4
    refine hq m _ ts H4 hm fr ((sb1.trans (SB.of s2)).trans (sb3.trans (SB.of s4))) ((st3.same s4).mono ?_)
    have e : ((rs.filter fun r => decide (r.pr ≠ none)).map (·.nm)).length ≤ 100 := lo
    omega
end
end Ts

set_option maxRecDepth 100000
set_option maxHeartbeats 4000000
namespace L2
open PySem PySem.Spec PyProof.Rows
/-! ### == of any thing and a text; != of lists of lists of one and the same thing; list.count of texts -/
theorem dict_eq_no_str (l : Addr) (o : Obj) (b : Str) (u : Tok) :
    Meets (Builtin.«dict.__eq__» ⟨[.ref l, .str b u], []⟩) (fun _ R s => s.heap.get? l = some o ∧ o.cls = .type "dict" ∧ R (.ok (.ret .notImplemented)) s) :=
  .of_wp fun prog w A R s h => by
    obtain ⟨hp, g, d, tk, os⟩ := s
    obtain ⟨hl, hc, h⟩ := h
    have f1 := F.sub_str_dict
    wp_walk
    exact ⟨_, rfl, h⟩
theorem str_eq_no_dict (b : Str) (u : Tok) (l : Addr) (c : Value) (es : Array DictEntry) (ep : Nat) (dd : Option Addr) (sl : Array (Option Value)) :
    Meets (Builtin.«str.__eq__» ⟨[.str b u, .ref l], []⟩) (fun _ R s => s.heap.get? l = some { cls := c, dict := dd, data := .dict es ep, slots := sl } ∧ R (.ok (.ret .notImplemented)) s) :=
  .of_wp fun prog w A R s h => by
    obtain ⟨hp, g, d, tk, os⟩ := s
    obtain ⟨hl, h⟩ := h
    wp_walk using wpAny_load hl
    exact ⟨_, rfl, h⟩
theorem rc_dict_str {A : Around} {s : Shared} {l : Addr} {es : Array DictEntry} {ep : Nat} {dd : Option Addr} {sl : Array (Option Value)} (b : Str) (u : Tok) (ho : s.heap.get? l = some { cls := .type "dict", dict := dd, data := .dict es ep, slots := sl }) (hu : A.units < cLine) : SeqAt.RcAt A s (.ref l) (.str b u) false := fun prog w E Q h =>
  SeqAt.rc_eq_decline_or (k := false) ⟨_, ho, rfl⟩ (typeIs_str s b u) (by decide) F.sub_str_dict F.slot_dict_eq F.slot_str_eq_refl
    (fun _ hq => call_meets F.slot_dict_eq ⟨_, ho, rfl⟩ F.entry_dict_eq (F.args_dict_eq_2 _ _) (dict_eq_no_str l _ b u) ⟨ho, rfl, hq⟩)
    (fun _ hq => call_meets F.slot_str_eq_refl (typeIs_str s b u) F.entry_str_eq (F.args_str_eq_2 _ _) (str_eq_no_dict b u l (.type "dict") es ep dd sl) ⟨ho, hq⟩)
    (fun _ hq => wpAny_of_eq (rfl : isSame (.ref l) (.str b u) = pure false) hq) (.inr hu) h
/-- a thing that is no text -/
def OddV (K : PySem.W.Frag) (H : Hp) (x : V) : Prop := x = .non ∨ (∃ i, x = .int i) ∨ (∃ b, x = .bl b) ∨ (∃ a xs, x = .ref a ∧ SqL K H a xs) ∨ (∃ a xs, x = .ref a ∧ SqT K H a xs) ∨ ∃ a kvs, x = .ref a ∧ H a = some (.dK kvs)
section
variable {X : Cx}
/-- == of any thing and a text -/
def rEqOdd (K : PySem.W.Frag) : R2 := fun x y H Q => ∃ z, y = .str z ∧ ((∃ z', x = .str z' ∧ Q (.bl (decide (z' = z))) H) ∨ (OddV K H x ∧ Q (.bl false) H))
theorem op_eqOdd (hu : X.A.units < cLine) : OpR X (compareOp .Eq) (rEqOdd X.K) := by
  intro pins s σ H x y v u Q I rx ry h
  obtain ⟨z, rfl, h⟩ := h
  obtain ⟨t2, rfl⟩ := ry
  rcases h with ⟨z', rfl, q⟩ | ⟨rfl | ⟨i, rfl⟩ | ⟨b, rfl⟩ | ⟨a, xs, rfl, ha⟩ | ⟨a, xs, rfl, ha⟩ | ⟨a, kvs, rfl, ha⟩, q⟩
  · obtain ⟨t, rfl⟩ := rx
    refine SeqAt.RcAt.str_str z' t z t2 _ _ _ _ ⟨.bl _, H, I, ?_, q⟩
    show Value.bool (z' == z) = Value.bool (decide (z' = z))
    rw [Bool.eq_iff_iff.mpr (show (z' == z) = true ↔ decide (z' = z) = true by simp)]
  · cases rx
    exact SeqAt.RcAt.none_str z t2 _ _ _ _ ⟨.bl false, H, I, rfl, q⟩
  · obtain ⟨t, rfl⟩ := rx
    exact SeqAt.RcAt.int_str i t z t2 _ _ _ _ ⟨.bl false, H, I, rfl, q⟩
  · cases rx
    exact SeqAt.RcAt.bool_str b z t2 _ _ _ _ ⟨.bl false, H, I, rfl, q⟩
  · cases rx
    obtain ⟨its, r1, p1, _⟩ := I.list ha
    exact SeqAt.RcAt.list_str z t2 p1.isList hu _ _ _ _ ⟨.bl false, H, I, rfl, q⟩
  · cases rx
    obtain ⟨its, r1, p1, _⟩ := I.tuple ha
    exact SeqAt.RcAt.tuple_str z t2 p1 hu _ _ _ _ ⟨.bl false, H, I, rfl, q⟩
  · cases rx
    obtain ⟨_, _, vs, _, dd⟩ := (show ObjOk X.prog X.w H s.heap a (.dK kvs) from I.hok a _ ha)
    obtain ⟨⟨cls, dd, data, sl⟩, es, ep, ho, hx, hd, _⟩ := dd
    obtain ⟨h1, h2⟩ := hx
    simp only at h1 hd
    subst h1 hd
    exact rc_dict_str z t2 ho hu _ _ _ _ ⟨.bl false, H, I, rfl, q⟩
/-- != of lists of lists of one and the same thing each -/
def rNeLL (K : PySem.W.Frag) : R2 := fun x y H Q => ∃ (a b : Addr) (as bs : List Addr) (u : V), x = .ref a ∧ y = .ref b ∧ SqL K H a (as.map V.ref) ∧ SqL K H b (bs.map V.ref) ∧ as.length = bs.length ∧ (∀ p ∈ as, SqL K H p [u]) ∧ (∀ p ∈ bs, SqL K H p [u]) ∧ (flatB u = true ∨ ∃ c, u = .ref c) ∧ Q (.bl false) H
theorem op_neLL (hu : X.A.units + 64 < cLine) : OpR X (compareOp .NotEq) (rNeLL X.K) := by
  intro pins s σ H x y v w Q I rx ry h
  obtain ⟨a, b, as, bs, u, rfl, rfl, ha, hb, hl, hA, hB, hu2, q⟩ := h
  cases (show v = Value.ref a from rx)
  cases (show w = Value.ref b from ry)
  obtain ⟨us, r1, p1, _⟩ := I.list ha
  obtain ⟨ws, r2, p2, _⟩ := I.list hb
  have e1 : us.length = as.length := by have := r1.length; rw [List.length_map] at this; exact this.symm
  have e2 : ws.length = bs.length := by have := r2.length; rw [List.length_map] at this; exact this.symm
  have at_ : ∀ {cs : List Addr} {zs : List Value}, Vals (cs.map V.ref) zs → ∀ (j : Nat) (h : j < zs.length), ∃ c ∈ cs, zs[j] = Value.ref c := fun {cs zs} r j h => by
    have e : zs.length = cs.length := by have := r.length; rw [List.length_map] at this; exact this.symm
    obtain ⟨z, hz, rz⟩ := Vals.get (i := j) (x := V.ref (cs[j]'(by omega))) r (by rw [List.getElem?_map, List.getElem?_eq_getElem (by omega)]; rfl)
    rw [List.getElem?_eq_getElem h] at hz
    cases hz
    exact ⟨_, List.getElem_mem _, rz⟩
  have one : ∀ {p : Addr}, SqL X.K H p [u] → ∃ z : Value, RelV u z ∧ s.heap.IsList p #[z] := fun {p} h => by
    obtain ⟨zs, r, pl, _⟩ := I.list h
    cases r with
    | cons r1 r2 => cases r2; exact ⟨_, r1, pl.isList⟩
  refine SeqAt.RcNeAt.lists p1.isList p2.isList (by rw [List.size_toArray, List.size_toArray, e1, e2, hl]) (by omega) (e := fun _ => true) (fun j h1 h2 => ?_) _ _ _ _ ?_
  · obtain ⟨c, hc, ec⟩ := at_ r1 j (by simpa using h1)
    obtain ⟨d, hd, ed⟩ := at_ r2 j (by simpa using h2)
    have ec' : us.toArray[j] = Value.ref c := by simpa using ec
    have ed' : ws.toArray[j] = Value.ref d := by simpa using ed
    rw [ec', ed']
    by_cases e : c = d
    · rw [e]; exact SeqAt.EqAt.same _
    · obtain ⟨z1, k1, l1⟩ := one (hA c hc)
      obtain ⟨z2, k2, l2⟩ := one (hB d hd)
      refine SeqAt.EqAt.of_refs e ?_
      have := SeqAt.RcAt.lists (A := X.A.in1) (e := fun _ => true) l1 l2 rfl (by show X.A.units + 1 < cLine; omega) (fun i h3 h4 => by
        have i0 : i = 0 := by
          have : (#[z1] : Array Value).size = 1 := rfl
          omega
        subst i0
        show SeqAt.EqAt _ s z1 z2 true
        rcases hu2 with f | ⟨c', rfl⟩
        · exact eqAt_same k1 k2 f
        · cases (show z1 = Value.ref c' from k1)
          cases (show z2 = Value.ref c' from k2)
          exact SeqAt.EqAt.same _)
      exact this
  · rw [show ((List.range us.toArray.size).all fun _ => true) = true from List.all_eq_true.mpr fun _ _ => rfl]
    exact ⟨.bl false, H, I, rfl, q⟩
end
section
variable {X : Cx}
def eqs (k : Str) : Value → Bool
  | .str z _ => z == k
  | _ => false
theorem strs_ofV : ∀ {ns : List Str} {us : List Value}, Vals (ns.map V.str) us → ∀ u ∈ us, ∃ z t, u = .str z t
  | [], _, h, u, hu => by cases h; cases hu
  | n :: ns, _, h, u, hu => by
    cases h with
    | cons r1 r2 =>
      obtain ⟨t, rfl⟩ := r1
      rcases List.mem_cons.mp hu with rfl | hu
      · exact ⟨n, t, rfl⟩
      · exact strs_ofV r2 u hu
theorem eqs_count (k : Str) : ∀ {ns : List Str} {us : List Value}, Vals (ns.map V.str) us → us.countP (eqs k) = ns.count k
  | [], _, h => by cases h; rfl
  | n :: ns, _, h => by
    cases h with
    | cons r1 r2 =>
      obtain ⟨t, rfl⟩ := r1
      rw [List.countP_cons, List.count_cons, eqs_count k r2]
      rfl
def rCntS (K : PySem.W.Frag) : V → List V → Hp → VK → Prop := fun x xs H Q => ∃ (p : Addr) (ns : List Str) (k : Str), x = .ref p ∧ xs = [.str k] ∧ SqL K H p (ns.map V.str) ∧ Q (.int (ns.count k : Nat)) H
theorem mt_scount : MtR X "list.count" (rCntS X.K) := by
  intro pins s σ H x xs v us Q I rx rxs h
  obtain ⟨p, ns, k, rfl, rfl, hs, q⟩ := h
  cases rx
  obtain ⟨u, rfl, ru⟩ := rxs.one
  obtain ⟨t, rfl⟩ := ru
  obtain ⟨its, rv, ⟨⟨cls, dd, data, sl⟩, n, ho, hc, hdn, hd⟩, hlen⟩ := I.list hs
  simp only at hc hd
  subst hc hd
  refine call_meets PySem.F.slot_list_count ⟨_, ho, rfl⟩ PySem.F.entry_list_count (PySem.F.args_list_count_2 _ _)
    (SeqAt.list_countAt p its.toArray n dd sl (.str k t) (eqs k)) ⟨ho, fun y hy => ?_, ?_⟩
  · obtain ⟨z, t', rfl⟩ := strs_ofV rv y (by simpa using hy)
    exact SeqAt.EqAt.str_str z t' k t
  have ec : its.toArray.toList.countP (eqs k) = ns.count k := eqs_count k rv
  refine ⟨.int (ns.count k : Nat), H, I.tok _, ⟨s.toks, ?_⟩, q⟩
  show Value.int ((its.toArray.toList.countP (eqs k) : Nat) : Int) s.toks = Value.int ((ns.count k : Nat) : Int) s.toks
  rw [ec]
end
end L2

set_option maxRecDepth 100000
set_option maxHeartbeats 4000000
namespace Ts
open PySem L2
section
variable {P : Program} {w : World} {K : PySem.W.Frag} {mg : Str → Option Value} {base : Heap} {CC : Addr}
theorem sc_NoBox_init : FnScope ["self", "box"] ["self", "box"] (defScope s_NoBox_init) := ⟨rfl, rfl, rfl, by decide +kernel, rfl, by decide +kernel, by decide +kernel⟩
theorem ok_NoBox_init {f : Addr} {fd : FuncData} (F : Fun K "__init__" "NoBox.__init__" s_NoBox_init f fd) (O : OexC K CC) (nb : PySem.W.findIn K (.ref CC) "box" = some none) : FnOk P w K mg base CX0 2 f fd ["self", "box"] (spErr1 CC "box") := by
  refine F.ok sc_NoBox_init (fun vs H Q E h => ?_) (fun cdv A outer s H vs Q E hr h => ?_)
  · obtain ⟨a, x, rfl, _⟩ := h
    rfl
  · obtain ⟨a, x, rfl, ha, hq⟩ := h
    refine ⟨_, pss_one (ps_ost (pv 0) (pv 1)), ?_⟩
    exact ⟨_, rfl, _, rfl, a, CC, rfl, O, nb, .inl ⟨ha, fun d hd ne => hq d hd ne⟩⟩
end
end Ts

set_option maxRecDepth 100000
set_option maxHeartbeats 4000000
namespace Ts
open PySem L2
/-! ### the other errors of changed trees; an own error with two fields -/
def spErr2 (CC : Addr) (f1 f2 : Str) : Sp := fun vs H Q _ => ∃ (a : Addr) (x y : V), vs = [.ref a, x, y] ∧ H a = some (exo a CC none) ∧ ∀ d, H d = none → d ≠ a → Q .non (upd (upd (upd H d (exd d [(f1, x)])) a (exo a CC (some d))) d (exd d [(f2, y), (f1, x)]))
theorem rd_err2 {CC : Addr} {f1 f2 : Str} {H1 : Hp} {x y : V} {Q : XK} (k : ∀ d, H1 d = none → Q (.ref CC) (some d) (upd H1 d (.xd [(f2, y), (f1, x)]))) : ([x, y] : List V).length ≤ 1000 ∧ ∀ a, H1 a = none → spErr2 CC f1 f2 (.ref a :: ([x, y] ++ [])) (upd H1 a (exo a CC none)) (fun v H2 => v = .non ∧ ∃ (d : Addr) (fs : List (Str × V)), H2 a = some (exo a CC (some d)) ∧ H2 d = some (exd d fs) ∧ H1 d = none ∧ Q (.ref CC) (some d) (upd (del H2 a) d (.xd fs))) (fun _ _ _ => False) := by
  refine ⟨(by show 2 ≤ 1000; decide), fun a ha => ⟨a, x, y, rfl, upd_same, fun d hd ne => ⟨rfl, d, [(f2, y), (f1, x)], by rw [upd_ne ne.symm]; exact upd_same, upd_same, by rw [upd_ne ne] at hd; exact hd, ?_⟩⟩⟩
  have hd1 : H1 d = none := by rw [upd_ne ne] at hd; exact hd
  have e : upd (del (upd (upd (upd (upd H1 a (exo a CC none)) d (exd d [(f1, x)])) a (exo a CC (some d))) d (exd d [(f2, y), (f1, x)])) a) d (.xd [(f2, y), (f1, x)]) = upd H1 d (.xd [(f2, y), (f1, x)]) := by
    funext b
    by_cases q : b = d
    · rw [q, upd_same, upd_same]
    · rw [upd_ne q, upd_ne q]
      unfold del
      by_cases r : b = a
      · rw [if_pos r, r]; exact ha.symm
      · rw [if_neg r, upd_ne q, upd_ne r, upd_ne q, upd_ne r]
  rw [e]
  exact k d hd1
section
variable {P : Program} {w : World} {K : PySem.W.Frag} {mg : Str → Option Value} {base : Heap} {CC : Addr}
theorem sc_BadMove_init : FnScope ["self", "box", "into"] ["self", "box", "into"] (defScope s_BadMove_init) := ⟨rfl, rfl, rfl, by decide +kernel, rfl, by decide +kernel, by decide +kernel⟩
theorem ok_BadMove_init {f : Addr} {fd : FuncData} (F : Fun K "__init__" "BadMove.__init__" s_BadMove_init f fd) (O : OexC K CC) (nb : PySem.W.findIn K (.ref CC) "box" = some none) (ni : PySem.W.findIn K (.ref CC) "into" = some none) : FnOk P w K mg base CX0 2 f fd ["self", "box", "into"] (spErr2 CC "box" "into") := by
  refine F.ok sc_BadMove_init (fun vs H Q E h => ?_) (fun cdv A outer s H vs Q E hr h => ?_)
  · obtain ⟨a, x, y, rfl, _⟩ := h
    rfl
  · obtain ⟨a, x, y, rfl, ha, hq⟩ := h
    refine ⟨_, pss_cons (ps_ost (pv 0) (pv 1)) (pss_one (ps_ost (pv 0) (pv 2))), ?_⟩
    refine ⟨_, rfl, _, rfl, a, CC, rfl, O, nb, .inl ⟨ha, fun d hd ne => ?_⟩⟩
    exact ⟨_, rfl, _, rfl, a, CC, rfl, O, ni, .inr ⟨d, _, upd_same, by rw [upd_ne ne]; exact upd_same, (by show 1 ≤ 900; decide), hq d hd ne⟩⟩
theorem sc_BadRule_init : FnScope ["self", "rule"] ["self", "rule"] (defScope s_BadRule_init) := ⟨rfl, rfl, rfl, by decide +kernel, rfl, by decide +kernel, by decide +kernel⟩
theorem ok_BadRule_init {f : Addr} {fd : FuncData} (F : Fun K "__init__" "BadRule.__init__" s_BadRule_init f fd) (O : OexC K CC) (nb : PySem.W.findIn K (.ref CC) "rule" = some none) : FnOk P w K mg base CX0 2 f fd ["self", "rule"] (spErr1 CC "rule") := by
  refine F.ok sc_BadRule_init (fun vs H Q E h => ?_) (fun cdv A outer s H vs Q E hr h => ?_)
  · obtain ⟨a, x, rfl, _⟩ := h
    rfl
  · obtain ⟨a, x, rfl, ha, hq⟩ := h
    refine ⟨_, pss_one (ps_ost (pv 0) (pv 1)), ?_⟩
    exact ⟨_, rfl, _, rfl, a, CC, rfl, O, nb, .inl ⟨ha, fun d hd ne => hq d hd ne⟩⟩
end
end Ts

set_option maxRecDepth 100000
set_option maxHeartbeats 4000000
namespace Ts
open PySem L2
/-! ### what a tree refuses -/
def OddT (K : PySem.W.Frag) (H : Hp) (x : V) : Prop := OddV K H x ∧ Other K H x (.type "str")
/-- no box, no place -/
def OddN (K : PySem.W.Frag) (H : Hp) (rs : List Row) (x : V) : Prop := (∃ z : Str, x = .str z ∧ z ∉ names rs) ∨ OddT K H x
def OddP (K : PySem.W.Frag) (H : Hp) (rs : List Row) (x : V) : Prop := (∃ z : Str, x = .str z ∧ z ≠ ("top" : Str) ∧ z ∉ names rs) ∨ OddT K H x
def spRef (K : PySem.W.Frag) (C CN : Addr) (Od : PySem.W.Frag → Hp → List Row → V → Prop) : Sp := fun vs H Q E => ∃ (t : Addr) (x : V) (rs : List Row), vs = [.ref t, x] ∧ TreeAt C H t rs ∧ Od K H rs x ∧ ∀ d H', H d = none → Same H H' → H' d = some (.xd [("box", x)]) → E (.ref CN) (some d) H'
def spIsPlaceX (K : PySem.W.Frag) (C : Addr) : Sp := fun vs H Q _ => ∃ (t : Addr) (x : V) (rs : List Row), vs = [.ref t, x] ∧ TreeAt C H t rs ∧ OddP K H rs x ∧ Q (.bl false) H
section
variable {P : Program} {w : World} {K : PySem.W.Frag} {mg : Str → Option Value} {base : Heap} {C CN : Addr}
theorem odd_contains {H : Hp} {t : Addr} {rs : List Row} {x : V} {Q : VK} {E : XK} (ht : TreeAt C H t rs) (h : OddN K H rs x) (k : Q (.bl false) H) : spContains K C [.ref t, x] H Q E := by
  rcases h with ⟨z, rfl, hz⟩ | ⟨_, ho⟩
  · refine ⟨t, _, rs, rfl, ht, .inl ⟨z, rfl, ?_⟩⟩
    rw [decide_eq_false hz]; exact k
  · exact ⟨t, _, rs, rfl, ht, .inr ⟨ho, k⟩⟩
theorem OddP.n {H : Hp} {rs : List Row} {x : V} (h : OddP K H rs x) : OddN K H rs x := h.imp (fun ⟨z, e, _, hz⟩ => ⟨z, e, hz⟩) id
theorem ok_check_boxX {fI : Addr} {fdI : FuncData} (D : DefAt K mg "check_box" s_check_box ["tree", "thing"]) (M : MethAt K C "__contains__" "Tree.__contains__" s_Tree_contains ["self", "x"]) (B : TxB mg) (T : TxT K mg C)
    (TN : ErrT K mg CN "NoBox" "box") (iC : PySem.W.findIn K (.ref CN) "__init__" = some (some (.ref fI))) (tI : PySem.W.typeIn K (.ref fI) = some (.type "function")) (GI : FnOk P w K mg base CX0 2 fI fdI ["self", "box"] (spErr1 CN "box")) (bI : Binds K fdI ["self", "box"] []) :
    FnOk P w K mg base (L2.CX P w) 4 D.f D.fd ["tree", "thing"] (spRef K C CN OddN) := by
  have G : FnOk P w K mg base CX0 2 M.f M.fd ["self", "x"] (spContains K C) := ok_Tree_contains M.F B T
  refine D.F.okX sc_check_box (fun vs H Q E h => ?_) (fun cdv A outer s H vs Q E hr h => ?_)
  · obtain ⟨t, x, rs, rfl, _⟩ := h
    rfl
  · obtain ⟨t, x, rs, rfl, ht, hx, hE⟩ := h
    obtain ⟨dx, q, f, k, p, qs, h1, h2⟩ := id ht.ex
    have hr2 : Room 2 _ := hr.mono (by decide)
    refine ⟨_, pss_one (ps_if (pt_cmpR (op_notinC G M.m hr2 M.b pass0) (pv 1) (pv 0) (by rfl)) (pss_one (ps_raise rfl (takes_of rfl rfl rfl rfl) (pmk_oex TN.O iC tI GI hr bI .nil pass0 rfl TN.g (by exact pa_cons (pv 1) pa_nil)))) pss_nil), ?_⟩
    refine ⟨_, rfl, _, rfl, t, dx, _, rfl, h1, odd_contains ht hx ⟨_, rfl, _, rfl, ?_⟩⟩
    refine iteT ?_
    exact ⟨_, rfl, rd_err1 fun d hd => hE d _ hd (Same.new hd) upd_same⟩
theorem ok_is_placeX (D : DefAt K mg "is_place" s_is_place ["tree", "thing"]) (M : MethAt K C "__contains__" "Tree.__contains__" s_Tree_contains ["self", "x"]) (B : TxB mg) (TC : TxC K mg) (T : TxT K mg C) : FnOk P w K mg base CX0 3 D.f D.fd ["tree", "thing"] (spIsPlaceX K C) := by
  have G : FnOk P w K mg base CX0 2 M.f M.fd ["self", "x"] (spContains K C) := ok_Tree_contains M.F B T
  obtain ⟨t1, gT⟩ := TC.top
  refine D.F.ok sc_is_place (fun vs H Q E h => ?_) (fun cdv A outer s H vs Q E hr h => ?_)
  · obtain ⟨t, z, rs, rfl, _⟩ := h
    rfl
  · obtain ⟨t, x, rs, rfl, ht, hx, hq⟩ := h
    have h64 := hr.units
    obtain ⟨dx, q, f, k, p, qs, h1, h2⟩ := id ht.ex
    refine ⟨_, pss_one (ps_ret (pe_or (pe_cmpR (op_eqOdd (Nat.lt_of_le_of_lt (Nat.le_add_right _ _) h64)) (pv 1) (pe_glob (by rfl) gT (v := .str ("top" : Str)) ⟨_, rfl⟩) (nomark _)) (pe_one (pe_cmpR (op_inC G M.m hr M.b pass0) (pv 1) (pv 0) (by rfl))))), ?_⟩
    have fin : ∃ b, V.bl false = V.bl b ∧ if b = true then Q (V.bl true) H else tOp (rInC C (spContains K C) E0) (tVar 1) (tVar 0) (L2.start ["tree", "thing"] [V.ref t, x]) H Q := by
      refine ⟨false, rfl, iteF ?_⟩
      exact ⟨_, rfl, _, rfl, t, dx, _, rfl, h1, odd_contains ht hx.n ⟨_, rfl, hq⟩⟩
    refine ⟨_, rfl, ("top" : Str), rfl, ?_⟩
    rcases hx with ⟨z, rfl, hz1, hz2⟩ | ⟨ho, _⟩
    · refine .inl ⟨z, rfl, ?_⟩
      rw [decide_eq_false hz1]
      exact fin
    · exact .inr ⟨ho, fin⟩
theorem ok_check_placeX {fI : Addr} {fdI : FuncData} (D : DefAt K mg "check_place" s_check_place ["tree", "thing"]) (Db : DefAt K mg "is_place" s_is_place ["tree", "thing"]) (Gb : FnOk P w K mg base CX0 3 Db.f Db.fd ["tree", "thing"] (spIsPlaceX K C))
    (TN : ErrT K mg CN "NoBox" "box") (iC : PySem.W.findIn K (.ref CN) "__init__" = some (some (.ref fI))) (tI : PySem.W.typeIn K (.ref fI) = some (.type "function")) (GI : FnOk P w K mg base CX0 2 fI fdI ["self", "box"] (spErr1 CN "box")) (bI : Binds K fdI ["self", "box"] []) :
    FnOk P w K mg base (L2.CX P w) 4 D.f D.fd ["tree", "thing"] (spRef K C CN OddP) := by
  refine D.F.okX sc_check_place (fun vs H Q E h => ?_) (fun cdv A outer s H vs Q E hr h => ?_)
  · obtain ⟨t, x, rs, rfl, _⟩ := h
    rfl
  · obtain ⟨t, x, rs, rfl, ht, hx, hE⟩ := h
    refine ⟨_, pss_one (ps_if (pt_not (pt_val (pe_call Gb hr rfl Db.g Db.F.kp Db.b .nil pass0 (pa_cons (pv 0) (pa_cons (pv 1) pa_nil))))) (pss_one (ps_raise rfl (takes_of rfl rfl rfl rfl) (pmk_oex TN.O iC tI GI hr bI .nil pass0 rfl TN.g (by exact pa_cons (pv 1) pa_nil)))) pss_nil), ?_⟩
    refine ⟨_, rfl, _, rfl, t, x, rs, rfl, ht, hx, _, rfl, iteT ?_⟩
    exact ⟨_, rfl, rd_err1 fun d hd => hE d _ hd (Same.new hd) upd_same⟩
theorem ok_folderX {f : Addr} {fd : FuncData} (F : Fun K "folder" "Tree.folder" s_Tree_folder f fd) (Db : DefAt K mg "check_box" s_check_box ["tree", "thing"]) (Gb : FnOk P w K mg base (L2.CX P w) 4 Db.f Db.fd ["tree", "thing"] (spRef K C CN OddN)) : FnOk P w K mg base (L2.CX P w) 5 f fd ["self", "box"] (spRef K C CN OddN) := by
  refine F.okX sc_Tree_folder (fun vs H Q E h => ?_) (fun cdv A outer s H vs Q E hr h => ?_)
  · obtain ⟨t, x, rs, rfl, _⟩ := h
    rfl
  · obtain ⟨t, x, rs, rfl, ht, hx, hE⟩ := h
    refine ⟨_, pss_cons (ps_expr (pe_call Gb hr rfl Db.g Db.F.kp Db.b .nil (passes_call (takes_of rfl rfl rfl rfl) (fun _ _ _ _ h => h)) (pa_cons (pv 0) (pa_cons (pv 1) pa_nil)))) pss_never, ?_⟩
    exact ⟨_, rfl, _, rfl, t, x, rs, rfl, ht, hx, hE⟩
theorem ok_kindX {f : Addr} {fd : FuncData} (F : Fun K "kind" "Tree.kind" s_Tree_kind f fd) (Db : DefAt K mg "check_box" s_check_box ["tree", "thing"]) (Gb : FnOk P w K mg base (L2.CX P w) 4 Db.f Db.fd ["tree", "thing"] (spRef K C CN OddN)) : FnOk P w K mg base (L2.CX P w) 5 f fd ["self", "box"] (spRef K C CN OddN) := by
  refine F.okX sc_Tree_kind (fun vs H Q E h => ?_) (fun cdv A outer s H vs Q E hr h => ?_)
  · obtain ⟨t, x, rs, rfl, _⟩ := h
    rfl
  · obtain ⟨t, x, rs, rfl, ht, hx, hE⟩ := h
    refine ⟨_, pss_cons (ps_expr (pe_call Gb hr rfl Db.g Db.F.kp Db.b .nil (passes_call (takes_of rfl rfl rfl rfl) (fun _ _ _ _ h => h)) (pa_cons (pv 0) (pa_cons (pv 1) pa_nil)))) pss_never, ?_⟩
    exact ⟨_, rfl, _, rfl, t, x, rs, rfl, ht, hx, hE⟩
theorem ok_priceX {f : Addr} {fd : FuncData} (F : Fun K "price" "Tree.price" s_Tree_price f fd) (Db : DefAt K mg "check_box" s_check_box ["tree", "thing"]) (Gb : FnOk P w K mg base (L2.CX P w) 4 Db.f Db.fd ["tree", "thing"] (spRef K C CN OddN)) : FnOk P w K mg base (L2.CX P w) 5 f fd ["self", "box"] (spRef K C CN OddN) := by
  refine F.okX sc_Tree_price (fun vs H Q E h => ?_) (fun cdv A outer s H vs Q E hr h => ?_)
  · obtain ⟨t, x, rs, rfl, _⟩ := h
    rfl
  · obtain ⟨t, x, rs, rfl, ht, hx, hE⟩ := h
    refine ⟨_, pss_cons (ps_expr (pe_call Gb hr rfl Db.g Db.F.kp Db.b .nil (passes_call (takes_of rfl rfl rfl rfl) (fun _ _ _ _ h => h)) (pa_cons (pv 0) (pa_cons (pv 1) pa_nil)))) pss_never, ?_⟩
    exact ⟨_, rfl, _, rfl, t, x, rs, rfl, ht, hx, hE⟩
theorem ok_belowX {f : Addr} {fd : FuncData} (F : Fun K "below" "Tree.below" s_Tree_below f fd) (Db : DefAt K mg "check_place" s_check_place ["tree", "thing"]) (Gb : FnOk P w K mg base (L2.CX P w) 4 Db.f Db.fd ["tree", "thing"] (spRef K C CN OddP)) : FnOk P w K mg base (L2.CX P w) 5 f fd ["self", "box"] (spRef K C CN OddP) := by
  refine F.okX sc_Tree_below (fun vs H Q E h => ?_) (fun cdv A outer s H vs Q E hr h => ?_)
  · obtain ⟨t, x, rs, rfl, _⟩ := h
    rfl
  · obtain ⟨t, x, rs, rfl, ht, hx, hE⟩ := h
    refine ⟨_, pss_cons (ps_expr (pe_call Gb hr rfl Db.g Db.F.kp Db.b .nil (passes_call (takes_of rfl rfl rfl rfl) (fun _ _ _ _ h => h)) (pa_cons (pv 0) (pa_cons (pv 1) pa_nil)))) pss_never, ?_⟩
    exact ⟨_, rfl, _, rfl, t, x, rs, rfl, ht, hx, hE⟩
end
end Ts

set_option maxRecDepth 100000
set_option maxHeartbeats 4000000
namespace Ts
open PySem L2
section
variable {P : Program} {w : World} {K : PySem.W.Frag} {mg : Str → Option Value} {base : Heap} {C CN CM CS CR : Addr}
/-- a def that keeps one promise without errors and one with them keeps either -/
theorem fn_or {k k0 k1 : Nat} {f : Addr} {fd : FuncData} {ps : List Str} {sp0 sp1 : Sp} (h0 : k0 ≤ k) (h1 : k1 ≤ k) (F0 : FnOk P w K mg base CX0 k0 f fd ps sp0) (F1 : FnOk P w K mg base (L2.CX P w) k1 f fd ps sp1) : FnOk P w K mg base (L2.CX P w) k f fd ps (fun vs H Q E => sp0 vs H Q E0 ∨ sp1 vs H Q E) :=
  ⟨fun vs H Q E q => q.elim (F0.len vs H Q E0) (F1.len vs H Q E), fun A outer s H args us vs Q E hr he hb hv hs => hs.elim
    (fun h => codeAny_mono (F0.run A outer s H args us vs Q E0 (hr.mono h0) he hb hv h) fun r s' q => by
      cases r with
      | ok f => cases f <;> exact q
      | error e => exact (show False from q).elim)
    (fun h => F1.run A outer s H args us vs Q E (hr.mono h1) he hb hv h)⟩
def spMovedX (K : PySem.W.Frag) (C CN CM : Addr) : Sp := fun vs H Q E => ∃ (t : Addr) (x y : V) (rs : List Row), vs = [.ref t, x, y] ∧ TreeAt C H t rs ∧
  ((OddN K H rs x ∧ ∀ d H', H d = none → Same H H' → H' d = some (.xd [("box", x)]) → E (.ref CN) (some d) H') ∨
   ((∃ z : Str, x = .str z ∧ z ∈ names rs) ∧ OddP K H rs y ∧ ∀ d H', H d = none → Same H H' → H' d = some (.xd [("box", y)]) → E (.ref CN) (some d) H') ∨
   ∃ (m : Row) (fo : Str), x = .str m.nm ∧ y = .str fo ∧ m ∈ rs ∧ (∃ q ∈ rs, q.nm = fo ∧ (q.ki = ("folder" : Str) → under rs m.nm q = true)) ∧ ∀ d H', H d = none → Same H H' → H' d = some (.xd [("into", y), ("box", x)]) → E (.ref CM) (some d) H')
theorem ok_movedX {f fM : Addr} {fd fdM : FuncData} (F : Fun K "moved" "Tree.moved" s_Tree_moved f fd) (Db : DefAt K mg "check_box" s_check_box ["tree", "thing"]) (Gb : FnOk P w K mg base CX0 3 Db.f Db.fd ["tree", "thing"] (spBox C)) (Xb : FnOk P w K mg base (L2.CX P w) 4 Db.f Db.fd ["tree", "thing"] (spRef K C CN OddN))
    (Dp : DefAt K mg "check_place" s_check_place ["tree", "thing"]) (Gp : FnOk P w K mg base CX0 4 Dp.f Dp.fd ["tree", "thing"] (spPlace C)) (Xp : FnOk P w K mg base (L2.CX P w) 4 Dp.f Dp.fd ["tree", "thing"] (spRef K C CN OddP)) (TC : TxC K mg) (T : TxT K mg C)
    (mB : MethAt K C "below" "Tree.below" s_Tree_below ["self", "box"]) (GB : FnOk P w K mg base CX0 5 mB.f mB.fd ["self", "box"] (spListOf C belowL))
    (TM : ErrT K mg CM "BadMove" "box") (iC : PySem.W.findIn K (.ref CM) "__init__" = some (some (.ref fM))) (tI : PySem.W.typeIn K (.ref fM) = some (.type "function")) (GI : FnOk P w K mg base CX0 2 fM fdM ["self", "box", "into"] (spErr2 CM "box" "into")) (bI : Binds K fdM ["self", "box", "into"] []) : FnOk P w K mg base (L2.CX P w) 7 f fd ["self", "box", "folder"] (spMovedX K C CN CM) := by
  obtain ⟨t1, gT⟩ := TC.top
  obtain ⟨t2, gF⟩ := TC.folder
  have G1 := fn_or (k := 4) (by decide) (by decide) Gb Xb
  have G2 := fn_or (k := 4) (by decide) (by decide) Gp Xp
  refine F.okX sc_Tree_moved (fun vs H Q E h => ?_) (fun cdv A outer s H vs Q E hr h => ?_)
  · obtain ⟨t, x, y, rs, rfl, _⟩ := h
    rfl
  · obtain ⟨t, x, y, rs, rfl, ht, h⟩ := h
    have hu := hu_of hr
    have hv := ht.val
    have l100 := ht.len
    obtain ⟨dx, q, f, k, p, qs, h1, h2, h3, h4, h5, h6⟩ := id ht.ex
    refine ⟨_, pss_cons (ps_expr (pe_call G1 (hr.mono (by decide)) rfl Db.g Db.F.kp Db.b .nil (passes_call (takes_of rfl rfl rfl rfl) (fun _ _ _ _ h => h)) (pa_cons (pv 0) (pa_cons (pv 1) pa_nil))))
      (pss_cons (ps_expr (pe_call G2 (hr.mono (by decide)) rfl Dp.g Dp.F.kp Dp.b .nil (passes_call (takes_of rfl rfl rfl rfl) (fun _ _ _ _ h => h)) (pa_cons (pv 0) (pa_cons (pv 2) pa_nil))))
      (pss_cons (ps_set (i := 3) sc_Tree_moved.nd rfl (.inr rfl) (pe_meth (pv 0) T.cl mB.m GB (hr.mono (by decide)) mB.b .nil pass0 (pa_cons (pv 1) pa_nil)))
      (pss_cons (ps_if (PW.pt (pw_and (pt_cmpR op_ne (pv 2) (pe_glob (by rfl) gT (v := .str ("top" : Str)) ⟨_, rfl⟩) (nomark _)) (pw_and1 (PW.pt (pw_or (pt_cmpR op_ne (pe_dget hu (pe_fld (pv 0) rfl) (pv 2) (fun _ _ => rfl)) (pe_glob (by rfl) gF (v := .str ("folder" : Str)) ⟨_, rfl⟩) (nomark _)) (pw_or (pt_cmpR op_eq (pv 2) (pv 1) (nomark _)) (pw_or1 (pt_cmpR op_in_seq (pv 2) (pv 3) (by rfl)))))))))
        (pss_one (ps_raise rfl (takes_of rfl rfl rfl rfl) (pmk_oex TM.O iC tI GI (hr.mono (by decide)) bI .nil pass0 rfl TM.g (by exact pa_cons (pv 1) (pa_cons (pv 2) pa_nil))))) pss_nil) pss_never))), ?_⟩
    rcases h with ⟨hx, hE⟩ | ⟨⟨z, rfl, hz⟩, hy, hE⟩ | ⟨m, fo, rfl, rfl, hm, ⟨q', hq', eq', kq'⟩, hE⟩
    · exact ⟨_, rfl, _, rfl, .inr ⟨t, x, rs, rfl, ht, hx, hE⟩⟩
    · exact ⟨_, rfl, _, rfl, .inl ⟨t, z, rs, rfl, ht, hz, ⟨_, rfl, _, rfl, .inr ⟨t, y, rs, rfl, ht, hy, hE⟩⟩⟩⟩
    have hz : m.nm ∈ names rs := List.mem_map.mpr ⟨m, hm, rfl⟩
    have zt : m.nm ≠ ("top" : Str) := fun e => top_not hv (e ▸ hz)
    have hf : fo ∈ names rs := List.mem_map.mpr ⟨q', hq', eq'⟩
    have hn : fo ≠ ("top" : Str) := fun e => top_not hv (e ▸ hf)
    have noB : (tf q f k p).lookup ("below" : Str) = none := tf_no _ _ _ _ (by decide +kernel) (by decide +kernel) (by decide +kernel) (by decide +kernel)
    refine ⟨_, rfl, _, rfl, .inl ⟨t, m.nm, rs, rfl, ht, hz, ?_⟩⟩
    refine ⟨_, rfl, _, rfl, .inl ⟨t, fo, rs, rfl, ht, .inr hf, ?_⟩⟩
    refine ⟨_, rfl, t, dx, _, rfl, h1, noB, _, rfl, t, m.nm, rs, rfl, ht, .inr hz, fun bl H1 hbl s1 e1 => ?_⟩
    have lbe := List.length_filter_le (isIn rs m.nm) rs
    have raise : ∀ (Z : XK), (∀ d H', H1 d = none → Same H1 H' → H' d = some (.xd [("into", V.str fo), ("box", V.str m.nm)]) → Z (.ref CM) (some d) H') → ([V.str m.nm, V.str fo] : List V).length ≤ 1000 ∧ ∀ a, H1 a = none → spErr2 CM "box" "into" (.ref a :: ([V.str m.nm, V.str fo] ++ [])) (upd H1 a (exo a CM none)) (fun v H2 => v = .non ∧ ∃ (d : Addr) (fs : List (Str × V)), H2 a = some (exo a CM (some d)) ∧ H2 d = some (exd d fs) ∧ H1 d = none ∧ Z (.ref CM) (some d) (upd (del H2 a) d (.xd fs))) (fun _ _ _ => False) := fun Z hZ => rd_err2 fun d hd => hZ d _ hd (Same.new hd) upd_same
    refine ⟨_, rfl, rfl, _, rfl, ?_⟩
    rw [show decide (V.str fo = V.str ("top" : Str)) = false from decide_eq_false (fun e => hn (V.str.inj e))]
    refine iteT ?_
    obtain ⟨j, hj, ej⟩ := List.mem_iff_getElem.mp hq'
    have ro := rowOf_at hv (i := j) (r := q') (by rw [← ej]; exact List.getElem?_eq_getElem hj)
    have dg := DGet.k (k := Sum.inr fo) (s1 _ _ h5)
    rw [valV_kvF, show (rs.find? fun q => decide (q.nm = fo)) = some q' from by rw [← eq']; exact ro] at dg
    have fin := raise E fun d H' hd sm e => hE d H' (s1.free hd) (s1.trans sm) e
    refine ⟨_, rfl, t, C, dx, _, _, rfl, s1 _ _ h1, T.cl, T.nk, tf_k _ _ _ _, _, rfl, k, _, rfl, dg, rfl, _, rfl, ?_⟩
    refine ite2 (fun hc => ?_) (fun hc => ?_)
    · exact ⟨_, rfl, _, rfl, fin⟩
    · have kf : q'.ki = ("folder" : Str) := Classical.byContradiction fun e => hc (by
        show (!decide (V.str q'.ki = V.str ("folder" : Str))) = true
        rw [decide_eq_false (fun y => e (V.str.inj y))]; rfl)
      have uq := kq' kf
      rw [under_iff hv zt hq', Bool.or_eq_true] at uq
      refine ⟨_, rfl, _, rfl, rfl, _, rfl, ?_⟩
      refine ite2 (fun hc2 => ?_) (fun hc2 => ?_)
      · exact ⟨_, rfl, _, rfl, fin⟩
      · have ne1 : fo ≠ m.nm := fun e => hc2 (decide_eq_true (congrArg V.str e))
        refine ⟨_, rfl, _, rfl, bl, _, rfl, .inl (SqL.of e1), rfl, flat_strs _, _, rfl, ?_⟩
        have e : (if false = true then !inV (.str fo) ((belowL rs m.nm).map V.str) else inV (.str fo) ((belowL rs m.nm).map V.str)) = true := by
          rw [if_neg Bool.false_ne_true, inV_strs, ← eq', in_below hv hq']
          rcases uq with u | u
          · exact absurd (eq'.symm.trans (of_decide_eq_true u)) ne1
          · exact u
        rw [e]
        exact iteT ⟨_, rfl, _, rfl, fin⟩
end
end Ts

set_option maxRecDepth 100000
set_option maxHeartbeats 4000000
namespace Ts
open PySem L2
/-! ### there and back -/
def stuck (rs : List Row) (d : Bool) (ts : List Str) (b : Row) (fo rule : Str) : Bool := needs rs d ts b.nm fo rule && decide (b.pr = none)
def thereT (rs : List Row) (d : Bool) (ts : List Str) (b : Row) (fo rule : Str) : List Str := turnsL (movedL rs b fo) (turnsB rs d ts b.nm fo rule)
/-- whether the box needs a turn at home -/
def needsH (rs : List Row) (d : Bool) (ts : List Str) (b : Row) (fo rule : Str) : Bool := needs (movedL rs b fo) d (thereT rs d ts b fo rule) b.nm b.fo rule
def backR (rs : List Row) (d : Bool) (ts : List Str) (b : Row) (fo rule : Str) : Bool := needsH rs d ts b fo rule == decide (b.nm ∈ ts)
theorem home_out {rs : List Row} (h : Valid rs) {b : Row} (hb : b ∈ rs) : b.fo = ("top" : Str) ∨ ∃ q ∈ rs, q.nm = b.fo ∧ q.ki = ("folder" : Str) ∧ under rs b.nm q = false := by
  obtain ⟨i, hi, e⟩ := List.mem_iff_getElem.mp hb
  have hbi : rs[i]? = some b := by rw [← e]; exact List.getElem?_eq_getElem hi
  have f := h i b hbi
  rcases f.home with e | ⟨q, hq, e1, e2⟩
  · exact .inl e
  · refine .inr ⟨q, List.mem_of_mem_take hq, e1, e2, decide_eq_false fun hm => f.new ?_⟩
    exact way_pre h i (z := q.nm) (List.mem_map.mpr ⟨q, hq, rfl⟩) hm
theorem way_outM {rs : List Row} (h : Valid rs) {m : Row} {fo : Str} (hl : LetM rs m fo) : ∀ (i : Nat) (r : Row), rs[i]? = some r → under rs m.nm r = false → wayOf (movedL rs m fo) r.nm = wayOf rs r.nm := by
  have v' := moved_valid h hl.1 hl.2
  intro i
  induction i using Nat.strongRecOn with
  | _ i ih =>
    intro r hr hu
    have hrm := List.mem_of_getElem? hr
    have ne : r.nm ≠ m.nm := fun e => by rw [under_self h hrm e] at hu; cases hu
    have hr' := mem_moved h hl.1 hrm ne fo
    have fov : wayOf (movedL rs m fo) r.fo = wayOf rs r.fo := by
      rcases h.fo hr with e | e
      · rw [e, way_top v', way_top h]
      · obtain ⟨q, hq, eq⟩ := List.mem_map.mp e
        obtain ⟨j, hj, ej⟩ := List.mem_take_iff_getElem.mp hq
        have hjq : rs[j]? = some q := by rw [← ej]; exact List.getElem?_eq_getElem _
        have uq : under rs m.nm q = false := by
          cases u : under rs m.nm q with
          | false => rfl
          | true => rw [under_up h hrm (List.mem_of_getElem? hjq) eq u] at hu; cases hu
        rw [← eq]
        exact ih j (by omega) q hjq uq
    rw [way_step v' hr', way_step h hrm, fov]
theorem let_home {rs : List Row} (h : Valid rs) {b : Row} {fo : Str} (hl : LetM rs b fo) : LetM (movedL rs b fo) { b with fo := fo } b.fo := by
  refine ⟨moved_self rs b fo, ?_⟩
  rcases home_out h hl.1 with e | ⟨q, hq, e1, e2, e3⟩
  · exact .inl e
  · have ne : q.nm ≠ b.nm := fun e => by rw [under_self h hq e] at e3; cases e3
    refine .inr ⟨q, mem_moved h hl.1 hq ne fo, e1, e2, ?_⟩
    obtain ⟨i, hi, e⟩ := List.mem_iff_getElem.mp hq
    unfold under
    rw [way_outM h hl i q (by rw [← e]; exact List.getElem?_eq_getElem hi) e3]
    exact e3
theorem free_there {rs : List Row} (h : Valid rs) {b : Row} {fo rule : Str} {d : Bool} {ts : List Str} (hl : LetM rs b fo) (hf : ∀ z ∈ ts, Free rs z) (hs : stuck rs d ts b fo rule = false) : ∀ x ∈ turnsB rs d ts b.nm fo rule, Free (movedL rs b fo) x := fun x hx => by
  have hx1 := turnsB_names (d := d) hl.1 (fun z hz => (hf z hz).mem) x hx
  have ff := first_moved (rule := rule) (d := d) h hl hf
  rw [if_neg (by show ¬ stuck rs d ts b fo rule = true; rw [hs]; exact Bool.false_ne_true)] at ff
  refine lk_free (names_moved h hl hx1) ?_
  have := List.find?_eq_none.mp ff x hx
  simpa using this
theorem there_mem {rs : List Row} (h : Valid rs) {b : Row} {fo rule : Str} {d : Bool} {ts : List Str} (hl : LetM rs b fo) (hf : ∀ z ∈ ts, z ∈ names rs) (x : Str) : x ∈ thereT rs d ts b fo rule ↔ x ∈ turnsB rs d ts b.nm fo rule := by
  unfold thereT
  rw [mem_turnsL]
  exact ⟨fun e => e.2, fun e => ⟨names_moved h hl (turnsB_names hl.1 hf x e), e⟩⟩
/-- what is so at home, by what was so ahead -/
theorem needsH_eq {rs : List Row} (h : Valid rs) {b : Row} {fo rule : Str} {d : Bool} {ts : List Str} (hl : LetM rs b fo) (hf : ∀ z ∈ ts, z ∈ names rs) :
    needsH rs d ts b fo rule = if rule = "meant" then decide (b.nm ∈ ts) != ((valOf rs d ts fo != needs rs d ts b.nm fo rule) != valOf rs d ts b.nm) else if rule = "told" then needs rs d ts b.nm fo rule && (decide (b.nm ∈ ts) != ((valOf rs d ts fo != needs rs d ts b.nm fo rule) != valOf rs d ts b.nm)) else needs rs d ts b.nm fo rule := by
  have e1 : valOf (movedL rs b fo) d (thereT rs d ts b fo rule) b.nm = (valOf rs d ts fo != needs rs d ts b.nm fo rule) := by
    unfold thereT
    rw [val_norm, val_box h hl]
  have e2 : valOf (movedL rs b fo) d (thereT rs d ts b fo rule) b.fo = valOf rs d ts b.fo := by
    unfold thereT
    rw [val_norm]
    rcases home_out h hl.1 with e | ⟨q, hq, q1, q2, q3⟩
    · rw [e, val_top (moved_valid h hl.1 hl.2), val_top h]
    · rw [← q1]
      obtain ⟨i, hi, e⟩ := List.mem_iff_getElem.mp hq
      exact val_out h hl i q (by rw [← e]; exact List.getElem?_eq_getElem hi) q3
  have e3 : decide (b.nm ∈ thereT rs d ts b fo rule) = needs rs d ts b.nm fo rule := by
    rw [← turnsB_self (rs := rs)]
    exact decide_eq_decide.mpr (there_mem h hl hf _)
  have e4 := val_step h d ts hl.1
  have e5 : (valOf (movedL rs b fo) d (thereT rs d ts b fo rule) b.nm != valOf (movedL rs b fo) d (thereT rs d ts b fo rule) b.fo) = (decide (b.nm ∈ ts) != ((valOf rs d ts fo != needs rs d ts b.nm fo rule) != valOf rs d ts b.nm)) := by
    rw [e1, e2, e4]
    generalize valOf rs d ts b.fo = x
    generalize decide (b.nm ∈ ts) = y
    generalize (valOf rs d ts fo != needs rs d ts b.nm fo rule) = z
    cases x <;> cases y <;> cases z <;> rfl
  unfold needsH
  rw [show needs (movedL rs b fo) d (thereT rs d ts b fo rule) b.nm b.fo rule = (if rule = "meant" then valOf (movedL rs b fo) d (thereT rs d ts b fo rule) b.nm != valOf (movedL rs b fo) d (thereT rs d ts b fo rule) b.fo else if rule = "told" then decide (b.nm ∈ thereT rs d ts b fo rule) && (valOf (movedL rs b fo) d (thereT rs d ts b fo rule) b.nm != valOf (movedL rs b fo) d (thereT rs d ts b fo rule) b.fo) else decide (b.nm ∈ thereT rs d ts b fo rule)) from rfl, e3, e5]
theorem back_told {rs : List Row} (h : Valid rs) {b : Row} {fo : Str} {d : Bool} {ts : List Str} (hl : LetM rs b fo) (hf : ∀ z ∈ ts, z ∈ names rs) : backR rs d ts b fo "told" = !(decide (b.nm ∈ ts) && !(valOf rs d ts b.nm != valOf rs d ts fo)) := by
  unfold backR
  rw [needsH_eq h hl hf, if_neg (by decide +kernel), if_pos rfl]
  unfold needs
  rw [if_neg (by decide +kernel), if_pos rfl]
  generalize valOf rs d ts b.nm = x
  generalize decide (b.nm ∈ ts) = y
  generalize valOf rs d ts fo = z
  cases x <;> cases y <;> cases z <;> rfl
theorem back_turned {rs : List Row} (h : Valid rs) {b : Row} {fo : Str} {d : Bool} {ts : List Str} (hl : LetM rs b fo) (hf : ∀ z ∈ ts, z ∈ names rs) : backR rs d ts b fo "turned" = true := by
  unfold backR
  rw [needsH_eq h hl hf, if_neg (by decide +kernel), if_neg (by decide +kernel)]
  unfold needs
  rw [if_neg (by decide +kernel), if_neg (by decide +kernel)]
  simp
theorem back_meant {rs : List Row} (h : Valid rs) {b : Row} {fo : Str} {d : Bool} {ts : List Str} (hl : LetM rs b fo) (hf : ∀ z ∈ ts, z ∈ names rs) : backR rs d ts b fo "meant" = true := by
  unfold backR
  rw [needsH_eq h hl hf, if_pos rfl]
  unfold needs
  rw [if_pos rfl]
  generalize valOf rs d ts b.nm = x
  generalize decide (b.nm ∈ ts) = y
  generalize valOf rs d ts fo = z
  cases x <;> cases y <;> cases z <;> rfl
theorem free_box {rs : List Row} (h : Valid rs) {b : Row} (hb : b ∈ rs) {ts : List Str} (hf : ∀ z ∈ ts, Free rs z) : (decide (b.nm ∈ ts) && decide (b.pr = none)) = false := by
  cases e : decide (b.nm ∈ ts) with
  | false => rfl
  | true =>
    obtain ⟨r, hr, hp⟩ := hf _ (of_decide_eq_true e)
    rw [rowOf_mem h hb] at hr
    cases hr
    rw [Bool.true_and]
    exact decide_eq_false hp
theorem stuck_told {rs : List Row} (h : Valid rs) {b : Row} {fo : Str} {d : Bool} {ts : List Str} (hb : b ∈ rs) (hf : ∀ z ∈ ts, Free rs z) : stuck rs d ts b fo "told" = false := by
  have := free_box h hb hf
  unfold stuck needs
  rw [if_neg (by decide +kernel), if_pos rfl]
  cases e : decide (b.nm ∈ ts) with
  | false => rfl
  | true => rw [e, Bool.true_and] at this; rw [this, Bool.and_false]
theorem stuck_turned {rs : List Row} (h : Valid rs) {b : Row} {fo : Str} {d : Bool} {ts : List Str} (hb : b ∈ rs) (hf : ∀ z ∈ ts, Free rs z) : stuck rs d ts b fo "turned" = false := by
  unfold stuck needs
  rw [if_neg (by decide +kernel), if_neg (by decide +kernel)]
  exact free_box h hb hf
theorem stuck_meant (rs : List Row) (d : Bool) (ts : List Str) (b : Row) (fo : Str) : stuck rs d ts b fo "meant" = ((valOf rs d ts b.nm != valOf rs d ts fo) && decide (b.pr = none)) := by
  unfold stuck needs
  rw [if_pos rfl]
/-- at home nothing is in the way -/
theorem stuck_home {rs : List Row} (h : Valid rs) {b : Row} {fo rule : Str} {d : Bool} {ts : List Str} (hl : LetM rs b fo) (hf : ∀ z ∈ ts, Free rs z) (hr : rule ∈ rules3) (hs : stuck rs d ts b fo rule = false) : (needsH rs d ts b fo rule && decide (b.pr = none)) = false := by
  have hf' : ∀ z ∈ ts, z ∈ names rs := fun z hz => (hf z hz).mem
  have fb := free_box h hl.1 hf
  simp only [rules3, List.mem_cons, List.not_mem_nil, or_false] at hr
  rcases hr with rfl | rfl | rfl
  · rw [needsH_eq h hl hf', if_neg (by decide +kernel), if_pos rfl]
    unfold stuck at hs
    cases e : needs rs d ts b.nm fo "told" with
    | false => rfl
    | true => rw [e, Bool.true_and] at hs; rw [hs, Bool.and_false]
  · rw [needsH_eq h hl hf', if_neg (by decide +kernel), if_neg (by decide +kernel)]
    exact hs
  · have e := back_meant (d := d) h hl hf'
    unfold backR at e
    have e2 : needsH rs d ts b fo "meant" = decide (b.nm ∈ ts) := by
      revert e
      cases needsH rs d ts b fo "meant" <;> cases decide (b.nm ∈ ts) <;> simp
    rw [e2]
    exact fb
/-- the turns at home are those ahead just if the box is turned in both or in none -/
theorem home_perm {rs : List Row} (h : Valid rs) {b : Row} {fo rule : Str} {d : Bool} {ts : List Str} (hl : LetM rs b fo) (hn : turnsL rs ts = ts) (hf : ∀ z ∈ ts, z ∈ names rs) {rs2 : List Row} (hv2 : Valid rs2) (h2 : ∀ z, z ∈ names rs → z ∈ names rs2) :
    (turnsL rs2 (turnsB (movedL rs b fo) d (thereT rs d ts b fo rule) b.nm b.fo rule)).Perm ts ↔ backR rs d ts b fo rule = true := by
  have nd : ∀ {qs : List Row} {us : List Str}, Valid qs → (turnsL qs us).Nodup := fun {qs us} hq => (List.nodup_cons.mp (plc_nodup hq)).2.filter _
  rw [List.perm_ext_iff_of_nodup (nd hv2) (by rw [← hn]; exact nd h)]
  have mem : ∀ x, x ≠ b.nm → (x ∈ turnsL rs2 (turnsB (movedL rs b fo) d (thereT rs d ts b fo rule) b.nm b.fo rule) ↔ x ∈ ts) := fun x ne => by
    rw [mem_turnsL, turnsB_ne ne, there_mem h hl hf, turnsB_ne ne]
    exact ⟨fun e => e.2, fun e => ⟨h2 x (hf x e), e⟩⟩
  have memb : b.nm ∈ turnsL rs2 (turnsB (movedL rs b fo) d (thereT rs d ts b fo rule) b.nm b.fo rule) ↔ needsH rs d ts b fo rule = true := by
    rw [mem_turnsL]
    unfold needsH
    rw [← turnsB_self (rs := movedL rs b fo), decide_eq_true_eq]
    exact ⟨fun e => e.2, fun e => ⟨h2 _ (List.mem_map.mpr ⟨b, hl.1, rfl⟩), e⟩⟩
  unfold backR
  rw [beq_iff_eq]
  constructor
  · intro hx
    have := hx b.nm
    rw [memb] at this
    rw [Bool.eq_iff_iff, decide_eq_true_eq]
    exact this
  · intro e x
    by_cases ne : x = b.nm
    · rw [ne, memb, e, decide_eq_true_eq]
    · exact mem x ne
end Ts

set_option maxRecDepth 100000
set_option maxHeartbeats 4000000
namespace L2
open PySem PySem.Spec PyProof.Rows
section
variable {X : Cx}
/-- sorted(t) of a tuple of texts -/
theorem cr_sortedT : CallR X (.builtin "sorted") (fun vs H Q => ∃ (a : Addr) (xs : List Str), vs = [V.ref a] ∧ SqT X.K H a (xs.map V.str) ∧ xs.length < 64 ∧
    ∀ (ys : List Str) (p : Addr), ys.Perm xs → sortedS ys = true → H p = none → Q (.ref p) (upd H p (.lst (ys.map V.str)))) := by
  intro pins s σ H vs us Q I r h
  obtain ⟨a, xs, rfl, hs, h64, q⟩ := h
  obtain ⟨its, rv, pl, hz⟩ := I.tuple hs
  obtain ⟨o, ho, hc, n, hd⟩ := pl
  rw [Vals.ref1 r]
  have hal : its.length = xs.length := by rw [← rv.length, List.length_map]
  have hS : StrsAre its xs := rv.strs
  refine Calls.call_function_entry PyProof.Rows.kind_sorted PyProof.Rows.plain_sorted PyProof.Rows.entry_sorted (PyProof.Rows.args_sorted1 _) ?_
  unfold Builtin.«sorted»
  refine wpAny_bind (m := checkCount "sorted" 1 1 _) (wpAny_pure ?_)
  refine wpAny_bind (wpAny_collect_seq a (.inr rfl) ho hc hd (fun h' hk => ?_) (by simp only [List.size_toArray]; rw [hal, sizeLine_eq]; omega))
  have I1 : Inv X pins σ H { s with heap := h', toks := s.toks } := I.kept hk
  refine wpAny_bind (wpAny_newList ?_ (by simp only [List.size_toArray, Array.length_toList]; rw [hal, sizeLine_eq]; omega))
  have hoL : (h'.push (seqObj "list" its.toArray 0)).get? h'.objs.size = some (seqObj "list" its.toArray 0) := Heap.get?_push_size _ rfl
  have ea : its.toArray.toList.toArray = its.toArray := by simp
  show wpAny _ _ _ _ _ { s with heap := h'.push (seqObj "list" its.toArray 0) }
  refine wpAny_bind (wpAny_holding (wpAny_call_entry PyProof.Rows.slot_list_sort ⟨_, hoL, rfl⟩ PyProof.Rows.entry_list_sort
    (list_sort_treeK strKind_oneLt (s := { s with heap := h'.push (seqObj "list" its.toArray 0) }) hoL hS.keysOf (fun v₁ v₂ rest e => keyKind_strs (by rw [← e]; exact hS)) (by rw [hal]; exact h64) fun st' hp hs => ⟨_, rfl, ?_⟩)
    (PyProof.Rows.args_list_sort _)))
  obtain ⟨ys, g1, g2, g3⟩ := sorted_out_str hS hp hs
  obtain ⟨e', he'⟩ := PyProof.Rows.sortedHeap_at (vs := its) (out := (arrOf st').map (·.2)) hoL
  have hlen : (ys.map V.str).length ≤ sizeLine := by
    rw [List.length_map, g2.length_eq]
    exact Nat.le_trans (Nat.le_of_lt h64) (by decide)
  refine wpAny_pure ⟨_, rfl, .ref h'.objs.size, upd H h'.objs.size (.lst (ys.map V.str)), I1.laid (t' := s.toks) (fun b u e => ?_) (Nat.le_refl _)
    (show ObjOk X.prog X.w _ _ _ (.lst (ys.map V.str)) from ⟨hlen, ((arrOf st').map (·.2)).toList, e', vals_of_strs g1, by rw [Array.toArray_toList]; exact he'⟩), rfl, q ys _ g2 g3 (I1.hok.fresh (Nat.le_refl _))⟩
  have hb : b < h'.objs.size := Heap.lt_size e
  rw [PyProof.Rows.sortedHeap_old (Nat.ne_of_lt hb) (by rw [size_push']; exact Nat.lt_succ_of_lt hb)]
  exact Heap.get?_push_of_some _ e
end
end L2

set_option maxRecDepth 100000
set_option maxHeartbeats 4000000
namespace Ts
open PySem L2
def spBack (C CM CL : Addr) : Sp := fun vs H Q E => ∃ (m t : Addr) (b : Row) (fo rule : Str) (rs : List Row) (d : Bool) (ts : List Str), vs = [.ref m, .str b.nm, .str fo, .str rule] ∧ MeanAt C CM H m t rs d ts ∧ (∀ z ∈ ts, Free rs z) ∧ ts.length < 60 ∧ LetM rs b fo ∧ rule ∈ rules3 ∧
  (stuck rs d ts b fo rule = true → ∀ e H', H e = none → Same H H' → H' e = some (.xd [("box", .str b.nm)]) → E (.ref CL) (some e) H') ∧ (stuck rs d ts b fo rule = false → ∀ H', Same H H' → Q (.bl (backR rs d ts b fo rule)) H')
theorem turnsB_len {rs : List Row} {d : Bool} {ts : List Str} {z fo rule : Str} : (turnsB rs d ts z fo rule).length ≤ ts.length + 1 := by
  unfold turnsB
  rw [List.length_append]
  have h1 := List.length_filter_le (fun x => decide (x ≠ z)) ts
  split <;> simp <;> simp at h1 <;> omega
theorem nodup_len : ∀ {l m : List Str}, l.Nodup → (∀ x ∈ l, x ∈ m) → l.length ≤ m.length
  | [], _, _, _ => Nat.zero_le _
  | x :: l, m, hn, h => by
    rw [List.nodup_cons] at hn
    have hx := h x (List.mem_cons_self ..)
    have := nodup_len (m := m.erase x) hn.2 fun y hy => (List.mem_erase_of_ne (fun (e : y = x) => hn.1 (by rw [← e]; exact hy))).mpr (h y (List.mem_cons_of_mem _ hy))
    rw [List.length_erase_of_mem hx] at this
    have := List.length_pos_of_mem hx
    rw [List.length_cons]
    omega
theorem turnsL_len {rs : List Row} (h : Valid rs) (us : List Str) : (turnsL rs us).length ≤ us.length := by
  have nd : (turnsL rs us).Nodup := (List.nodup_cons.mp (plc_nodup h)).2.filter _
  exact nodup_len nd fun x hx => (mem_turnsL.mp hx).2
section
variable {P : Program} {w : World} {K : PySem.W.Frag} {mg : Str → Option Value} {base : Heap} {C CM CL : Addr}
abbrev nBack : List Str := ["meaning", "box", "folder", "rule", "there", "home"]
theorem sc_back : FnScope nBack ["meaning", "box", "folder", "rule"] (defScope s_back) := ⟨rfl, rfl, rfl, by decide +kernel, rfl, by decide +kernel, by decide +kernel⟩
theorem ok_back (D : DefAt K mg "back" s_back ["meaning", "box", "folder", "rule"]) (hSo : mg "sorted" = none) (T : TxT K mg C) (M : TxM K mg CM)
    (Dm : DefAt K mg "moved" s_moved ["meaning", "box", "folder", "rule"]) (Gm : FnOk P w K mg base (L2.CX P w) 9 Dm.f Dm.fd ["meaning", "box", "folder", "rule"] (spMovedM C CM CL))
    (mF : MethAt K C "folder" "Tree.folder" s_Tree_folder ["self", "box"]) (GF : FnOk P w K mg base CX0 4 mF.f mF.fd ["self", "box"] (spGet C fun r => .str r.fo)) :
    FnOk P w K mg base (L2.CX P w) 10 D.f D.fd ["meaning", "box", "folder", "rule"] (spBack C CM CL) := by
  refine D.F.okX sc_back (fun vs H Q E h => ?_) (fun cdv A outer s H vs Q E hr h => ?_)
  · obtain ⟨m, t, b, fo, rule, rs, d, ts, rfl, _⟩ := h
    rfl
  · have r4 : Room 4 _ := hr.mono (by decide)
    have h64 := hr.units
    refine ⟨_, pss_cons (ps_set (i := 4) sc_back.nd rfl (.inl rfl) (pe_call Gm hr rfl Dm.g Dm.F.kp Dm.b .nil (passes_call (takes_of rfl rfl rfl rfl) (fun _ _ _ _ h => h)) (pa_cons (pv 0) (pa_cons (pv 1) (pa_cons (pv 2) (pa_cons (pv 3) pa_nil))))))
      (pss_cons (ps_set (i := 5) sc_back.nd rfl (.inl rfl) (pe_call Gm hr rfl Dm.g Dm.F.kp Dm.b .nil (passes_call (takes_of rfl rfl rfl rfl) (fun _ _ _ _ h => h)) (pa_cons (pv 4) (pa_cons (pv 1) (pa_cons (pe_meth (pe_fld (pv 0) rfl) T.cl mF.m GF r4 mF.b .nil pass0 (pa_cons (pv 1) pa_nil)) (pa_cons (pv 3) pa_nil))))))
      (pss_one (ps_ret (pe_and (pe_cmpR op_eq (pe_fld (pv 5) rfl) (pe_fld (pv 0) rfl) (nomark _)) (pe_one (pe_cmpR (op_eqD h64) (pe_callB cr_sortedT (by rfl) hSo (by decide +kernel) (pa_cons (pe_fld (pv 5) rfl) pa_nil)) (pe_callB cr_sortedT (by rfl) hSo (by decide +kernel) (pa_cons (pe_fld (pv 0) rfl) pa_nil)) (nomark _))))))), ?_⟩
    obtain ⟨m, t, b, fo, rule, rs, d, ts, rfl, hm, hfree, hlen, hl, hru, hE, hQ⟩ := h
    have hv := hm.tree.val
    have hmem : ∀ z ∈ ts, z ∈ names rs := fun z hz => (hfree z hz).mem
    refine ⟨_, rfl, _, rfl, _, rfl, _, rfl, m, t, b, fo, rule, rs, d, ts, rfl, hm, hfree, hl, hru, fun hc e H' he s' ex => hE hc e H' he s' ex, fun hc m' t' H1 nm' s1 hm' => ?_⟩
    have hs : stuck rs d ts b fo rule = false := hc
    obtain ⟨dx, u, k, h1, h2, h3⟩ := id hm.ex
    obtain ⟨tdx, q, f, tk, p, qs, g1, _⟩ := id hm.tree.ex
    have noF : (tf q f tk p).lookup ("folder" : Str) = none := tf_no _ _ _ _ (by decide +kernel) (by decide +kernel) (by decide +kernel) (by decide +kernel)
    have hm1 := hm.same s1
    have v' := hm'.tree.val
    have hfr : ∀ z ∈ thereT rs d ts b fo rule, Free (movedL rs b fo) z := fun z hz => free_there hv hl hfree hs z ((there_mem hv hl hmem z).mp hz)
    have hl2 := let_home hv hl
    have sh := stuck_home hv hl hfree hru hs
    refine ⟨_, rfl, _, rfl, _, rfl, m, CM, dx, _, _, rfl, s1 _ _ h1, M.cl, M.nt, mf_t _ _ _ _, t, tdx, _, rfl, s1 _ _ g1, noF, _, rfl, t, b.nm, rs, b, rfl, hm1.tree, rowOf_mem hv hl.1, _, rfl, m', t', { b with fo := fo }, b.fo, rule, movedL rs b fo, d, thereT rs d ts b fo rule, rfl, hm', hfr, hl2, hru, (fun hc => by rw [show (needs (movedL rs b fo) d (thereT rs d ts b fo rule) ({ b with fo := fo } : Row).nm b.fo rule && decide (({ b with fo := fo } : Row).pr = none)) = false from sh] at hc; cases hc), fun _ m2 t2 H2 nm2 s2 hm2 => ?_⟩
    have s12 := s1.trans s2
    obtain ⟨dx2, u2, k2, f1, f2, f3⟩ := id hm2.ex
    refine ⟨_, rfl, m2, CM, dx2, _, _, rfl, f1, M.cl, M.nd, mf_d _ _ _ _, _, rfl, m, CM, dx, _, _, rfl, s12 _ _ h1, M.cl, M.nd, mf_d _ _ _ _, rfl, _, rfl, ?_⟩
    rw [decide_eq_true rfl]
    have l1 : (thereT rs d ts b fo rule).length ≤ ts.length + 1 := Nat.le_trans (turnsL_len v' _) turnsB_len
    have l2 := Nat.le_trans (turnsL_len hm2.tree.val (turnsB (movedL rs b fo) d (thereT rs d ts b fo rule) ({ b with fo := fo } : Row).nm b.fo rule)) turnsB_len
    refine iteT ⟨_, rfl, m2, CM, dx2, _, _, rfl, f1, M.cl, M.nu, mf_u _ _ _ _, u2, _, rfl, sqT f2, by omega, fun ys1 p1 hp1 hs1 hn1 => ?_⟩
    have s3 : Same H2 (upd H2 p1 (.lst (ys1.map V.str))) := Same.new hn1
    have e3 : (upd H2 p1 (.lst (ys1.map V.str))) p1 = some (.lst (ys1.map V.str)) := upd_same
    generalize upd H2 p1 (.lst (ys1.map V.str)) = H3 at s3 e3
    have s13 := s12.trans s3
    refine ⟨_, rfl, m, CM, dx, _, _, rfl, s13 _ _ h1, M.cl, M.nu, mf_u _ _ _ _, u, _, rfl, sqT (s13 _ _ h2), by omega, fun ys2 p2 hp2 hs2 hn2 => ?_⟩
    have s4 : Same H3 (upd H3 p2 (.lst (ys2.map V.str))) := Same.new hn2
    have ok1 : ∀ x ∈ ys1, PyData.strOk x = true := fun x hx => names_ok hm2.tree.val x (mem_turnsL.mp (hp1.subset hx)).1
    have ok2 : ∀ x ∈ ys2, PyData.strOk x = true := fun x hx => names_ok hv x (hmem x (hp2.subset hx))
    refine ⟨_, _, strs_dp (s4 _ _ e3), strs_dp upd_same, shaped_strs ok1, shaped_strs ok2, ?_⟩
    have ee : PyData.eqv (.list (ys1.map PyData.str)) (.list (ys2.map PyData.str)) = backR rs d ts b fo rule := by
      simp only [PyData.eqv]
      rw [strs_eqv, Bool.eq_iff_iff, decide_eq_true_eq, sorted_same hp1 hp2 hs1 hs2]
      exact home_perm hv hl hm.norm.symm hmem hm2.tree.val (fun z hz => names_moved v' hl2 (names_moved hv hl hz))
    rw [ee]
    exact hQ hs _ (s13.trans s4)
end
end Ts

set_option maxRecDepth 100000
set_option maxHeartbeats 4000000
namespace Ts
open PySem L2
/-! ### goals -/
def foldL (rs : List Row) : List Str := (rs.filter fun r => decide (r.ki = ("folder" : Str))).map (·.nm)
theorem mem_foldL {rs : List Row} {z : Str} : z ∈ foldL rs ↔ ∃ q ∈ rs, q.nm = z ∧ q.ki = ("folder" : Str) := by
  unfold foldL
  rw [List.mem_map]
  refine ⟨fun ⟨q, hq, e⟩ => ?_, fun ⟨q, hq, e1, e2⟩ => ⟨q, List.mem_filter.mpr ⟨hq, decide_eq_true e2⟩, e1⟩⟩
  obtain ⟨h1, h2⟩ := List.mem_filter.mp hq
  exact ⟨q, h1, e, of_decide_eq_true h2⟩
theorem foldL_len (rs : List Row) : (foldL rs).length ≤ rs.length := by unfold foldL; rw [List.length_map]; exact List.length_filter_le _ _
def gOk (rs : List Row) (z f : Str) : Bool := decide (f ≠ z) && !decide (f ∈ belowL rs z)
def goalsL (rs : List Row) (z : Str) : List Str := "top" :: (foldL rs).filter (gOk rs z)
def spGoals (C : Addr) : Sp := fun vs H Q _ => ∃ (t : Addr) (z : Str) (rs : List Row), vs = [.ref t, .str z] ∧ TreeAt C H t rs ∧ z ∈ names rs ∧ ∀ D H', H D = none → Same H H' → H' D = some (.lst ((goalsL rs z).map V.str)) → Q (.ref D) H'
/-- a list of texts that keeps some of others -/
theorem filter_moreS {ns : List Str} {i : Nat} {z : Str} (h : ns[i]? = some z) (p : Str → Bool) : (ns.take (i + 1)).filter p = (ns.take i).filter p ++ (if p z = true then [z] else []) := by
  rw [take_more h, List.filter_append, List.filter_cons, List.filter_nil]
section
variable {P : Program} {w : World} {K : PySem.W.Frag} {mg : Str → Option Value} {base : Heap} {C CM CL : Addr}
theorem kind_names {rs : List Row} (h : Valid rs) {i : Nat} {z : Str} (hz : (names rs)[i]? = some z) : ∃ r, rs[i]? = some r ∧ r.nm = z ∧ rowOf rs z = some r := by
  unfold names at hz
  rw [List.getElem?_map] at hz
  obtain ⟨r, hr, e⟩ := Option.map_eq_some_iff.mp hz
  exact ⟨r, hr, e, by rw [← e]; exact rowOf_at h hr⟩
abbrev nGoals : List Str := ["tree", "box", "below", "folders", "name"]
theorem sc_goals : FnScope nGoals ["tree", "box"] (defScope s_goals) := ⟨rfl, rfl, rfl, by decide +kernel, rfl, by decide +kernel, by decide +kernel⟩
theorem ok_goals (D : DefAt K mg "goals" s_goals ["tree", "box"]) (TC : TxC K mg) (T : TxT K mg C) (mB : MethAt K C "below" "Tree.below" s_Tree_below ["self", "box"]) (GB : FnOk P w K mg base CX0 5 mB.f mB.fd ["self", "box"] (spListOf C belowL))
    (mK : MethAt K C "kind" "Tree.kind" s_Tree_kind ["self", "box"]) (GK : FnOk P w K mg base CX0 4 mK.f mK.fd ["self", "box"] (spGet C fun r => .str r.ki)) : FnOk P w K mg base CX0 6 D.f D.fd ["tree", "box"] (spGoals C) := by
  obtain ⟨t1, gT⟩ := TC.top
  obtain ⟨t2, gF⟩ := TC.folder
  refine D.F.ok sc_goals (fun vs H Q E h => ?_) (fun cdv A outer s H vs Q E hr h => ?_)
  · obtain ⟨t, z, rs, rfl, _⟩ := h
    rfl
  · obtain ⟨t, z, rs, rfl, ht, hz, hq⟩ := h
    have r4 : Room 4 _ := hr.mono (by decide)
    have hv := ht.val
    have l100 := ht.len
    obtain ⟨dx, q, f, k, p, qs, h1, h2, h3, h4, h5, h6⟩ := id ht.ex
    refine ⟨_, pss_cons (ps_set (i := 2) sc_goals.nd rfl (.inr rfl) (pe_meth (pv 0) T.cl mB.m GB hr mB.b .nil pass0 (pa_cons (pv 1) pa_nil)))
      (pss_cons (ps_setLc (i := 3) (own := [("name", 4)]) (g := gName 4) (tt := tTest (tOp rEq (tMeth C "kind" (spGet C fun r => .str r.ki) [] E0 (tVar 0) (tCons (tVar 4) tNil)) (tC (.str "folder")))) (te := tVar 4) rfl sc_goals.nd rfl rfl (sw_true rfl rfl rfl (by decide +kernel)) (pi_list (pe_meth (pv 0) T.cl mB.m GB hr mB.b .nil pass0 (pa_cons (pe_glob (by rfl) gT (v := .str ("top" : Str)) ⟨_, rfl⟩) pa_nil))) (blkOk_by (N := nGoals) (sc := defScope s_goals) (by decide +kernel))
        (fun _ _ _ _ _ => pg_name (i := 4) sc_goals.nd rfl (Or.inl rfl)) (fun _ _ _ _ _ => by exact pts_one (pt_cmpR op_eq (pe_meth (pv 0) T.cl mK.m GK r4 mK.b .nil pass0 (pa_cons (pv 4) pa_nil)) (pe_glob (by rfl) gF (v := .str ("folder" : Str)) ⟨_, rfl⟩) (nomark _))) (fun _ _ _ _ _ => pv 4))
      (pss_one (ps_ret (pe_op op_cat (pe_lst (pa_cons (pe_glob (by rfl) gT (v := .str ("top" : Str)) ⟨_, rfl⟩) pa_nil)) (pe_lc (own := [("name", 4)]) (g := gName 4) (tt := tAnd (tTest (tOp rNe (tVar 4) (tVar 1))) (tTest (tOp (rIn K true) (tVar 4) (tVar 2)))) (te := tVar 4) rfl sc_goals.nd (pi_list (pv 3)) (blkOk_by (N := nGoals) (sc := defScope s_goals) (by decide +kernel))
        (fun _ _ _ _ _ => pg_name (i := 4) sc_goals.nd rfl (Or.inl rfl)) (fun _ _ _ _ _ => by exact pts_one (PW.pt (pw_and (pt_cmpR op_ne (pv 4) (pv 1) (nomark _)) (pw_and1 (pt_cmpR op_notIn_seq (pv 4) (pv 2) (by rfl)))))) (fun _ _ _ _ _ => pv 4)))))), ?_⟩
    have noB : (tf q f k p).lookup ("below" : Str) = none := tf_no _ _ _ _ (by decide +kernel) (by decide +kernel) (by decide +kernel) (by decide +kernel)
    have noK : (tf q f k p).lookup ("kind" : Str) = none := tf_no _ _ _ _ (by decide +kernel) (by decide +kernel) (by decide +kernel) (by decide +kernel)
    refine ⟨_, rfl, t, dx, _, rfl, h1, noB, _, rfl, t, z, rs, rfl, ht, .inr hz, fun bl H1 hbl s1 e1 => ?_⟩
    refine ⟨_, rfl, t, dx, _, rfl, s1 _ _ h1, noB, t, ("top" : Str), rs, rfl, ht.same s1, .inl rfl, fun al H2 hal s2 e2 => ?_⟩
    rw [below_top hv] at e2
    have sA := s1.trans s2
    refine ⟨al, rfl, ⟨_, SqL.of e2⟩, fun Df hDf => ?_⟩
    have lnN : (names rs).length ≤ 100 := by unfold names; rw [List.length_map]; exact l100
    refine lc_list (K := K) (a := al) (xs := (names rs).map V.str) (fun i H' => Same H2 H' ∧ H' Df = some (.lst ((foldL (rs.take i)).map V.str))) ⟨Same.new hDf, upd_same⟩ (fun i H' _ m => m.1.seq (SqL.of e2)) ?_ ?_
    · rintro i x H7 hx ⟨s7, e7⟩
      rw [List.getElem?_map] at hx
      obtain ⟨u, hu, rfl⟩ := Option.map_eq_some_iff.mp hx
      obtain ⟨r, hr', rfl, hro⟩ := kind_names hv hu
      refine ⟨rfl, _, rfl, t, dx, _, rfl, s7 _ _ (sA _ _ h1), noK, _, rfl, t, r.nm, rs, r, rfl, (ht.same sA).same s7, hro, rfl, _, rfl, ?_⟩
      refine ite2 (fun hi => ?_) (fun hi => ?_)
      · have hk : r.ki = ("folder" : Str) := V.str.inj (of_decide_eq_true hi)
        refine ⟨_, rfl, _, e7, small1000 (by rw [List.length_map]; have := foldL_len (rs.take i); rw [List.length_take] at this; omega), fun b o eb => ?_, ?_⟩
        · rw [upd_ne (fun y => by rw [y, hDf] at eb; cases eb)]
          exact s7 _ _ eb
        · unfold foldL
          rw [upd_same, filter_take hr', if_pos (decide_eq_true hk), List.map_append]; rfl
      · have hk : ¬ r.ki = ("folder" : Str) := fun e => hi (decide_eq_true (congrArg V.str e))
        refine ⟨s7, ?_⟩
        unfold foldL
        rw [filter_take hr', if_neg (fun q => hk (of_decide_eq_true q)), List.append_nil]
        exact e7
    rintro H3 ⟨s3, e3⟩
    rw [List.length_map, show (names rs).length = rs.length from by unfold names; rw [List.length_map], List.take_length] at e3
    have sB := sA.trans s3
    refine ⟨(by show 1 ≤ sizeLine; decide), fun l1 hl1 => ?_⟩
    have s4 : Same H3 (upd H3 l1 (.lst [V.str ("top" : Str)])) := Same.new hl1
    have e4 : (upd H3 l1 (.lst [V.str ("top" : Str)])) l1 = some (.lst [V.str ("top" : Str)]) := upd_same
    generalize upd H3 l1 (.lst [V.str ("top" : Str)]) = H4 at s4 e4
    have eB4 := s4 _ _ (s3 _ _ (s2 _ _ e1))
    have eF4 := s4 _ _ e3
    have sC := sB.trans s4
    have lf := foldL_len rs
    refine ⟨_, rfl, Df, rfl, ⟨_, SqL.of eF4⟩, fun Dg hDg => ?_⟩
    refine lc_list (K := K) (a := Df) (xs := (foldL rs).map V.str) (fun i H' => Same H4 H' ∧ H' Dg = some (.lst ((((foldL rs).take i).filter (gOk rs z)).map V.str))) ⟨Same.new hDg, upd_same⟩ (fun i H' _ m => m.1.seq (SqL.of eF4)) ?_ ?_
    · rintro i x H7 hx ⟨s7, e7⟩
      rw [List.getElem?_map] at hx
      obtain ⟨u, hu, rfl⟩ := Option.map_eq_some_iff.mp hx
      have sz : (((foldL rs).take i).filter (gOk rs z)).length ≤ 100 := by
        have h1 := List.length_filter_le (gOk rs z) ((foldL rs).take i)
        rw [List.length_take] at h1
        omega
      have skip : gOk rs z u = false → H7 Dg = some (.lst ((((foldL rs).take (i + 1)).filter (gOk rs z)).map V.str)) := fun g => by
        rw [filter_moreS hu, if_neg (by rw [g]; exact Bool.false_ne_true), List.append_nil]; exact e7
      refine ⟨rfl, _, rfl, _, rfl, rfl, _, rfl, ?_⟩
      refine ite2 (fun hc => ?_) (fun hc => ?_)
      · have ne : u ≠ z := fun e => by rw [e] at hc; simp at hc
        refine ⟨_, rfl, _, rfl, bl, _, rfl, .inl (SqL.of (s7 _ _ eB4)), rfl, flat_strs _, _, rfl, ?_⟩
        have e : (if true = true then !inV (.str u) ((belowL rs z).map V.str) else inV (.str u) ((belowL rs z).map V.str)) = gOk rs z u := by
          rw [if_pos rfl, inV_strs]
          unfold gOk
          rw [decide_eq_true ne, Bool.true_and]
        rw [e]
        refine ite2 (fun hi => ?_) (fun hi => ?_)
        · refine ⟨_, rfl, _, e7, small1000 (by rw [List.length_map]; omega), fun b o eb => ?_, ?_⟩
          · rw [upd_ne (fun y => by rw [y, hDg] at eb; cases eb)]
            exact s7 _ _ eb
          · rw [upd_same, filter_moreS hu, if_pos hi, List.map_append]; rfl
        · exact ⟨s7, skip (by simpa using hi)⟩
      · have ne : u = z := Classical.byContradiction fun e => hc (by
          show (!decide (V.str u = V.str z)) = true
          rw [decide_eq_false (fun q => e (V.str.inj q))]; rfl)
        refine iteF ⟨s7, skip ?_⟩
        unfold gOk
        rw [ne, decide_eq_false (fun h => h rfl), Bool.false_and]
    rintro H5 ⟨s5, e5⟩
    rw [List.length_map, List.take_length] at e5
    have lg : ((foldL rs).filter (gOk rs z)).length ≤ 100 := by have := List.length_filter_le (gOk rs z) (foldL rs); omega
    refine ⟨l1, Dg, _, _, rfl, rfl, s5 _ _ e4, e5, szl (by rw [List.length_map]; show 1 + _ ≤ 1000; omega), fun D hD => ?_⟩
    exact hq D _ ((sC.trans s5).free hD) ((sC.trans s5).trans (Same.new hD)) (by rw [upd_same]; rfl)
end
end Ts

set_option maxRecDepth 100000
set_option maxHeartbeats 4000000
namespace Ts
open PySem L2
/-! ### unlike moves -/
structure PrAt (H : Hp) (as : List Addr) (ps : List (Str × Str)) : Prop where
  len : as.length = ps.length
  at_ : ∀ (i : Nat) (a : Addr) (p : Str × Str), as[i]? = some a → ps[i]? = some p → H a = some (.tup [.str p.1, .str p.2])
theorem PrAt.nil {H : Hp} : PrAt H [] [] := ⟨rfl, fun i a p ha => by simp at ha⟩
theorem PrAt.keep {H H' : Hp} {as : List Addr} {ps : List (Str × Str)} (h : PrAt H as ps) (s : ∀ b xs, H b = some (.tup xs) → H' b = some (.tup xs)) : PrAt H' as ps := ⟨h.len, fun i a p ha hp => s _ _ (h.at_ i a p ha hp)⟩
theorem PrAt.snoc {H : Hp} {as : List Addr} {ps : List (Str × Str)} {a : Addr} {p : Str × Str} (h : PrAt H as ps) (ha : H a = some (.tup [.str p.1, .str p.2])) : PrAt H (as ++ [a]) (ps ++ [p]) := by
  refine ⟨by rw [List.length_append, List.length_append, h.len]; rfl, fun i b q hb hq => ?_⟩
  by_cases c : i < as.length
  · rw [List.getElem?_append_left c] at hb
    rw [List.getElem?_append_left (by rw [← h.len]; exact c)] at hq
    exact h.at_ i b q hb hq
  · rw [List.getElem?_append_right (by omega)] at hb
    rw [List.getElem?_append_right (by rw [← h.len]; omega), ← h.len] at hq
    have i0 : i - as.length = 0 := by
      have := (List.getElem?_eq_some_iff.mp hb).1
      have e : ([a] : List Addr).length = 1 := rfl
      omega
    rw [i0] at hb hq
    cases hb
    cases hq
    exact ha
def opensL (rs : List Row) : List Str := (rs.filter fun r => decide (r.pr ≠ none)).map (·.nm)
def apart (rs : List Row) (d : Bool) (ts : List Str) (r1 r2 z f : Str) : Bool := needs rs d ts z f r1 != needs rs d ts z f r2
def pairsOf (rs : List Row) (d : Bool) (ts : List Str) (r1 r2 z : Str) (l : List Str) : List (Str × Str) := (l.filter (apart rs d ts r1 r2 z)).map fun f => (z, f)
def unlikeL (rs : List Row) (d : Bool) (ts : List Str) (r1 r2 : Str) (l : List Str) : List (Str × Str) := l.flatMap fun z => pairsOf rs d ts r1 r2 z (goalsL rs z)
theorem unlikeL_more {rs : List Row} {d : Bool} {ts : List Str} {r1 r2 z : Str} {l : List Str} {i : Nat} (h : l[i]? = some z) : unlikeL rs d ts r1 r2 (l.take (i + 1)) = unlikeL rs d ts r1 r2 (l.take i) ++ pairsOf rs d ts r1 r2 z (goalsL rs z) := by
  unfold unlikeL
  rw [take_more h, List.flatMap_append, List.flatMap_cons, List.flatMap_nil, List.append_nil]
theorem pairsOf_more {rs : List Row} {d : Bool} {ts : List Str} {r1 r2 z f : Str} {l : List Str} {i : Nat} (h : l[i]? = some f) : pairsOf rs d ts r1 r2 z (l.take (i + 1)) = pairsOf rs d ts r1 r2 z (l.take i) ++ (if apart rs d ts r1 r2 z f = true then [(z, f)] else []) := by
  unfold pairsOf
  rw [filter_moreS h, List.map_append]
  split <;> rfl
theorem goalsL_len (rs : List Row) (z : Str) : (goalsL rs z).length ≤ rs.length + 1 := by
  unfold goalsL
  rw [List.length_cons]
  have h1 := List.length_filter_le (gOk rs z) (foldL rs)
  have h2 := foldL_len rs
  omega
theorem goals_place {rs : List Row} {z f : Str} (h : f ∈ goalsL rs z) : f = ("top" : Str) ∨ f ∈ names rs := by
  rcases List.mem_cons.mp h with e | h
  · exact .inl e
  · obtain ⟨q, hq, e, _⟩ := mem_foldL.mp (List.mem_filter.mp h).1
    exact .inr (List.mem_map.mpr ⟨q, hq, e⟩)
theorem MeanAt.sb {C CM : Addr} {H H' : Hp} {m t D : Addr} {rs : List Row} {d : Bool} {ts : List Str} {xs : List V} (h : MeanAt C CM H m t rs d ts) (e : H D = some (.lst xs)) (s : SB D H H') : MeanAt C CM H' m t rs d ts := by
  have w : ∀ {b : Addr} {o : HO}, H b = some o → (∀ xs, o ≠ .lst xs) → H' b = some o := fun {b o} e1 no => s b o (fun eb => by rw [eb, e] at e1; exact no _ (Option.some.inj e1).symm) e1
  obtain ⟨dx, u, k, h1, h2, h3⟩ := h.ex
  obtain ⟨tdx, q, f, tk, p, qs, g1, g2, g3, g4, g5, g6⟩ := h.tree.ex
  exact ⟨⟨dx, u, k, w h1 (fun _ h => by cases h), w h2 (fun _ h => by cases h), w h3 (fun _ h => by cases h)⟩, ⟨⟨tdx, q, f, tk, p, qs, w g1 (fun _ h => by cases h), w g2 (fun _ h => by cases h), ⟨g3.len, fun i b r hb hr => w (g3.at_ i b r hb hr) (fun _ h => by cases h)⟩, w g4 (fun _ h => by cases h), w g5 (fun _ h => by cases h), w g6 (fun _ h => by cases h)⟩, h.tree.val, h.tree.len⟩, h.norm⟩
def spUnlikeM (C CM : Addr) : Sp := fun vs H Q _ => ∃ (m t : Addr) (r1 r2 : Str) (rs : List Row) (d : Bool) (ts : List Str), vs = [.ref m, .str r1, .str r2] ∧ MeanAt C CM H m t rs d ts ∧ rs.length ≤ 30 ∧ r1 ∈ rules3 ∧ r2 ∈ rules3 ∧
  ∀ D as H', H D = none → Same H H' → H' D = some (.lst (as.map V.ref)) → PrAt H' as (unlikeL rs d ts r1 r2 (opensL rs)) → Q (.ref D) H'
section
variable {P : Program} {w : World} {K : PySem.W.Frag} {mg : Str → Option Value} {base : Heap} {C CM CL : Addr}
abbrev nUnlike : List Str := ["meaning", "rule", "other", "pairs", "box", "folder", "name"]
theorem sc_unlikeM : FnScope nUnlike ["meaning", "rule", "other"] (defScope s_unlike_moves) := ⟨rfl, rfl, rfl, by decide +kernel, rfl, by decide +kernel, by decide +kernel⟩
theorem ok_unlikeM (D : DefAt K mg "unlike_moves" s_unlike_moves ["meaning", "rule", "other"]) (TC : TxC K mg) (T : TxT K mg C) (M : TxM K mg CM) (Dr : DefAt K mg "check_rule" s_check_rule ["thing"]) (Gr : FnOk P w K mg base CX0 2 Dr.f Dr.fd ["thing"] spRule)
    (Dg : DefAt K mg "goals" s_goals ["tree", "box"]) (Gg : FnOk P w K mg base CX0 6 Dg.f Dg.fd ["tree", "box"] (spGoals C))
    (Dt : DefAt K mg "turns_behind" s_turns_behind ["meaning", "box", "folder", "rule"]) (Gt : FnOk P w K mg base CX0 6 Dt.f Dt.fd ["meaning", "box", "folder", "rule"] (spBehindT C CM))
    (mB : MethAt K C "below" "Tree.below" s_Tree_below ["self", "box"]) (GB : FnOk P w K mg base CX0 5 mB.f mB.fd ["self", "box"] (spListOf C belowL))
    (mP : MethAt K C "price" "Tree.price" s_Tree_price ["self", "box"]) (GP : FnOk P w K mg base CX0 4 mP.f mP.fd ["self", "box"] (spGet C fun r => prV r.pr)) : FnOk P w K mg base CX0 7 D.f D.fd ["meaning", "rule", "other"] (spUnlikeM C CM) := by
  obtain ⟨t1, gT⟩ := TC.top
  refine D.F.ok sc_unlikeM (fun vs H Q E h => ?_) (fun cdv A outer s H vs Q E hr h => ?_)
  · obtain ⟨m, t, r1, r2, rs, d, ts, rfl, _⟩ := h
    rfl
  · obtain ⟨m, t, r1, r2, rs, d, ts, rfl, hm, l30, hr1, hr2, hq⟩ := h
    have r2' : Room 2 _ := hr.mono (by decide)
    have r4 : Room 4 _ := hr.mono (by decide)
    have r5 : Room 5 _ := hr.mono (by decide)
    have hv := hm.tree.val
    obtain ⟨dx, u, k, h1, h2, h3⟩ := id hm.ex
    obtain ⟨tdx, tq, tfo, tk, tp, tqs, g1, _⟩ := id hm.tree.ex
    refine ⟨_, pss_cons (ps_expr (pe_call Gr r2' rfl Dr.g Dr.F.kp Dr.b .nil pass0 (pa_cons (pv 1) pa_nil)))
      (pss_cons (ps_expr (pe_call Gr r2' rfl Dr.g Dr.F.kp Dr.b .nil pass0 (pa_cons (pv 2) pa_nil)))
      (pss_cons (ps_set (i := 3) sc_unlikeM.nd rfl (.inl rfl) (pe_lst pa_nil))
      (pss_cons (ps_for PassesOwn.never rfl (pi_list (pe_lc (own := [("name", 6)]) (g := gName 6) (tt := tTest (tOp (fun x y H Q => y = .non ∧ Q (.bl (!decide (x = .non))) H) (tMeth C "price" (spGet C fun r => prV r.pr) [] E0 (tFld K (tVar 0) "tree") (tCons (tVar 6) tNil)) (tC .non))) (te := tVar 6) rfl sc_unlikeM.nd (pi_list (pe_meth (pe_fld (pv 0) rfl) T.cl mB.m GB r5 mB.b .nil pass0 (pa_cons (pe_glob (by rfl) gT (v := .str ("top" : Str)) ⟨_, rfl⟩) pa_nil))) (blkOk_by (N := nUnlike) (sc := defScope s_unlike_moves) (by decide +kernel))
          (fun _ _ _ _ _ => pg_name (i := 6) sc_unlikeM.nd rfl (Or.inl rfl)) (fun _ _ _ _ _ => by exact pts_one (pt_cmpR op_notN (pe_meth (pe_fld (pv 0) rfl) T.cl mP.m GP r4 mP.b .nil pass0 (pa_cons (pv 6) pa_nil)) pe_non (nomark _))) (fun _ _ _ _ _ => pv 6))) (pg_name (i := 4) sc_unlikeM.nd rfl (.inl rfl))
        (pss_one (ps_for PassesOwn.never rfl (pi_list (pe_call Gg hr rfl Dg.g Dg.F.kp Dg.b .nil pass0 (pa_cons (pe_fld (pv 0) rfl) (pa_cons (pv 4) pa_nil)))) (pg_name (i := 5) sc_unlikeM.nd rfl (.inl rfl))
          (pss_one (ps_if (pt_cmpR op_ne (pe_call Gt hr rfl Dt.g Dt.F.kp Dt.b .nil pass0 (pa_cons (pv 0) (pa_cons (pv 4) (pa_cons (pv 5) (pa_cons (pv 1) pa_nil))))) (pe_call Gt hr rfl Dt.g Dt.F.kp Dt.b .nil pass0 (pa_cons (pv 0) (pa_cons (pv 4) (pa_cons (pv 5) (pa_cons (pv 2) pa_nil))))) (nomark _))
            (pss_one (ps_expr (pe_bm PySem.F.plainAttrs_list PySem.F.slot_list_append PySem.F.type_list_append mt_append (pv 3) (pa_cons (pe_tup (pa_cons (pv 4) (pa_cons (pv 5) pa_nil))) pa_nil)))) pss_nil)))))
      (pss_one (ps_ret (pv 3)))))), ?_⟩
    have noB : (tf tq tfo tk tp).lookup ("below" : Str) = none := tf_no _ _ _ _ (by decide +kernel) (by decide +kernel) (by decide +kernel) (by decide +kernel)
    have noP : (tf tq tfo tk tp).lookup ("price" : Str) = none := tf_no _ _ _ _ (by decide +kernel) (by decide +kernel) (by decide +kernel) (by decide +kernel)
    refine ⟨_, rfl, r1, rfl, hr1, ?_⟩
    refine ⟨_, rfl, r2, rfl, hr2, ?_⟩
    refine ⟨(by show 0 ≤ sizeLine; decide), fun D hD => ?_⟩
    have sD : Same H (upd H D (.lst [])) := Same.new hD
    have eD : (upd H D (.lst [])) D = some (.lst []) := upd_same
    generalize upd H D (.lst []) = H1 at sD eD
    refine ⟨_, rfl, m, CM, dx, _, _, rfl, sD _ _ h1, M.cl, M.nt, mf_t _ _ _ _, t, tdx, _, rfl, sD _ _ g1, noB, t, ("top" : Str), rs, rfl, hm.tree.same sD, .inl rfl, fun al H2 hal s2 e2 => ?_⟩
    rw [below_top hv] at e2
    have sA := sD.trans s2
    refine ⟨al, rfl, ⟨_, SqL.of e2⟩, fun Do hDo => ?_⟩
    have lo : ∀ l : List Row, (opensL l).length ≤ l.length := fun l => by unfold opensL; rw [List.length_map]; exact List.length_filter_le _ _
    refine lc_list (K := K) (a := al) (xs := (names rs).map V.str) (fun i H' => Same H2 H' ∧ H' Do = some (.lst ((opensL (rs.take i)).map V.str))) ⟨Same.new hDo, upd_same⟩ (fun i H' _ m => m.1.seq (SqL.of e2)) ?_ ?_
    · rintro i x H7 hx ⟨s7, e7⟩
      rw [List.getElem?_map] at hx
      obtain ⟨z, hz, rfl⟩ := Option.map_eq_some_iff.mp hx
      obtain ⟨r, hr', rfl, hro⟩ := kind_names hv hz
      have s07 := sA.trans s7
      refine ⟨rfl, _, rfl, m, CM, dx, _, _, rfl, s07 _ _ h1, M.cl, M.nt, mf_t _ _ _ _, t, tdx, _, rfl, s07 _ _ g1, noP, _, rfl, t, r.nm, rs, r, rfl, hm.tree.same s07, hro, rfl, _, rfl, ?_⟩
      have pn : decide (prV r.pr = .non) = decide (r.pr = none) := by
        cases r.pr with
        | none => rfl
        | some n =>
          have e1 : ¬ (prV (some n) = V.non) := fun h => by cases h
          have e2 : ¬ (some n = (none : Option Int)) := fun h => by cases h
          rw [decide_eq_false e1, decide_eq_false e2]
      rw [pn]
      refine ite2 (fun hi => ?_) (fun hi => ?_)
      · have hk : r.pr ≠ none := fun e => by rw [e] at hi; simp at hi
        refine ⟨_, rfl, _, e7, small1000 (by rw [List.length_map]; have := lo (rs.take i); rw [List.length_take] at this; omega), fun b o eb => ?_, ?_⟩
        · rw [upd_ne (fun y => by rw [y, hDo] at eb; cases eb)]
          exact s7 _ _ eb
        · unfold opensL
          rw [upd_same, filter_take hr', if_pos (decide_eq_true hk), List.map_append]; rfl
      · have hk : r.pr = none := Classical.byContradiction fun e => hi (by rw [decide_eq_false e]; rfl)
        refine ⟨s7, ?_⟩
        unfold opensL
        rw [filter_take hr', if_neg (fun q => (of_decide_eq_true q : r.pr ≠ none) hk), List.append_nil]
        exact e7
    rintro H3 ⟨s3, e3⟩
    rw [List.length_map, show (names rs).length = rs.length from by unfold names; rw [List.length_map], List.take_length] at e3
    have sB := sA.trans s3
    have eD3 := s3 _ _ (s2 _ _ eD)
    have hm3 := hm.same sB
    have loR := lo rs
    refine ⟨Do, rfl, ⟨_, SqL.of e3⟩, ?_⟩
    have nDo : Do ≠ D := fun e => by rw [e] at hDo; rw [s2 _ _ eD] at hDo; cases hDo
    refine for_list (K := K) (a := Do) (xs := (opensL rs).map V.str) (fun i σ H' => ∃ (v4 v5 : Option V) (as : List Addr), σ = [some (.ref m), some (.str r1), some (.str r2), some (.ref D), v4, v5, none] ∧ SB D H3 H' ∧ H' D = some (.lst (as.map V.ref)) ∧ PrAt H' as (unlikeL rs d ts r1 r2 ((opensL rs).take i)) ∧ as.length ≤ 31 * i ∧ i ≤ 30) ⟨_, _, [], rfl, SB.refl _ _, eD3, PrAt.nil, Nat.zero_le _, Nat.zero_le _⟩ (fun i σ H' _ ⟨_, _, _, _, s, _⟩ => SqL.of (s _ _ nDo e3)) ?_ ?_
    · rintro i x σ H4 hx ⟨v4, v5, as, rfl, s4, eD4, pr4, ln4, i30⟩
      rw [List.getElem?_map] at hx
      obtain ⟨z, hzi, rfl⟩ := Option.map_eq_some_iff.mp hx
      have hi : i < 30 := by
        have := (List.getElem?_eq_some_iff.mp hzi).1
        omega
      have hz : z ∈ names rs := by
        obtain ⟨r, hr', e⟩ := List.mem_map.mp (List.mem_of_getElem? hzi)
        exact List.mem_map.mpr ⟨r, (List.mem_filter.mp hr').1, e⟩
      have hm4 := hm3.sb eD3 s4
      obtain ⟨dx4, u4, k4, h14, _⟩ := id hm4.ex
      obtain ⟨tdx4, _, _, _, _, _, g14, _⟩ := id hm4.tree.ex
      refine ⟨_, rfl, m, CM, dx4, _, _, rfl, h14, M.cl, M.nt, mf_t _ _ _ _, _, rfl, t, z, rs, rfl, hm4.tree, hz, fun G H5 hG s5 e5 => ⟨G, rfl, ⟨_, SqL.of e5⟩, ?_⟩⟩
      have nG : G ≠ D := fun e => by rw [e, eD4] at hG; cases hG
      have eD5 := s5 _ _ eD4
      have pr5 := pr4.keep (H' := H5) fun b xs e => s5 _ _ e
      have hm5 := hm4.same s5
      have lgl := goalsL_len rs z
      refine for_list (K := K) (a := G) (xs := (goalsL rs z).map V.str) (fun j σ H' => ∃ (v5 : Option V) (as : List Addr), σ = [some (.ref m), some (.str r1), some (.str r2), some (.ref D), some (.str z), v5, none] ∧ SB D H5 H' ∧ H' D = some (.lst (as.map V.ref)) ∧ PrAt H' as (unlikeL rs d ts r1 r2 ((opensL rs).take i) ++ pairsOf rs d ts r1 r2 z ((goalsL rs z).take j)) ∧ as.length ≤ 31 * i + j) ⟨_, as, rfl, SB.refl _ _, eD5, by rw [List.take_zero]; unfold pairsOf; rw [List.filter_nil, List.map_nil, List.append_nil]; exact pr5, by omega⟩ (fun j σ H' _ ⟨_, _, _, s, _⟩ => SqL.of (s _ _ nG e5)) ?_ ?_
      · rintro j y σ H6 hy ⟨v5', as6, rfl, s6, eD6, pr6, ln6⟩
        rw [List.getElem?_map] at hy
        obtain ⟨f, hfj, rfl⟩ := Option.map_eq_some_iff.mp hy
        have hj := (List.getElem?_eq_some_iff.mp hfj).1
        have hm6 := hm5.sb eD5 s6
        have pf := goals_place (List.mem_of_getElem? hfj)
        refine ⟨_, rfl, _, rfl, _, rfl, _, rfl, m, t, z, f, r1, rs, d, ts, rfl, hm6, .inr hz, pf, hr1, _, rfl, _, rfl, _, rfl, _, rfl, m, t, z, f, r2, rs, d, ts, rfl, hm6, .inr hz, pf, hr2, rfl, _, rfl, ?_⟩
        have ap : (!decide (V.bl (needs rs d ts z f r1) = V.bl (needs rs d ts z f r2))) = apart rs d ts r1 r2 z f := by
          unfold apart
          cases needs rs d ts z f r1 <;> cases needs rs d ts z f r2 <;> rfl
        rw [ap]
        refine ite2 (fun hc => ?_) (fun hc => ?_)
        · refine ⟨_, rfl, .inl ⟨rfl, _, SqL.of eD6⟩, _, rfl, _, rfl, (by show 2 ≤ sizeLine; decide), fun q hq => ⟨D, _, _, rfl, rfl, (Same.new hq) _ _ eD6, small1000 (by rw [List.length_map]; omega), ?_⟩⟩
          have nq : q ≠ D := fun e => by rw [e, eD6] at hq; cases hq
          refine ⟨_, as6 ++ [q], rfl, fun b o nb e => ?_, by rw [upd_same, List.map_append]; rfl, ?_, by rw [List.length_append]; show _ + 1 ≤ _; omega⟩
          · rw [upd_ne nb]; exact (Same.new hq) _ _ (s6 b o nb e)
          · rw [pairsOf_more hfj, if_pos hc, ← List.append_assoc]
            refine PrAt.snoc (pr6.keep fun b xs e => ?_) ?_
            · rw [upd_ne (fun z => by rw [z, eD6] at e; cases e)]
              exact (Same.new hq) _ _ e
            · rw [upd_ne nq]; exact upd_same
        · refine ⟨_, as6, rfl, s6, eD6, ?_, by omega⟩
          rw [pairsOf_more hfj, if_neg hc, List.append_nil]
          exact pr6
      · rintro σ H6 ⟨v5', as6, rfl, s6, eD6, pr6, ln6⟩
        rw [List.length_map] at ln6 pr6
        rw [List.take_length] at pr6
        refine ⟨_, _, as6, rfl, fun b o nb e => s6 b o nb (s5 _ _ (s4 b o nb e)), eD6, ?_, by omega, by omega⟩
        rw [unlikeL_more hzi]
        exact pr6
    rintro σ H4 ⟨v4, v5, as, rfl, s4, eD4, pr4, _⟩
    rw [List.length_map, List.take_length] at pr4
    refine ⟨_, rfl, hq D as H4 hD (fun b o e => s4 b o (ne_of_none e hD) (sB b o e)) eD4 pr4⟩
end
end Ts

set_option maxRecDepth 100000
set_option maxHeartbeats 4000000
namespace L2
open PySem PySem.Spec PyProof.Rows
/-! ### whether any thing is in a list or tuple of texts -/
theorem rc_str_dict {A : Around} {s : Shared} {l : Addr} {es : Array DictEntry} {ep : Nat} {dd : Option Addr} {sl : Array (Option Value)} (b : Str) (u : Tok) (ho : s.heap.get? l = some { cls := .type "dict", dict := dd, data := .dict es ep, slots := sl }) (hu : A.units < cLine) : SeqAt.RcAt A s (.str b u) (.ref l) false := fun prog w E Q h =>
  SeqAt.rc_eq_decline_or (k := false) (typeIs_str s b u) ⟨_, ho, rfl⟩ (by decide) F.sub_dict_str F.slot_str_eq F.slot_dict_eq_refl
    (fun _ hq => call_meets F.slot_str_eq (typeIs_str s b u) F.entry_str_eq (F.args_str_eq_2 _ _) (str_eq_no_dict b u l (.type "dict") es ep dd sl) ⟨ho, hq⟩)
    (fun _ hq => call_meets F.slot_dict_eq_refl ⟨_, ho, rfl⟩ F.entry_dict_eq (F.args_dict_eq_2 _ _) (dict_eq_no_str l _ b u) ⟨ho, rfl, hq⟩)
    (fun _ hq => wpAny_of_eq (rfl : isSame (.str b u) (.ref l) = pure false) hq) (.inr hu) h
theorem eqAt_str_dict {A : Around} {s : Shared} {l : Addr} {es : Array DictEntry} {ep : Nat} {dd : Option Addr} {sl : Array (Option Value)} (b : Str) (u : Tok) (ho : s.heap.get? l = some { cls := .type "dict", dict := dd, data := .dict es ep, slots := sl }) (hu : A.units < cLine) : SeqAt.EqAt A s (.str b u) (.ref l) false := fun prog w E Q h => by
  unfold eqBool
  refine wpAny_holding (wpAny_ite_split (fun same => absurd (eq_of_beq same) nofun) fun _ => ?_)
  exact wpAny_bind (rc_str_dict b u ho hu prog w E _ (wpAny_truthy_bool h))
section
variable {X : Cx} {pins : List (Addr × Obj)} {σ : St} {H : Hp} {s : Shared}
/-- a text and a thing that is none -/
theorem odd_eqAt (I : Inv X pins σ H s) {A : Around} {x : V} {v : Value} (h : OddV X.K H x) (r : RelV x v) (z : Str) (t : Tok) (hu : A.units < cLine) : SeqAt.EqAt A s (.str z t) v false := by
  rcases h with rfl | ⟨i, rfl⟩ | ⟨b, rfl⟩ | ⟨a, xs, rfl, ha⟩ | ⟨a, xs, rfl, ha⟩ | ⟨a, kvs, rfl, ha⟩
  · cases r
    exact SeqAt.EqAt.str_none z t
  · obtain ⟨t2, rfl⟩ := r
    exact SeqAt.EqAt.str_int z t i t2
  · cases r
    exact SeqAt.EqAt.str_bool z t b
  · cases r
    obtain ⟨its, _, p, _⟩ := I.list ha
    exact SeqAt.EqAt.str_list z t p.isList hu
  · cases r
    obtain ⟨its, _, p, _⟩ := I.tuple ha
    exact SeqAt.EqAt.str_tuple z t p hu
  · cases r
    obtain ⟨_, _, vs, _, dd⟩ := (show ObjOk X.prog X.w H s.heap a (.dK kvs) from I.hok a _ ha)
    obtain ⟨⟨cls, dd, data, sl⟩, es, ep, ho, hx, hd, _⟩ := dd
    obtain ⟨h1, h2⟩ := hx
    simp only at h1 hd
    subst h1 hd
    exact eqAt_str_dict z t ho hu
def eqStr (z : Str) : Value → Bool
  | .str y _ => y == z
  | _ => false
theorem any_eqStr (z : Str) : ∀ {ns : List Str} {us : List Value}, Vals (ns.map V.str) us → us.any (eqStr z) = decide (z ∈ ns)
  | [], _, h => by cases h; rfl
  | n :: ns, _, h => by
    cases h with
    | cons r1 r2 =>
      obtain ⟨t, rfl⟩ := r1
      rw [List.any_cons, any_eqStr z r2]
      show (n == z || decide (z ∈ ns)) = decide (z ∈ n :: ns)
      by_cases e : n = z
      · rw [decide_eq_true (show z ∈ n :: ns from by rw [e]; exact List.mem_cons_self ..), show (n == z) = true from beq_iff_eq.mpr e, Bool.true_or]
      · rw [show (n == z) = false from beq_eq_false_iff_ne.mpr e, Bool.false_or]
        exact decide_eq_decide.mpr ⟨fun h => List.mem_cons_of_mem _ h, fun h => (List.mem_cons.mp h).resolve_left fun q => e q.symm⟩
/-- x in ts, x not in ts -/
def rInOdd (K : PySem.W.Frag) (neg : Bool) : R2 := fun x y H Q => ∃ (p : Addr) (ns : List Str), y = .ref p ∧ (SqL K H p (ns.map V.str) ∨ SqT K H p (ns.map V.str)) ∧ ((∃ z, x = .str z ∧ Q (.bl (neg != decide (z ∈ ns))) H) ∨ (OddV K H x ∧ Q (.bl neg) H))
end
section
variable {X : Cx}
theorem op_inOdd (hu : X.A.units + 1 < cLine) : OpR X (compareOp .In) (rInOdd X.K false) := by
  intro pins s σ H x y v u Q I rx ry h
  obtain ⟨p, ns, rfl, hq, h⟩ := h
  cases ry
  have hu1 : X.A.in1.units < cLine := hu
  rcases h with ⟨z, rfl, q⟩ | ⟨hx, q⟩
  · obtain ⟨t, rfl⟩ := rx
    have q' : Q (.bl (decide (z ∈ ns))) H := by rw [Bool.false_bne] at q; exact q
    rcases hq with hq | hq
    · obtain ⟨its, r, pl, hz⟩ := I.list hq
      refine SeqAt.in_listAt (eqStr z) pl.isList (fun w hw => ?_) ⟨.bl _, H, I, rfl, ?_⟩
      · obtain ⟨z', t', rfl⟩ := strs_ofV r w (by simpa using hw)
        exact SeqAt.EqAt.str_str z' t' z t
      · rw [show its.toArray.any (eqStr z) = its.any (eqStr z) by simp, any_eqStr z r]; exact q'
    · obtain ⟨its, r, pl, hz⟩ := I.tuple hq
      refine SeqAt.in_tupleAt (eqStr z) pl (fun w hw => ?_) ⟨.bl _, H, I, rfl, ?_⟩
      · obtain ⟨z', t', rfl⟩ := strs_ofV r w (by simpa using hw)
        exact SeqAt.EqAt.str_str z' t' z t
      · rw [show its.toArray.any (eqStr z) = its.any (eqStr z) by simp, any_eqStr z r]; exact q'
  · have none_ : ∀ its : List Value, its.toArray.any (fun _ => false) = false := fun its => by simp
    rcases hq with hq | hq
    · obtain ⟨its, r, pl, hz⟩ := I.list hq
      refine SeqAt.in_listAt (fun _ => false) pl.isList (fun w hw => ?_) ⟨.bl _, H, I, rfl, ?_⟩
      · obtain ⟨z', t', rfl⟩ := strs_ofV r w (by simpa using hw)
        exact odd_eqAt I hx rx z' t' hu1
      · rw [none_]; exact q
    · obtain ⟨its, r, pl, hz⟩ := I.tuple hq
      refine SeqAt.in_tupleAt (fun _ => false) pl (fun w hw => ?_) ⟨.bl _, H, I, rfl, ?_⟩
      · obtain ⟨z', t', rfl⟩ := strs_ofV r w (by simpa using hw)
        exact odd_eqAt I hx rx z' t' hu1
      · rw [none_]; exact q
theorem op_notinOdd (hu : X.A.units + 1 < cLine) : OpR X (compareOp .NotIn) (rInOdd X.K true) := by
  intro pins s σ H x y v u Q I rx ry h
  obtain ⟨p, ns, rfl, hq, h⟩ := h
  cases ry
  have hu1 : X.A.in1.units < cLine := hu
  rcases h with ⟨z, rfl, q⟩ | ⟨hx, q⟩
  · obtain ⟨t, rfl⟩ := rx
    have q' : Q (.bl (!decide (z ∈ ns))) H := by rw [Bool.true_bne] at q; exact q
    rcases hq with hq | hq
    · obtain ⟨its, r, pl, hz⟩ := I.list hq
      refine SeqAt.notIn_listAt (eqStr z) pl.isList (fun w hw => ?_) ⟨.bl _, H, I, rfl, ?_⟩
      · obtain ⟨z', t', rfl⟩ := strs_ofV r w (by simpa using hw)
        exact SeqAt.EqAt.str_str z' t' z t
      · rw [show its.toArray.any (eqStr z) = its.any (eqStr z) by simp, any_eqStr z r]; exact q'
    · obtain ⟨its, r, pl, hz⟩ := I.tuple hq
      refine SeqAt.notIn_tupleAt (eqStr z) pl (fun w hw => ?_) ⟨.bl _, H, I, rfl, ?_⟩
      · obtain ⟨z', t', rfl⟩ := strs_ofV r w (by simpa using hw)
        exact SeqAt.EqAt.str_str z' t' z t
      · rw [show its.toArray.any (eqStr z) = its.any (eqStr z) by simp, any_eqStr z r]; exact q'
  · have none_ : ∀ its : List Value, its.toArray.any (fun _ => false) = false := fun its => by simp
    rcases hq with hq | hq
    · obtain ⟨its, r, pl, hz⟩ := I.list hq
      refine SeqAt.notIn_listAt (fun _ => false) pl.isList (fun w hw => ?_) ⟨.bl _, H, I, rfl, ?_⟩
      · obtain ⟨z', t', rfl⟩ := strs_ofV r w (by simpa using hw)
        exact odd_eqAt I hx rx z' t' hu1
      · rw [none_]; exact q
    · obtain ⟨its, r, pl, hz⟩ := I.tuple hq
      refine SeqAt.notIn_tupleAt (fun _ => false) pl (fun w hw => ?_) ⟨.bl _, H, I, rfl, ?_⟩
      · obtain ⟨z', t', rfl⟩ := strs_ofV r w (by simpa using hw)
        exact odd_eqAt I hx rx z' t' hu1
      · rw [none_]; exact q
end
end L2

set_option maxRecDepth 100000
set_option maxHeartbeats 4000000
namespace Ts
open PySem L2
/-! ### moves that are refused -/
def OddR (K : PySem.W.Frag) (H : Hp) (x : V) : Prop := (∃ z : Str, x = .str z ∧ z ∉ rules3) ∨ OddV K H x
def BlkM (rs : List Row) (m : Row) (fo : Str) : Prop := ∃ q ∈ rs, q.nm = fo ∧ (q.ki = ("folder" : Str) → under rs m.nm q = true)
def spRuleX (K : PySem.W.Frag) (CU : Addr) : Sp := fun vs H Q E => ∃ x, vs = [x] ∧ OddR K H x ∧ ∀ d H', H d = none → Same H H' → H' d = some (.xd [("rule", x)]) → E (.ref CU) (some d) H'
/-- which error of a move -/
def MovE (K : PySem.W.Frag) (CN CM2 : Addr) (H : Hp) (rs : List Row) (x y : V) (E : XK) : Prop :=
  (OddN K H rs x ∧ ∀ d H', H d = none → Same H H' → H' d = some (.xd [("box", x)]) → E (.ref CN) (some d) H') ∨
  ((∃ z : Str, x = .str z ∧ z ∈ names rs) ∧ OddP K H rs y ∧ ∀ d H', H d = none → Same H H' → H' d = some (.xd [("box", y)]) → E (.ref CN) (some d) H') ∨
  ∃ (m : Row) (fo : Str), x = .str m.nm ∧ y = .str fo ∧ m ∈ rs ∧ BlkM rs m fo ∧ ∀ d H', H d = none → Same H H' → H' d = some (.xd [("into", y), ("box", x)]) → E (.ref CM2) (some d) H'
def spMovedR (K : PySem.W.Frag) (C CM CN CM2 CU : Addr) : Sp := fun vs H Q E => ∃ (m t : Addr) (x y r : V) (rs : List Row) (d : Bool) (ts : List Str), vs = [.ref m, x, y, r] ∧ MeanAt C CM H m t rs d ts ∧
  (MovE K CN CM2 H rs x y E ∨ ∃ (b : Row) (fo : Str), x = .str b.nm ∧ y = .str fo ∧ LetM rs b fo ∧ (∀ H', Same H H' → OddR K H' r) ∧ ∀ d H', H d = none → Same H H' → H' d = some (.xd [("rule", r)]) → E (.ref CU) (some d) H')
def spUnlikeX (K : PySem.W.Frag) (CU : Addr) : Sp := fun vs H Q E => ∃ (m r1 r2 o : V), vs = [m, r1, r2] ∧ ((o = r1 ∧ OddR K H r1) ∨ (o = r2 ∧ (∃ z : Str, r1 = .str z ∧ z ∈ rules3) ∧ OddR K H r2)) ∧ ∀ d H', H d = none → Same H H' → H' d = some (.xd [("rule", o)]) → E (.ref CU) (some d) H'
section
variable {P : Program} {w : World} {K : PySem.W.Frag} {mg : Str → Option Value} {base : Heap} {C CM CL CN CM2 CU : Addr}
theorem ok_ruleX {fU : Addr} {fdU : FuncData} (D : DefAt K mg "check_rule" s_check_rule ["thing"]) (TV : TxV K mg) (TU : ErrT K mg CU "BadRule" "rule") (iU : PySem.W.findIn K (.ref CU) "__init__" = some (some (.ref fU))) (tU : PySem.W.typeIn K (.ref fU) = some (.type "function")) (GU : FnOk P w K mg base CX0 2 fU fdU ["self", "rule"] (spErr1 CU "rule")) (bU : Binds K fdU ["self", "rule"] []) :
    FnOk P w K mg base (L2.CX P w) 4 D.f D.fd ["thing"] (spRuleX K CU) := by
  refine D.F.okX sc_rule (fun vs H Q E h => ?_) (fun cdv A outer s H vs Q E hr h => ?_)
  · obtain ⟨x, rfl, _⟩ := h
    rfl
  · obtain ⟨x, rfl, hx, hE⟩ := h
    have h64 := hr.units
    refine ⟨_, pss_one (ps_if (pt_cmpR (op_notinOdd (Nat.lt_of_le_of_lt (Nat.add_le_add_left (by decide) _) h64)) (pv 0) (pe_glob (by rfl) TV.rules (v := .ref TV.rulesA) rfl) (by rfl)) (pss_one (ps_raise rfl (takes_of rfl rfl rfl rfl) (pmk_oex TU.O iU tU GU hr bU .nil pass0 rfl TU.g (by exact pa_cons (pv 0) pa_nil)))) pss_nil), ?_⟩
    have fin := fun (Q' : VK) => (rd_err1 (CC := CU) (fn := "rule") (H1 := H) (x := x) (Q := E) fun d hd => hE d _ hd (Same.new hd) upd_same)
    refine ⟨_, rfl, TV.rulesA, rules3, rfl, .inr (.inr TV.rulesT), ?_⟩
    rcases hx with ⟨z, rfl, hz⟩ | hx
    · refine .inl ⟨z, rfl, _, rfl, ?_⟩
      rw [decide_eq_false hz]
      exact iteT ⟨_, rfl, fin (fun _ _ => True)⟩
    · exact .inr ⟨hx, _, rfl, iteT ⟨_, rfl, fin (fun _ _ => True)⟩⟩
theorem ok_movedR (D : DefAt K mg "moved" s_moved ["meaning", "box", "folder", "rule"]) (T : TxT K mg C) (M : TxM K mg CM) (mMv : MethAt K C "moved" "Tree.moved" s_Tree_moved ["self", "box", "folder"]) (GMv : FnOk P w K mg base CX0 7 mMv.f mMv.fd ["self", "box", "folder"] (spMoved C)) (XMv : FnOk P w K mg base (L2.CX P w) 7 mMv.f mMv.fd ["self", "box", "folder"] (spMovedX K C CN CM2))
    (Dr : DefAt K mg "check_rule" s_check_rule ["thing"]) (Xr : FnOk P w K mg base (L2.CX P w) 4 Dr.f Dr.fd ["thing"] (spRuleX K CU)) : FnOk P w K mg base (L2.CX P w) 9 D.f D.fd ["meaning", "box", "folder", "rule"] (spMovedR K C CM CN CM2 CU) := by
  have G1 := fn_or (k := 7) (by decide) (by decide) GMv XMv
  refine D.F.okX sc_movedM (fun vs H Q E h => ?_) (fun cdv A outer s H vs Q E hr h => ?_)
  · obtain ⟨m, t, x, y, r, rs, d, ts, rfl, _⟩ := h
    rfl
  · obtain ⟨m, t, x, y, r, rs, d, ts, rfl, hm, h⟩ := h
    obtain ⟨dx, u, k, h1, h2, h3⟩ := id hm.ex
    obtain ⟨tdx, tq, tfo, tk, tp, tqs, g1, _⟩ := id hm.tree.ex
    refine ⟨_, pss_cons (ps_set (i := 4) sc_movedM.nd rfl (.inl rfl) (pe_meth (pe_fld (pv 0) rfl) T.cl mMv.m G1 (hr.mono (by decide)) mMv.b .nil (passes_call (takes_of rfl rfl rfl rfl) (fun _ _ _ _ h => h)) (pa_cons (pv 1) (pa_cons (pv 2) pa_nil))))
      (pss_cons (ps_expr (pe_call Xr (hr.mono (by decide)) rfl Dr.g Dr.F.kp Dr.b .nil (passes_call (takes_of rfl rfl rfl rfl) (fun _ _ _ _ h => h)) (pa_cons (pv 3) pa_nil))) pss_never), ?_⟩
    have noM : (tf tq tfo tk tp).lookup ("moved" : Str) = none := tf_no _ _ _ _ (by decide +kernel) (by decide +kernel) (by decide +kernel) (by decide +kernel)
    refine ⟨_, rfl, m, CM, dx, _, _, rfl, h1, M.cl, M.nt, mf_t _ _ _ _, t, tdx, _, rfl, g1, noM, _, rfl, _, rfl, ?_⟩
    rcases h with h | ⟨b, fo, rfl, rfl, hl, hr2, hE⟩
    · exact .inr ⟨t, x, y, rs, rfl, hm.tree, h⟩
    · exact .inl ⟨t, b, fo, rs, rfl, hm.tree, hl.1, hl.2, fun v H1 s1 _ => ⟨_, rfl, r, rfl, hr2 _ s1, fun d H' hd s e => hE d H' (s1.free hd) (s1.trans s) e⟩⟩
theorem ok_backR (D : DefAt K mg "back" s_back ["meaning", "box", "folder", "rule"]) (Dm : DefAt K mg "moved" s_moved ["meaning", "box", "folder", "rule"]) (Gm : FnOk P w K mg base (L2.CX P w) 9 Dm.f Dm.fd ["meaning", "box", "folder", "rule"] (spMovedR K C CM CN CM2 CU)) : FnOk P w K mg base (L2.CX P w) 10 D.f D.fd ["meaning", "box", "folder", "rule"] (spMovedR K C CM CN CM2 CU) := by
  refine D.F.okX sc_back (fun vs H Q E h => ?_) (fun cdv A outer s H vs Q E hr h => ?_)
  · obtain ⟨m, t, x, y, r, rs, d, ts, rfl, _⟩ := h
    rfl
  · obtain ⟨m, t, x, y, r, rs, d, ts, rfl, h⟩ := h
    refine ⟨_, pss_cons (ps_set (i := 4) sc_back.nd rfl (.inl rfl) (pe_call Gm hr rfl Dm.g Dm.F.kp Dm.b .nil (passes_call (takes_of rfl rfl rfl rfl) (fun _ _ _ _ h => h)) (pa_cons (pv 0) (pa_cons (pv 1) (pa_cons (pv 2) (pa_cons (pv 3) pa_nil)))))) pss_never, ?_⟩
    exact ⟨_, rfl, _, rfl, _, rfl, _, rfl, m, t, x, y, r, rs, d, ts, rfl, h⟩
theorem ok_unlikeX (D : DefAt K mg "unlike_moves" s_unlike_moves ["meaning", "rule", "other"]) (Dr : DefAt K mg "check_rule" s_check_rule ["thing"]) (Gr : FnOk P w K mg base CX0 2 Dr.f Dr.fd ["thing"] spRule) (Xr : FnOk P w K mg base (L2.CX P w) 4 Dr.f Dr.fd ["thing"] (spRuleX K CU)) : FnOk P w K mg base (L2.CX P w) 5 D.f D.fd ["meaning", "rule", "other"] (spUnlikeX K CU) := by
  have G1 := fn_or (k := 4) (by decide) (by decide) Gr Xr
  refine D.F.okX sc_unlikeM (fun vs H Q E h => ?_) (fun cdv A outer s H vs Q E hr h => ?_)
  · obtain ⟨m, r1, r2, o, rfl, _⟩ := h
    rfl
  · obtain ⟨m, r1, r2, o, rfl, h, hE⟩ := h
    refine ⟨_, pss_cons (ps_expr (pe_call G1 hr rfl Dr.g Dr.F.kp Dr.b .nil (passes_call (takes_of rfl rfl rfl rfl) (fun _ _ _ _ h => h)) (pa_cons (pv 1) pa_nil)))
      (pss_cons (ps_expr (pe_call G1 hr rfl Dr.g Dr.F.kp Dr.b .nil (passes_call (takes_of rfl rfl rfl rfl) (fun _ _ _ _ h => h)) (pa_cons (pv 2) pa_nil))) pss_never), ?_⟩
    rcases h with ⟨rfl, hx⟩ | ⟨rfl, ⟨z, rfl, hz⟩, hx⟩
    · exact ⟨_, rfl, .inr ⟨o, rfl, hx, hE⟩⟩
    · exact ⟨_, rfl, .inl ⟨z, rfl, hz, ⟨_, rfl, .inr ⟨o, rfl, hx, hE⟩⟩⟩⟩
end
end Ts

set_option maxRecDepth 100000
set_option maxHeartbeats 4000000
namespace L2
open PySem PySem.Spec PyProof.Rows
/-! ### several clauses, each with a name: except A as e: .. except B as e: .. -/
abbrev AsClause := Value × Option Nat × (Addr → Value → Option Addr → TS)
/-- behind its suite the clause's name is gone -/
def unAs1 (i : Nat) (D : Ends) : Ends where
  nx := fun u v => D.nx (u.set i none) v
  rt := D.rt
  bk := fun u v => D.bk (u.set i none) v
  ct := fun u v => D.ct (u.set i none) v
def unAs : Option Nat → Ends → Ends
  | none, D => D
  | some i, D => unAs1 i D
def putAs : Option Nat → Addr → St → St
  | none, _, u => u
  | some i, p, u => u.set i (some (.ref p))
def wAsM (K : PySem.W.Frag) (W0 : WX) (D : Ends) : List AsClause → WX
  | [] => W0
  | q :: rest => fun cl od u v => ∃ y, PySem.W.exmOne K cl q.1 = some y ∧ (y = true → ∀ p, v p = none → q.2.2 p cl od (unAs q.2.1 D) (putAs q.2.1 p u) v) ∧ (y = false → wAsM K W0 D rest cl od u v)
inductive AsOk (X : Cx) : List ExceptHandler → List AsClause → Prop
  | nil : AsOk X [] []
  | cons {cn en : Str} {cv : Value} {k : Nat} {act : Addr → Value → Option Addr → TS} {st : Stmt} {sts : List Stmt} {p1 p2 : Pos} {more : List ExceptHandler} {l : List AsClause}
      (slot : X.N[k]? = some en) (own : X.env.kindOf en = some .local) (nm : Names X cn cv)
      (run : ∀ (p : Addr) (ob : Obj) (cl : Value) (od : Option Addr) (pn : List (Addr × Obj)), Zc cl od ob → (∃ fs, ob.data = .fields fs) → PSs (X.suite p ((p, ob) :: pn)) (st :: sts) (act p cl od))
      (rest : AsOk X more l) : AsOk X (.ExceptHandler (some (.Name cn p1)) (some en) (st :: sts) p2 :: more) ((cv, some k, act) :: l)
  | bare {cn : Str} {cv : Value} {act : Addr → Value → Option Addr → TS} {st : Stmt} {sts : List Stmt} {p1 p2 : Pos} {more : List ExceptHandler} {l : List AsClause} (nm : Names X cn cv)
      (run : ∀ (p : Addr) (ob : Obj) (cl : Value) (od : Option Addr) (pn : List (Addr × Obj)), Zc cl od ob → (∃ fs, ob.data = .fields fs) → PSs (X.suite p ((p, ob) :: pn)) (st :: sts) (act p cl od))
      (rest : AsOk X more l) : AsOk X (.ExceptHandler (some (.Name cn p1)) none (st :: sts) p2 :: more) ((cv, none, act) :: l)
section
variable {X : Cx} {ss : List Stmt} {hd : ExceptHandler} {hs : List ExceptHandler} {cls : List AsClause} {pos : Pos} {tb : WX → TS} {W0 : WX}
theorem ps_try_asm (st1 : X.stack = X.env :: X.outer) (fr1 : X.env.frame = some X.env.locals) (nd : X.N.Nodup) (take : Takes X W0)
    (try_ : ∀ (V : WX) (ps : List (Addr × Obj)) (ex : Value → Shared → Prop), Takes (X.tr ps ex) V → PassesOwn (model X.prog X.w) X.A X.env ex → PSs (X.tr ps ex) ss (tb V))
    (all : AsOk X (hd :: hs) cls) : PS X (.Try ss (hd :: hs) [] [] pos) (fun D u v => tb (wAsM X.K W0 D cls) D u v) := by
  refine ⟨fun pins s0 u0 v0 D inv want => ?_⟩
  have rdy := inv.ok
  have frames_ : X.A.frames = some (X.env :: X.outer) := by rw [rdy.frames, st1]
  refine wpAny_Try_except ?_
  refine wpAny_mono ((try_ (wAsM X.K W0 D cls) (X.pn ++ pins)
      (fun er z1 => wpAny (model X.prog X.w) X.A (noteFrame er X.env)
        (fun _ z2 => wpAny (model X.prog X.w) X.A (setFlight er none)
          (fun _ z3 => wpAny (model X.prog X.w) X.A (handleBy er X.env (hd :: hs)) (SP X pins D) X.xe z3) X.xe z2) X.xe z1)
      (fun er z1 caught => ?_) PassesOwn.looking).run [] s0 u0 v0 D (inv.toTry _) want) (fun fl z1 went => ?_) (fun _ _ z => z)
  · -- an error of the body
    obtain ⟨p, B, sX, pinsX, u1, v1, cl, od, rfl, invT, nb, grew, sky0, np, os0, ag0, wish⟩ := caught
    have invJ : Inv X pins u1 v1 sX := invT.ofTry rdy
    have sky1 : Sky B (X.env :: X.outer) p (Zc cl od) X.env.locals z1.heap := by
      rw [← st1]
      exact sky0
    show wpAny (model X.prog X.w) X.A (noteFrame (.ref p) X.env) _ _ _
    refine Sky.land Zc.steady frames_ fr1 sky1 fun g3 lands3 grew3 => ?_
    have inv3 : Inv X pins u1 v1 { z1 with heap := g3 } := invJ.landed nb lands3.1 (grew.trans grew3) os0 ag0
    obtain ⟨ob3, fs3, get3, zc3, dat3⟩ := lands3.there
    have away : ∀ {h : Heap} {o : Obj} {w : Array Value}, h.FunFrames B (X.env :: X.outer) → h.get? p = some o → o.data = .fields w → p ∉ frs (X.env :: X.outer) := by
      intro h o w ff ge da mem
      obtain ⟨_, o1, ge1, no1⟩ := ff.mem mem
      rw [ge] at ge1
      cases ge1
      exact no1 _ da
    have offAll := away lands3.2.2.1 get3 dat3
    have offL : p ≠ X.env.locals := by
      intro same
      exact offAll (List.mem_filterMap.mpr ⟨X.env, List.mem_cons_self, by rw [fr1, same]⟩)
    have offF : p ∉ X.fs := by
      intro mem
      obtain ⟨en, hen, qen⟩ := List.mem_filterMap.mp mem
      exact offAll (List.mem_filterMap.mpr ⟨en, List.mem_cons_of_mem _ hen, qen⟩)
    have invS := inv3.suite get3 dat3 np offL offF
    have each : ∀ {hh : List ExceptHandler} {ll : List AsClause}, AsOk X hh ll → wAsM X.K W0 D ll cl od u1 v1 → wpAny (model X.prog X.w) X.A (handleBy (.ref p) X.env hh) (SP X pins D) X.xe { z1 with heap := g3 } := by
      intro hh ll ok
      induction ok with
      | nil =>
        intro last
        refine wpAny_handleBy_nil ?_
        obtain ⟨_, _, _, ob, fs, T, oT, tk1, g1, g2, g4, g5, _⟩ := id lands3
        unfold PySem.passOn
        refine wpAny_bind (wpAny_field g1 g4 g5 ?_)
        rw [if_neg (show ¬ ((Value.ref T == Value.none) = true) by simp)]
        have done_ : wpAny (model X.prog X.w) X.A (setFlight (.ref p) X.env.frame)
            (fun _ z4 => wpAny (model X.prog X.w) X.A (throw (.ref p) : Sem Flow) (SP X pins D) X.xe z4) X.xe { z1 with heap := g3 } := by
          rw [fr1]
          refine HandSPX.setFlight_upZ lands3 fun g6 land6 grew6 => wpAny_throw (take _ _ ?_)
          exact ⟨p, B, sX, pins, u1, v1, cl, od, rfl, invJ, nb, (grew.trans grew3).trans grew6, .inr (.inr (by rw [st1]; exact land6)), np, os0, ag0, last⟩
        first
          | exact wpAny_bind (wpAny_pure (wpAny_bind done_))
          | exact wpAny_bind done_
      | @cons cn en cv k act st sts p1 p2 more l slot own nm run rest ih =>
        intro wants
        obtain ⟨y, is_, yes, no⟩ := wants
        refine wpAny_handleBy_cons (codeAny_handlers_test ?_) (by intro q; cases q)
        have looks : PySem.W.Looks (model X.prog X.w) g3 (typeOf (.ref p)) cl := fun A Q E z keep q => wpAny_typeOf_ref (keep _ _ get3) (by rw [zc3.1]; exact q)
        have meets_ := PySem.W.exm_one (M := model X.prog X.w) (inv3.kIn) looks is_
        have ask : ∀ {Q E : Value → Shared → Prop}, Q cv { z1 with heap := g3 } → wpAny (model X.prog X.w) (X.A.mark (some (.ref p))) (eval (.Name cn p1) X.env) Q E { z1 with heap := g3 } := by
          intro Q E q
          obtain ⟨isG, dbg, atM | ⟨atM, atB, notN⟩⟩ := nm
          · exact ld_glob (X := X.suite p ((p, ob3) :: (X.pn ++ pins))) invS isG atM q dbg
          · exact ld_blt (X := X.suite p ((p, ob3) :: (X.pn ++ pins))) invS isG atM atB q notN dbg
        refine ask (meets_.here ?_)
        cases y with
        | false =>
          show wpAny _ X.A (handleBy (.ref p) X.env more) _ _ _
          exact ih (no rfl)
        | true =>
          refine codeAny_handlers_suite_as ?_
          refine HandSPX.lands_againZ lands3 fun g4 lands4 grew4 => ?_
          have inv4 : Inv X pins u1 v1 { z1 with heap := g4 } := invJ.landed nb lands4.1 ((grew.trans grew3).trans grew4) os0 ag0
          obtain ⟨ob4, fs4, get4, zc4, dat4⟩ := lands4.there
          have invS4 := inv4.suite get4 dat4 np offL offF
          refine store_ok (X := X.suite p ((p, ob4) :: (X.pn ++ pins))) (v := .ref p) invS4 nd slot (.inl own) rfl (fun z5 inv5 => ?_) (.inr own)
          refine wpAny_mono ((run p ob4 cl od (X.pn ++ pins) zc4 ⟨_, dat4⟩).run [] z5 _ v1 _ inv5 (yes rfl p np)) (fun fl z6 went => ?_) (fun _ _ z => False.elim z)
          have gone : ∀ {u6 : St} {v6 : Hp} {Q : Shared → Prop}, Inv (X.suite p ((p, ob4) :: (X.pn ++ pins))) [] u6 v6 z6 → (∀ z7, Inv X pins (u6.set k none) v6 z7 → Q z7) →
              wpAny (model X.prog X.w) X.A (do bindName X.env en .none; unbindBehindTheSuite X.env en p2) (fun _ z7 => Q z7) X.xe z6 := by
            intro u6 v6 Q i6 q6
            exact gone_ok (i6.unsuite rdy) nd slot own q6
          cases fl with
          | next =>
            obtain ⟨u6, v6, i6, q6⟩ := went
            exact gone i6 fun z7 i7 => ⟨_, _, i7, q6⟩
          | brk =>
            obtain ⟨u6, v6, i6, q6⟩ := went
            exact gone i6 fun z7 i7 => ⟨_, _, i7, q6⟩
          | cont =>
            obtain ⟨u6, v6, i6, q6⟩ := went
            exact gone i6 fun z7 i7 => ⟨_, _, i7, q6⟩
          | ret rv =>
            obtain ⟨w6, u6, v6, i6, r6, q6⟩ := went
            exact gone i6 fun z7 i7 => ⟨_, _, _, i7, r6, q6⟩
      | @bare cn cv act st sts p1 p2 more l nm run rest ih =>
        intro wants
        obtain ⟨y, is_, yes, no⟩ := wants
        refine wpAny_handleBy_cons (codeAny_handlers_test ?_) (by intro q; cases q)
        have looks : PySem.W.Looks (model X.prog X.w) g3 (typeOf (.ref p)) cl := fun A Q E z keep q => wpAny_typeOf_ref (keep _ _ get3) (by rw [zc3.1]; exact q)
        have meets_ := PySem.W.exm_one (M := model X.prog X.w) (inv3.kIn) looks is_
        have ask : ∀ {Q E : Value → Shared → Prop}, Q cv { z1 with heap := g3 } → wpAny (model X.prog X.w) (X.A.mark (some (.ref p))) (eval (.Name cn p1) X.env) Q E { z1 with heap := g3 } := by
          intro Q E q
          obtain ⟨isG, dbg, atM | ⟨atM, atB, notN⟩⟩ := nm
          · exact ld_glob (X := X.suite p ((p, ob3) :: (X.pn ++ pins))) invS isG atM q dbg
          · exact ld_blt (X := X.suite p ((p, ob3) :: (X.pn ++ pins))) invS isG atM atB q notN dbg
        refine ask (meets_.here ?_)
        cases y with
        | false =>
          show wpAny _ X.A (handleBy (.ref p) X.env more) _ _ _
          exact ih (no rfl)
        | true =>
          refine codeAny_handlers_suite ?_
          refine HandSPX.lands_againZ lands3 fun g4 lands4 grew4 => ?_
          have inv4 : Inv X pins u1 v1 { z1 with heap := g4 } := invJ.landed nb lands4.1 ((grew.trans grew3).trans grew4) os0 ag0
          obtain ⟨ob4, fs4, get4, zc4, dat4⟩ := lands4.there
          have invS4 := inv4.suite get4 dat4 np offL offF
          refine wpAny_mono ((run p ob4 cl od (X.pn ++ pins) zc4 ⟨_, dat4⟩).run [] _ _ v1 _ invS4 (yes rfl p np)) (fun fl z6 went => ?_) (fun _ _ z => False.elim z)
          cases fl with
          | next =>
            obtain ⟨u6, v6, i6, q6⟩ := went
            exact ⟨_, _, i6.unsuite rdy, q6⟩
          | brk =>
            obtain ⟨u6, v6, i6, q6⟩ := went
            exact ⟨_, _, i6.unsuite rdy, q6⟩
          | cont =>
            obtain ⟨u6, v6, i6, q6⟩ := went
            exact ⟨_, _, i6.unsuite rdy, q6⟩
          | ret rv =>
            obtain ⟨w6, u6, v6, i6, r6, q6⟩ := went
            exact ⟨_, _, _, i6.unsuite rdy, r6, q6⟩
    exact each all wish
  · cases fl with
    | next =>
      obtain ⟨u6, v6, i6, q6⟩ := went
      exact wpAny_execs_nil ⟨u6, v6, i6.ofTry rdy, q6⟩
    | brk =>
      obtain ⟨u6, v6, i6, q6⟩ := went
      exact ⟨u6, v6, i6.ofTry rdy, q6⟩
    | cont =>
      obtain ⟨u6, v6, i6, q6⟩ := went
      exact ⟨u6, v6, i6.ofTry rdy, q6⟩
    | ret rv =>
      obtain ⟨w6, u6, v6, i6, r6, q6⟩ := went
      exact ⟨w6, u6, v6, i6.ofTry rdy, r6, q6⟩
end
end L2

set_option maxRecDepth 100000
set_option maxHeartbeats 4000000
namespace Ts
open PySem L2
open LamX (ExtN Tabs TabB)
/-! ### what is refused: the error's word and fields in a tuple, or None -/
structure ErrsT (K : PySem.W.Frag) (mg : Str → Option Value) (CU CN CM2 : Addr) : Prop where
  R : ErrT K mg CU "BadRule" "rule"
  N : ErrT K mg CN "NoBox" "box"
  M : ErrT K mg CM2 "BadMove" "box"
  Mi : PySem.W.findIn K (.ref CM2) "into" = some none
  nr : PySem.W.exmOne K (.ref CN) (.ref CU) = some false
  mr : PySem.W.exmOne K (.ref CM2) (.ref CU) = some false
  mn : PySem.W.exmOne K (.ref CM2) (.ref CN) = some false
def RefW (CU CN CM2 : Addr) (H' : Hp) (cls : Value) (d : Option Addr) (xs : List V) : Prop := ∃ dd : Addr, d = some dd ∧
  ((cls = .ref CU ∧ ∃ v, H' dd = some (.xd [("rule", v)]) ∧ xs = [.str "rule", v]) ∨
   (cls = .ref CN ∧ ∃ v, H' dd = some (.xd [("box", v)]) ∧ xs = [.str "box", v]) ∨
   (cls = .ref CM2 ∧ ∃ v u, H' dd = some (.xd [("into", u), ("box", v)]) ∧ xs = [.str "move", v, u]))
def TRef3 (CU CN CM2 : Addr) : (XK → Hp → VK → Prop) → Hp → VK → Prop := fun tl H Q =>
  tl (fun cls d H' => ∃ xs, RefW CU CN CM2 H' cls d xs ∧ ∀ p, H' p = none → Q (.ref p) (upd H' p (.tup xs))) H (fun _ H' => Q .non H')
abbrev nRf : List Str := ["_law_ask", "e"]
theorem sc_Rf : FnScope nRf ["_law_ask"] (defScope s_L_refused) := ⟨rfl, rfl, rfl, by decide +kernel, rfl, by decide +kernel, by decide +kernel⟩
theorem pss_len {X : Cx} {ss : List Stmt} {t : TS} (h : PSs X ss t) : PSs X ss (fun D σ H => σ.length = X.N.length → t D σ H) := ⟨fun pins s σ H D I q => h.run pins s σ H D I (q I.len)⟩
abbrev tRf (a : Addr) (cls : Value) (d : Option Addr) (wd : Str) (C : Addr) (f : Str) : TS := fun D σ H => σ.length = nRf.length → tRet (tTup (tCons (tC (.str wd)) (tCons (tXf a cls d C f (tVar 1)) tNil))) D σ H
theorem refused_gives {X : Cx} {g CU CN CM2 : Addr} {cdg : Value} {q : Str} (T : ErrsT X.K X.mg CU CN CM2) : LamX.GivesTo X nRf "_law_refused" (defScope s_L_refused) g cdg (defBody s_L_refused) "_law_ask" q (TRef3 CU CN CM2) := by
  intro f c' s H Q tl act hc h
  refine ⟨_, pss_cons (ps_try_asm (X := (cxOf C8.CX0 X.prog X.w X.K X.mg X.base nRf "_law_refused" (defScope s_L_refused) g cdg X.A X.stack s H C8.E0).nox)
      (tb := fun W D σ H => ∃ Ech : XK, (∀ cls d σ' H', Ech cls d H' → W cls d σ' H') ∧ σ[0]? = some (some (.ref f)) ∧ H c' = some (LamX.CodeO c' q) ∧ tl Ech H (fun _ H1 => D.nx σ H1))
      (W0 := fun _ _ _ _ => False)
      (cls := [(.ref CU, some 1, fun a cls d => tRf a cls d "rule" CU "rule"), (.ref CN, some 1, fun a cls d => tRf a cls d "box" CN "box"), (.ref CM2, some 1, fun a cls d D σ H => σ.length = nRf.length → tRet (tTup (tCons (tC (.str "move")) (tCons (tXf a cls d CM2 "box" (tVar 1)) (tCons (tXf a cls d CM2 "into" (tVar 1)) tNil)))) D σ H)])
      rfl rfl sc_Rf.nd LamX.takes0 (fun W pn xe tk _ => ?_)
      (.cons rfl rfl ⟨rfl, by decide, .inl T.R.g⟩ (fun a oe cls d pn hz hf => pss_len (pss_one (ps_ret (by exact pe_tup (pa_cons pe_str (pa_cons (pe_xf T.R.X T.R.nb hz hf (pv 1)) pa_nil))))))
        (.cons rfl rfl ⟨rfl, by decide, .inl T.N.g⟩ (fun a oe cls d pn hz hf => pss_len (pss_one (ps_ret (by exact pe_tup (pa_cons pe_str (pa_cons (pe_xf T.N.X T.N.nb hz hf (pv 1)) pa_nil))))))
        (.cons rfl rfl ⟨rfl, by decide, .inl T.M.g⟩ (fun a oe cls d pn hz hf => pss_len (pss_one (ps_ret (by exact pe_tup (pa_cons pe_str (pa_cons (pe_xf T.M.X T.M.nb hz hf (pv 1)) (pa_cons (pe_xf T.M.X T.Mi hz hf (pv 1)) pa_nil))))))) .nil)))) (pss_one (ps_ret pe_non)), ?_⟩
  · refine ⟨fun pins s' σ H' D I h' => ?_⟩
    obtain ⟨Ech, hW, h1, h2, h3⟩ := h'
    exact PSs.run (pss_one (ps_expr (act W pn xe Ech _ _ tk hW))) pins s' σ H' D I ⟨h1, h2, h3⟩
  · refine ⟨_, fun cls d σ' H' z => ?_, rfl, hc, h⟩
    have no : ∀ {P : Prop}, (false = true) → P := fun q => Bool.noConfusion q
    have no2 : ∀ {P : Prop}, (true = false) → P := fun q => Bool.noConfusion q
    have lk : ∀ a : Addr, (σ'.set 1 (some (V.ref a))).length = nRf.length → (σ'.set 1 (some (V.ref a)))[1]? = some (some (V.ref a)) := fun a hl => List.getElem?_set_self (by rw [List.length_set] at hl; rw [hl]; decide)
    obtain ⟨xs, ⟨dd, rfl, c⟩, k⟩ := z
    rcases c with ⟨rfl, v, e, rfl⟩ | ⟨rfl, v, e, rfl⟩ | ⟨rfl, v, u, e, rfl⟩
    · exact ⟨true, T.R.te, fun _ a ha hl => ⟨_, lk a hl, rfl, rfl, dd, _, v, rfl, e, rfl, (by show 2 ≤ sizeLine; decide), fun p hp => k p hp⟩, no2⟩
    · exact ⟨false, T.nr, no, fun _ => ⟨true, T.N.te, fun _ a ha hl => ⟨_, lk a hl, rfl, rfl, dd, _, v, rfl, e, rfl, (by show 2 ≤ sizeLine; decide), fun p hp => k p hp⟩, no2⟩⟩
    · exact ⟨false, T.mr, no, fun _ => ⟨false, T.mn, no, fun _ => ⟨true, T.M.te, fun _ a ha hl => ⟨_, lk a hl, rfl, rfl, dd, _, v, rfl, e, rfl, _, lk a hl, rfl, rfl, dd, _, u, rfl, e, rfl, (by show 3 ≤ sizeLine; decide), fun p hp => k p hp⟩, no2⟩⟩⟩
end Ts

set_option maxRecDepth 100000
set_option maxHeartbeats 4000000
namespace Ts
open PySem L2
open LamX (ExtN Tabs TabB)
/-! ### what stays where lambdas are made -/
theorem Same.x {H H' : Hp} (s : Same H H') : ExtN H H' := ExtN.of s
theorem TreeAt.ext {C : Addr} {H H' : Hp} {t : Addr} {rs : List Row} (h : TreeAt C H t rs) (s : ExtN H H') : TreeAt C H' t rs := by
  obtain ⟨dx, q, f, k, p, qs, h1, h2, h3, h4, h5, h6⟩ := h.ex
  exact ⟨⟨dx, q, f, k, p, qs, s _ _ h1 nofun, s _ _ h2 nofun, ⟨h3.len, fun i b r hb hr => s _ _ (h3.at_ i b r hb hr) nofun⟩, s _ _ h4 nofun, s _ _ h5 nofun, s _ _ h6 nofun⟩, h.val, h.len⟩
theorem MeanAt.ext {C CM : Addr} {H H' : Hp} {m t : Addr} {rs : List Row} {d : Bool} {ts : List Str} (h : MeanAt C CM H m t rs d ts) (s : ExtN H H') : MeanAt C CM H' m t rs d ts := by
  obtain ⟨dx, u, k, h1, h2, h3⟩ := h.ex
  exact ⟨⟨dx, u, k, s _ _ h1 nofun, s _ _ h2 nofun, s _ _ h3 nofun⟩, h.tree.ext s, h.norm⟩
theorem RowsL.ext {H H' : Hp} {p : Addr} {rs : List Row} (h : RowsL H p rs) (s : ExtN H H') : RowsL H' p rs := by
  obtain ⟨as, h1, h2⟩ := h.ex
  exact ⟨as, s _ _ h1 nofun, ⟨h2.len, fun i b r hb hr => s _ _ (h2.at_ i b r hb hr) nofun⟩⟩
/-- a thing that is no text, new -/
def OddH (H : Hp) (x : V) : Prop := x = .non ∨ (∃ i, x = .int i) ∨ (∃ b, x = .bl b) ∨ (∃ a xs, x = .ref a ∧ H a = some (.lst xs)) ∨ (∃ a xs, x = .ref a ∧ H a = some (.tup xs)) ∨ ∃ a kvs, x = .ref a ∧ H a = some (.dK kvs)
theorem OddH.ext {H H' : Hp} {x : V} (h : OddH H x) (s : ExtN H H') : OddH H' x := by
  rcases h with h | h | h | ⟨a, xs, e, h⟩ | ⟨a, xs, e, h⟩ | ⟨a, xs, e, h⟩
  · exact .inl h
  · exact .inr (.inl h)
  · exact .inr (.inr (.inl h))
  · exact .inr (.inr (.inr (.inl ⟨a, xs, e, s _ _ h nofun⟩)))
  · exact .inr (.inr (.inr (.inr (.inl ⟨a, xs, e, s _ _ h nofun⟩))))
  · exact .inr (.inr (.inr (.inr (.inr ⟨a, xs, e, s _ _ h nofun⟩))))
theorem OddH.t {K : PySem.W.Frag} {H : Hp} {x : V} (h : OddH H x) : OddT K H x := by
  rcases h with rfl | ⟨i, rfl⟩ | ⟨b, rfl⟩ | ⟨a, xs, rfl, h⟩ | ⟨a, xs, rfl, h⟩ | ⟨a, xs, rfl, h⟩
  · exact ⟨.inl rfl, _, .base .non, kit_ty (by decide +kernel)⟩
  · exact ⟨.inr (.inl ⟨i, rfl⟩), _, .base (.int i), kit_ty (by decide +kernel)⟩
  · exact ⟨.inr (.inr (.inl ⟨b, rfl⟩)), _, .base (.bl b), kit_ty (by decide +kernel)⟩
  · exact ⟨.inr (.inr (.inr (.inl ⟨a, xs, rfl, SqL.of h⟩))), _, .base (.lst h), kit_ty (by decide +kernel)⟩
  · exact ⟨.inr (.inr (.inr (.inr (.inl ⟨a, xs, rfl, sqT h⟩)))), _, .base (.tup h), kit_ty (by decide +kernel)⟩
  · exact ⟨.inr (.inr (.inr (.inr (.inr ⟨a, xs, rfl, h⟩)))), _, .base (.dK h), kit_ty (by decide +kernel)⟩
def NoBx (H : Hp) (rs : List Row) (x : V) : Prop := (∃ z : Str, x = .str z ∧ z ∉ names rs) ∨ OddH H x
def NoPl (H : Hp) (rs : List Row) (x : V) : Prop := (∃ z : Str, x = .str z ∧ z ≠ ("top" : Str) ∧ z ∉ names rs) ∨ OddH H x
theorem NoBx.ext {H H' : Hp} {rs : List Row} {x : V} (h : NoBx H rs x) (s : ExtN H H') : NoBx H' rs x := h.imp id fun h => h.ext s
theorem NoPl.ext {H H' : Hp} {rs : List Row} {x : V} (h : NoPl H rs x) (s : ExtN H H') : NoPl H' rs x := h.imp id fun h => h.ext s
theorem NoBx.o {K : PySem.W.Frag} {H : Hp} {rs : List Row} {x : V} (h : NoBx H rs x) : OddN K H rs x := h.imp id OddH.t
theorem NoPl.o {K : PySem.W.Frag} {H : Hp} {rs : List Row} {x : V} (h : NoPl H rs x) : OddP K H rs x := h.imp id OddH.t
theorem NoPl.b {H : Hp} {rs : List Row} {x : V} (h : NoPl H rs x) : NoBx H rs x := h.imp (fun ⟨z, e, _, h⟩ => ⟨z, e, h⟩) id
/-! ### a def whose code object is known -/
structure FunC (K : PySem.W.Frag) (x q : Str) (st : Stmt) (f : Addr) (fd : FuncData) (c : Addr) : Prop where
  ex : ∃ (oc : Value) (od : Option Addr) (kV doc pm : Value) (an : Option Addr) (ct : Value) (osl : Array (Option Value)),
    fd = PySem.W.fnOf x q (defArgs st) (defBody st) (defScope st) .none kV doc pm an (.ref c) ct ∧ K.lookup f = some ⟨oc, od, .func fd, osl⟩ ∧ PySem.W.codeIn K (.ref c) q = true
  kp : PySem.W.keepIn K (.ref f) = true
section
variable {P : Program} {w : World} {K : PySem.W.Frag} {mg : Str → Option Value} {base : Heap} {C CN : Addr}
theorem FunC.ok {x qual : Str} {st : Stmt} {f c : Addr} {fd : FuncData} {N ps : List Str} {k : Nat} {sp : Sp} (F : FunC K x qual st f fd c) (S : FnScope N ps (defScope st)) (len : ∀ vs H Q E, sp vs H Q E → vs.length = ps.length)
    (hbody : ∀ (A : Around) (outer : List Env) (s : Shared) (H : Hp) (vs : List V) (Q : VK) (E : XK), Room k (A.deeper (PyProof.Rows.envOfC qual (defScope st) s.heap.objs.size f (.ref c))) → sp vs H Q E →
      ∃ t, PSs (cxOf CX0 P w K mg base N qual (defScope st) f (.ref c) A outer s H E).nox (defBody st) t ∧ t { nx := fun _ H' => Q .non H', rt := Q } (L2.start N vs) H) : FnOk P w K mg base CX0 (k + 1) f fd ps sp := by
  obtain ⟨oc, od, kV, doc, pm, an, ct, osl, rfl, lk, hcd⟩ := F.ex
  refine fn_of lk hcd S len fun A outer s H vs Q E hr hsp => ?_
  obtain ⟨t, h, q⟩ := hbody A outer s H vs Q E hr hsp
  exact ⟨t, h.nox, q⟩
structure DefC (K : PySem.W.Frag) (mg : Str → Option Value) (x : Str) (st : Stmt) (ps : List Str) where
  f : Addr
  fd : FuncData
  c : Addr
  F : FunC K x x st f fd c
  b : Binds K fd ps []
  g : mg x = some (.ref f)
theorem pe_refused {X : Cx} {T : List (Addr × Str)} {c P : Addr} {k : Nat} {params : Arguments} {body : Expr} {scope : Scope} {t : XK → TE} {p lpos pos : Pos} (D : DefAt X.K X.mg "_law_refused" s_L_refused ["_law_ask"]) {CU CM2 : Addr} (TN : ErrsT X.K X.mg CU CN CM2)
    (hg : Gl X "_law_refused") (TB : TabB X.base X.mg c P) (hcode : X.env.code = .ref c) (hmT : (P, X.env.qual ++ "<lambda>") ∈ T) (hu : ∀ p ∈ T, p.1 = P → p.2 = X.env.qual ++ "<lambda>") (hr : Room (k + 2) X.A) (L : LamX.LamS X.env.scope scope) (hdef : defaultsOf params X.env = ([], []))
    (hbind : ∀ (q : Str) (cl : List (Str × Addr)) (pm cv ctv : Value), bindArgs (PySem.W.kla_fn "<lambda>" q params body scope cl pm cv ctv) ⟨[], []⟩ = pure [])
    (hbody : ∀ (A : Around) (outer : List Env) (s : Shared) (H : Hp) (E : XK) (f c' : Addr), Room k (A.deeper (LamX.lamEnv X scope s.heap.objs.size f c')) → PE (LamX.lamCx X A outer s H E scope f c') body (t E)) :
    PE X (.Call (.Name "_law_refused" p) [.Lambda params body scope lpos] [] pos) (LamX.tLam T (TRef3 CU CN CM2) t) := by
  obtain ⟨f, fd, F, b, g⟩ := D
  have kp := F.kp
  obtain ⟨oc, od, kV, doc, pm, an, cdv, ct, osl, rfl, lk, hcd⟩ := F.ex
  exact LamX.pe_lamcall hg g kp lk hcd b sc_Rf rfl (.inl rfl) (refused_gives TN) TB hcode hmT hu hr L hdef hbind hbody
end
end Ts

set_option maxRecDepth 100000
set_option maxHeartbeats 4000000
namespace L2
open PySem PySem.Spec PyProof.Rows
/-! ### things made alike: lists and tuples, nested, of the same things -/
def Al (K : PySem.W.Frag) (H : Hp) : Nat → V → V → Prop
  | 0, x, y => x = y ∧ (flatB x = true ∨ ∃ c, x = .ref c)
  | n + 1, x, y => Al K H n x y ∨ ∃ (a b : Addr) (xs ys : List V), x = .ref a ∧ y = .ref b ∧ ((SqL K H a xs ∧ SqL K H b ys) ∨ (SqT K H a xs ∧ SqT K H b ys)) ∧ xs.length = ys.length ∧ ∀ (i : Nat) (u v : V), xs[i]? = some u → ys[i]? = some v → Al K H n u v
theorem vals_at {xs : List V} {us : List Value} (r : Vals xs us) {j : Nat} (h : j < us.length) : ∃ x, xs[j]? = some x ∧ RelV x us[j] := by
  have l := r.length
  have hj : j < xs.length := by omega
  obtain ⟨z, hz, rz⟩ := Vals.get (i := j) (x := xs[j]) r (List.getElem?_eq_getElem hj)
  rw [List.getElem?_eq_getElem h] at hz
  cases hz
  exact ⟨_, List.getElem?_eq_getElem hj, rz⟩
section
variable {X : Cx} {pins : List (Addr × Obj)} {σ : St} {H : Hp} {s : Shared}
theorem al_eq (I : Inv X pins σ H s) : ∀ (n : Nat) {A : Around} {x y : V} {u v : Value}, Al X.K H n x y → RelV x u → RelV y v → A.units + n < cLine + 1 → SeqAt.EqAt A s u v true
  | 0, A, x, y, u, v, h, rx, ry, hu => by
    obtain ⟨rfl, f | ⟨c, rfl⟩⟩ := h
    · exact eqAt_same rx ry f
    · cases (show u = Value.ref c from rx)
      cases (show v = Value.ref c from ry)
      exact SeqAt.EqAt.same _
  | n + 1, A, x, y, u, v, h, rx, ry, hu => by
    rcases h with h | ⟨a, b, xs, ys, rfl, rfl, hs, hl, he⟩
    · exact al_eq I n h rx ry (by omega)
    · cases (show u = Value.ref a from rx)
      cases (show v = Value.ref b from ry)
      by_cases e : a = b
      · rw [e]; exact SeqAt.EqAt.same _
      refine SeqAt.EqAt.of_refs e ?_
      have hu1 : A.in1.units + n < cLine + 1 := by show A.units + 1 + n < cLine + 1; omega
      rcases hs with ⟨h1, h2⟩ | ⟨h1, h2⟩
      · obtain ⟨us, r1, p1, _⟩ := I.list h1
        obtain ⟨ws, r2, p2, _⟩ := I.list h2
        have l1 := r1.length
        have l2 := r2.length
        have := SeqAt.RcAt.lists (A := A) (e := fun _ => true) p1.isList p2.isList (by rw [List.size_toArray, List.size_toArray]; omega) (by omega) (fun j h3 h4 => by
          have h3' : j < us.length := by simpa using h3
          have h4' : j < ws.length := by simpa using h4
          obtain ⟨x1, e1, q1⟩ := vals_at r1 h3'
          obtain ⟨x2, e2, q2⟩ := vals_at r2 h4'
          exact al_eq I n (he j x1 x2 e1 e2) (by simpa using q1) (by simpa using q2) hu1)
        rw [show ((List.range us.toArray.size).all fun _ => true) = true from List.all_eq_true.mpr fun _ _ => rfl] at this
        exact this
      · obtain ⟨us, r1, p1, _⟩ := I.tuple h1
        obtain ⟨ws, r2, p2, _⟩ := I.tuple h2
        have l1 := r1.length
        have l2 := r2.length
        have := SeqAt.RcAt.tuples (A := A) (e := fun _ => true) p1 p2 (by omega) (fun j h3 h4 => by
          have h3' : j < us.length := by simpa using h3
          have h4' : j < ws.length := by simpa using h4
          obtain ⟨x1, e1, q1⟩ := vals_at r1 h3'
          obtain ⟨x2, e2, q2⟩ := vals_at r2 h4'
          exact al_eq I n (he j x1 x2 e1 e2) (by simpa using q1) (by simpa using q2) hu1)
        have e : (us.toArray.size == ws.toArray.size) = true := by
          rw [List.size_toArray, List.size_toArray]
          simp; omega
        rw [show ((List.range (min us.toArray.size ws.toArray.size)).all fun _ => true) = true from List.all_eq_true.mpr fun _ _ => rfl, e] at this
        exact this
/-- != of two things made alike: None, texts, numbers, lists or tuples -/
def rNeAl (K : PySem.W.Frag) : R2 := fun x y H Q => ((∃ z : Str, x = .str z ∧ y = .str z) ∨ (∃ i : Int, x = .int i ∧ y = .int i) ∨ (x = .non ∧ y = .non) ∨ (∃ b : Bool, x = .bl b ∧ y = .bl b) ∨
  ∃ (a b : Addr) (xs ys : List V), x = .ref a ∧ y = .ref b ∧ ((SqL K H a xs ∧ SqL K H b ys) ∨ (SqT K H a xs ∧ SqT K H b ys)) ∧ xs.length = ys.length ∧ ∀ (i : Nat) (u v : V), xs[i]? = some u → ys[i]? = some v → Al K H 8 u v) ∧ Q (.bl false) H
end
section
variable {X : Cx}
theorem op_neAl (hu : X.A.units + 64 < cLine) : OpR X (compareOp .NotEq) (rNeAl X.K) := by
  intro pins s σ H x y v w Q I rx ry h
  obtain ⟨h, q⟩ := h
  rcases h with ⟨z, rfl, rfl⟩ | ⟨i, rfl, rfl⟩ | ⟨rfl, rfl⟩ | ⟨b, rfl, rfl⟩ | ⟨a, b, xs, ys, rfl, rfl, hs, hl, he⟩
  · obtain ⟨t1, rfl⟩ := rx
    obtain ⟨t2, rfl⟩ := ry
    refine SeqAt.RcNeAt.str_str z t1 z t2 _ _ _ _ ⟨.bl false, H, I, ?_, q⟩
    show Value.bool (!(z == z)) = Value.bool false
    simp
  · obtain ⟨t1, rfl⟩ := rx
    obtain ⟨t2, rfl⟩ := ry
    refine SeqAt.RcNeAt.int_int i t1 i t2 _ _ _ _ ⟨.bl false, H, I, ?_, q⟩
    show Value.bool (!(i == i)) = Value.bool false
    simp
  · cases (show v = Value.none from rx)
    cases (show w = Value.none from ry)
    exact SeqAt.RcNeAt.none_none _ _ _ _ ⟨.bl false, H, I, rfl, q⟩
  · cases (show v = Value.bool b from rx)
    cases (show w = Value.bool b from ry)
    refine SeqAt.RcNeAt.bool_bool b b _ _ _ _ ⟨.bl false, H, I, ?_, q⟩
    show Value.bool (!(b == b)) = Value.bool false
    simp
  · cases (show v = Value.ref a from rx)
    cases (show w = Value.ref b from ry)
    have hu1 : X.A.in1.units + 8 < cLine + 1 := by show X.A.units + 1 + 8 < cLine + 1; omega
    rcases hs with ⟨h1, h2⟩ | ⟨h1, h2⟩
    · obtain ⟨us, r1, p1, _⟩ := I.list h1
      obtain ⟨ws, r2, p2, _⟩ := I.list h2
      have l1 := r1.length
      have l2 := r2.length
      refine SeqAt.RcNeAt.lists p1.isList p2.isList (by rw [List.size_toArray, List.size_toArray]; omega) (by omega) (e := fun _ => true) (fun j h3 h4 => ?_) _ _ _ _ ?_
      · obtain ⟨x1, e1, q1⟩ := vals_at r1 (show j < us.length by simpa using h3)
        obtain ⟨x2, e2, q2⟩ := vals_at r2 (show j < ws.length by simpa using h4)
        exact al_eq I 8 (he j x1 x2 e1 e2) (by simpa using q1) (by simpa using q2) hu1
      · rw [show ((List.range us.toArray.size).all fun _ => true) = true from List.all_eq_true.mpr fun _ _ => rfl]
        exact ⟨.bl false, H, I, rfl, q⟩
    · obtain ⟨us, r1, p1, _⟩ := I.tuple h1
      obtain ⟨ws, r2, p2, _⟩ := I.tuple h2
      have l1 := r1.length
      have l2 := r2.length
      refine SeqAt.RcNeAt.tuples p1 p2 (by omega) (e := fun _ => true) (fun j h3 h4 => ?_) _ _ _ _ ?_
      · obtain ⟨x1, e1, q1⟩ := vals_at r1 (show j < us.length by simpa using h3)
        obtain ⟨x2, e2, q2⟩ := vals_at r2 (show j < ws.length by simpa using h4)
        exact al_eq I 8 (he j x1 x2 e1 e2) (by simpa using q1) (by simpa using q2) hu1
      · rw [show ((List.range (min us.toArray.size ws.toArray.size)).all fun _ => true) = true from List.all_eq_true.mpr fun _ _ => rfl, show (us.toArray.size == ws.toArray.size) = true from by rw [List.size_toArray, List.size_toArray]; simp; omega]
        exact ⟨.bl false, H, I, rfl, q⟩
end
end L2

set_option maxRecDepth 100000
set_option maxHeartbeats 4000000
namespace L2
open PySem PySem.Spec PyProof.Rows
/-- == of two lists or tuples made alike -/
def rEqAl (K : PySem.W.Frag) : R2 := fun x y H Q => ∃ (a b : Addr) (xs ys : List V), x = .ref a ∧ y = .ref b ∧ ((SqL K H a xs ∧ SqL K H b ys) ∨ (SqT K H a xs ∧ SqT K H b ys)) ∧ xs.length = ys.length ∧ (∀ (i : Nat) (u v : V), xs[i]? = some u → ys[i]? = some v → Al K H 8 u v) ∧ Q (.bl true) H
section
variable {X : Cx}
theorem op_eqAl (hu : X.A.units + 64 < cLine) : OpR X (compareOp .Eq) (rEqAl X.K) := by
  intro pins s σ H x y v w Q I rx ry h
  obtain ⟨a, b, xs, ys, rfl, rfl, hs, hl, he, q⟩ := h
  cases (show v = Value.ref a from rx)
  cases (show w = Value.ref b from ry)
  have hu1 : X.A.in1.units + 8 < cLine + 1 := by show X.A.units + 1 + 8 < cLine + 1; omega
  rcases hs with ⟨h1, h2⟩ | ⟨h1, h2⟩
  · obtain ⟨us, r1, p1, _⟩ := I.list h1
    obtain ⟨ws, r2, p2, _⟩ := I.list h2
    have l1 := r1.length
    have l2 := r2.length
    refine SeqAt.RcAt.lists p1.isList p2.isList (by rw [List.size_toArray, List.size_toArray]; omega) (by omega) (e := fun _ => true) (fun j h3 h4 => ?_) _ _ _ _ ?_
    · obtain ⟨x1, e1, q1⟩ := vals_at r1 (show j < us.length by simpa using h3)
      obtain ⟨x2, e2, q2⟩ := vals_at r2 (show j < ws.length by simpa using h4)
      exact al_eq I 8 (he j x1 x2 e1 e2) (by simpa using q1) (by simpa using q2) hu1
    · rw [show ((List.range us.toArray.size).all fun _ => true) = true from List.all_eq_true.mpr fun _ _ => rfl]
      exact ⟨.bl true, H, I, rfl, q⟩
  · obtain ⟨us, r1, p1, _⟩ := I.tuple h1
    obtain ⟨ws, r2, p2, _⟩ := I.tuple h2
    have l1 := r1.length
    have l2 := r2.length
    refine SeqAt.RcAt.tuples p1 p2 (by omega) (e := fun _ => true) (fun j h3 h4 => ?_) _ _ _ _ ?_
    · obtain ⟨x1, e1, q1⟩ := vals_at r1 (show j < us.length by simpa using h3)
      obtain ⟨x2, e2, q2⟩ := vals_at r2 (show j < ws.length by simpa using h4)
      exact al_eq I 8 (he j x1 x2 e1 e2) (by simpa using q1) (by simpa using q2) hu1
    · rw [show ((List.range (min us.toArray.size ws.toArray.size)).all fun _ => true) = true from List.all_eq_true.mpr fun _ _ => rfl, show (us.toArray.size == ws.toArray.size) = true from by rw [List.size_toArray, List.size_toArray]; simp; omega]
      exact ⟨.bl true, H, I, rfl, q⟩
end
end L2

set_option maxRecDepth 100000
set_option maxHeartbeats 8000000
namespace Ts
open PySem L2
open LamX (ExtN Tabs TabB)
def ResAt (H : Hp) (v : V) : Option (List V) → Prop
  | none => v = .non
  | some xs => ∃ p, v = .ref p ∧ H p = some (.tup xs)
theorem ResAt.ext {H H' : Hp} {v : V} {r : Option (List V)} (h : ResAt H v r) (s : ExtN H H') : ResAt H' v r := by
  cases r with
  | none => exact h
  | some xs => obtain ⟨p, e, g⟩ := h; exact ⟨p, e, s _ _ g nofun⟩
def FlR (x : V) : Prop := flatB x = true ∨ ∃ c, x = .ref c
theorem al_self {K : PySem.W.Frag} {H : Hp} {x : V} (h : FlR x) : ∀ n, Al K H n x x
  | 0 => ⟨rfl, h⟩
  | n + 1 => .inl (al_self h n)
theorem al_res {K : PySem.W.Frag} {H : Hp} {v u : V} {xs : List V} {n : Nat} (h1 : ResAt H v (some xs)) (h2 : ResAt H u (some xs)) (f : ∀ z ∈ xs, FlR z) : Al K H (n + 1) v u := by
  obtain ⟨a, rfl, e1⟩ := h1
  obtain ⟨b, rfl, e2⟩ := h2
  refine .inr ⟨a, b, xs, xs, rfl, rfl, .inr ⟨sqT e1, sqT e2⟩, rfl, fun i u w hu hw => ?_⟩
  rw [hu] at hw
  cases hw
  exact al_self (f u (List.mem_of_getElem? hu)) n
/-- things that are such tuples each -/
def AllRes (H : Hp) : List V → List (List V) → Prop
  | [], [] => True
  | w :: ws, r :: rs => ResAt H w (some r) ∧ AllRes H ws rs
  | _, _ => False
theorem AllRes.ext {H H' : Hp} (s : ExtN H H') : ∀ {ws : List V} {rs : List (List V)}, AllRes H ws rs → AllRes H' ws rs
  | [], [], _ => trivial
  | _ :: _, _ :: _, h => ⟨h.1.ext s, AllRes.ext s h.2⟩
  | [], _ :: _, h => h.elim
  | _ :: _, [], h => h.elim
theorem AllRes.len {H : Hp} : ∀ {ws : List V} {rs : List (List V)}, AllRes H ws rs → ws.length = rs.length
  | [], [], _ => rfl
  | _ :: _, _ :: _, h => by rw [List.length_cons, List.length_cons, AllRes.len h.2]
  | [], _ :: _, h => h.elim
  | _ :: _, [], h => h.elim
theorem AllRes.snoc {H : Hp} {w : V} {r : List V} (h2 : ResAt H w (some r)) : ∀ {ws : List V} {rs : List (List V)}, AllRes H ws rs → AllRes H (ws ++ [w]) (rs ++ [r])
  | [], [], _ => ⟨h2, trivial⟩
  | _ :: _, _ :: _, h => ⟨h.1, AllRes.snoc h2 h.2⟩
  | [], _ :: _, h => h.elim
  | _ :: _, [], h => h.elim
theorem AllRes.put {H : Hp} {D : Addr} {xs ys : List V} (e : H D = some (.lst xs)) : ∀ {ws : List V} {rs : List (List V)}, AllRes H ws rs → AllRes (upd H D (.lst ys)) ws rs
  | [], [], _ => trivial
  | _ :: _, _ :: _, h => ⟨by
      obtain ⟨q, e1, g⟩ := h.1
      exact ⟨q, e1, by rw [upd_ne (fun z => by rw [z, e] at g; cases g)]; exact g⟩, AllRes.put e h.2⟩
  | [], _ :: _, h => h.elim
  | _ :: _, [], h => h.elim
theorem AllRes.al {K : PySem.W.Frag} {H : Hp} : ∀ {ws ys : List V} {rs : List (List V)}, AllRes H ws rs → AllRes H ys rs → (∀ r ∈ rs, ∀ z ∈ r, FlR z) → ∀ (i : Nat) (u v : V), ws[i]? = some u → ys[i]? = some v → Al K H 8 u v
  | [], _, [], _, _, _, i, u, v, hu, _ => by simp at hu
  | w :: ws, y :: ys, r :: rs, h1, h2, f, 0, u, v, hu, hv => by
    cases hu
    cases hv
    exact al_res (n := 7) h1.1 h2.1 (f r (List.mem_cons_self ..))
  | w :: ws, y :: ys, r :: rs, h1, h2, f, i + 1, u, v, hu, hv => AllRes.al h1.2 h2.2 (fun r hr => f r (List.mem_cons_of_mem _ hr)) i u v hu hv
  | [], _, _ :: _, h, _, _, _, _, _, _, _ => h.elim
  | _ :: _, _, [], h, _, _, _, _, _, _, _ => h.elim
  | _ :: _, [], _ :: _, _, h, _, _, _, _, _, _ => h.elim
theorem tabs_put {T : List (Addr × Str)} {H : Hp} {D : Addr} {xs ys : List V} (h : Tabs T H) (e : H D = some (.lst xs)) : Tabs T (upd H D (.lst ys)) := fun p hp => by
  obtain ⟨ps, h1, h2, h3⟩ := h p hp
  have n1 : p.1 ≠ D := fun q => by rw [q, e] at h1; cases h1
  refine ⟨ps, by rw [upd_ne n1]; exact h1, h2, fun pos cv hc => ?_⟩
  obtain ⟨c, e1, e2⟩ := h3 pos cv hc
  refine ⟨c, e1, ?_⟩
  rw [upd_ne fun q => by rw [q, e] at e2; unfold LamX.CodeO at e2; cases e2]
  exact e2
/-- a list of results that grows -/
structure Fnd (T : List (Addr × Str)) (H0 H : Hp) (D : Addr) (ws : List V) (rs : List (List V)) : Prop where
  new : ∀ b o, H0 b = some o → (∀ ps, o ≠ .tbl ps) → b ≠ D
  ext : ExtN H0 H
  tabs : Tabs T H
  lst : H D = some (.lst ws)
  all : AllRes H ws rs
theorem Fnd.start {T : List (Addr × Str)} {H0 H : Hp} {D : Addr} {w : V} {r : List V} (e : ExtN H0 H) (t : Tabs T H) (h : ResAt H w (some r)) (hD : H D = none) : Fnd T H0 (upd H D (.lst [w])) D [w] [r] :=
  have s : Same H (upd H D (.lst [w])) := Same.new hD
  ⟨fun b o h1 n => ne_of_none (e b o h1 n) hD, e.trans (Same.x s), t.ext s, upd_same, ⟨h.ext (Same.x s), trivial⟩⟩
theorem Fnd.more {T : List (Addr × Str)} {H0 H H2 : Hp} {D : Addr} {ws : List V} {rs : List (List V)} {w : V} {r : List V} (f : Fnd T H0 H D ws rs) (e : ExtN H H2) (t : Tabs T H2) (h : ResAt H2 w (some r)) : H2 D = some (.lst ws) ∧ Fnd T H0 (upd H2 D (.lst (ws ++ [w]))) D (ws ++ [w]) (rs ++ [r]) := by
  have l2 := e _ _ f.lst nofun
  refine ⟨l2, f.new, fun b o h1 n => ?_, tabs_put t l2, upd_same, AllRes.put l2 (AllRes.snoc h (f.all.ext e))⟩
  rw [upd_ne (f.new b o h1 n)]
  exact e b o (f.ext b o h1 n) n
section
variable {K : PySem.W.Frag} {CU CN CM2 : Addr} {T : List (Addr × Str)} {H : Hp} {σ : St} {Q : VK} {args : TA}
theorem lam_err {sp : Sp} {vs xs : List V} (hT : Tabs T H) (ha : ∀ Hx (G : List V → Hp → Prop), G vs Hx → args σ Hx G) (hs : ∀ (H1 : Hp) (E : XK) (Q' : VK), ExtN H H1 → (∀ cls d H2, Same H1 H2 → RefW CU CN CM2 H2 cls d xs → E cls d H2) → sp vs H1 Q' E)
    (k : ∀ v H', ExtN H H' → Tabs T H' → ResAt H' v (some xs) → Q v H') : LamX.tLam T (TRef3 CU CN CM2) (fun E => tCall sp [] E args) σ H Q := by
  refine ⟨hT, fun H1 e1 T1 => ha _ _ ?_⟩
  show sp (vs ++ []) H1 _ _
  rw [List.append_nil]
  refine hs H1 _ _ e1 fun cls d H2 s2 h => ⟨xs, h, fun p hp => ?_⟩
  have s3 := s2.trans (Same.new (o := .tup xs) hp)
  exact k _ _ (e1.trans (Same.x s3)) (T1.ext s3) ⟨p, rfl, upd_same⟩
end
end Ts

set_option maxRecDepth 100000
set_option maxHeartbeats 8000000
namespace Ts
open PySem L2
open LamX (ExtN Tabs TabB)
/-- no place, no rule -/
def OddA (H : Hp) (rs : List Row) (x : V) : Prop := (∃ z : Str, x = .str z ∧ z ≠ ("top" : Str) ∧ z ∉ names rs ∧ z ∉ rules3) ∨ OddH H x
theorem OddA.ext {H H' : Hp} {rs : List Row} {x : V} (h : OddA H rs x) (s : ExtN H H') : OddA H' rs x := h.imp id fun h => h.ext s
theorem OddA.pl {H : Hp} {rs : List Row} {x : V} (h : OddA H rs x) : NoPl H rs x := h.imp (fun ⟨z, e, h1, h2, _⟩ => ⟨z, e, h1, h2⟩) id
theorem OddA.ru {K : PySem.W.Frag} {H : Hp} {rs : List Row} {x : V} (h : OddA H rs x) : OddR K H x := h.imp (fun ⟨z, e, _, _, h⟩ => ⟨z, e, h⟩) fun h => h.t.1
def spRight (C CM : Addr) (T : List (Addr × Str)) : Sp := fun vs H Q _ => ∃ (m t p : Addr) (x : V) (rs : List Row) (d : Bool) (ts : List Str), vs = [.ref m, .ref p, x] ∧ MeanAt C CM H m t rs d ts ∧ RowsL H p rs ∧ rs ≠ [] ∧ OddA H rs x ∧ FlR x ∧ Tabs T H ∧
  ∀ H', ExtN H H' → Tabs T H' → Q (.bl true) H'
section
variable {P : Program} {w : World} {K : PySem.W.Frag} {mg : Str → Option Value} {base : Heap} {C CM CL CN CM2 CU : Addr} {T : List (Addr × Str)} {P1 : Addr}
abbrev pRi : List Str := ["_law_meaning_here", "_law_rows_here", "_law_odd"]
abbrev nRi : List Str := ["_law_meaning_here", "_law_rows_here", "_law_odd", "_law_name_here", "_law_found", "_law_due"]
theorem sc_Ri : FnScope nRi pRi (defScope s_L_refusals_right) := ⟨rfl, rfl, rfl, by decide +kernel, rfl, by decide +kernel, by decide +kernel⟩
abbrev qRi : Str := "_law_refusals_right.<locals>.<lambda>"
theorem ok_Ri (D : DefC K mg "_law_refusals_right" s_L_refusals_right pRi) (Drf : DefAt K mg "_law_refused" s_L_refused ["_law_ask"]) (TE : ErrsT K mg CU CN CM2)
    (TB : TabB base mg D.c P1) (hm : (P1, qRi) ∈ T) (hu : ∀ p ∈ T, p.1 = P1 → p.2 = qRi)
    (Dm : DefAt K mg "moved" s_moved ["meaning", "box", "folder", "rule"]) (Gm : FnOk P w K mg base (L2.CX P w) 9 Dm.f Dm.fd ["meaning", "box", "folder", "rule"] (spMovedR K C CM CN CM2 CU))
    (Dk : DefAt K mg "back" s_back ["meaning", "box", "folder", "rule"]) (Gk : FnOk P w K mg base (L2.CX P w) 10 Dk.f Dk.fd ["meaning", "box", "folder", "rule"] (spMovedR K C CM CN CM2 CU))
    (Dl : DefAt K mg "unlike_moves" s_unlike_moves ["meaning", "rule", "other"]) (Gl : FnOk P w K mg base (L2.CX P w) 5 Dl.f Dl.fd ["meaning", "rule", "other"] (spUnlikeX K CU)) :
    FnOk P w K mg base CX0 13 D.f D.fd pRi (spRight C CM T) := by
  refine D.F.ok sc_Ri (fun vs H Q E h => ?_) (fun A outer s H vs Q E hr h => ?_)
  · obtain ⟨m, t, p, x, rs, d, ts, rfl, _⟩ := h
    rfl
  · obtain ⟨m, t, p, x, rs, d, ts, rfl, hme, hL, hne, hx, fx, hT, hq⟩ := h
    have h64 := hr.units
    refine ⟨_, pss_cons (ps_set (i := 3) sc_Ri.nd rfl (.inr rfl) (pe_ix ix_tup (pe_ix ix_list (pv 1) pe_int (fun _ _ => rfl)) pe_int (fun _ _ => rfl)))
      (pss_cons (ps_set (i := 4) sc_Ri.nd rfl (.inl rfl) (pe_lst (pa_cons (pe_refused (k := 10) (t := fun E => tCall (spMovedR K C CM CN CM2 CU) [] E (tCons (tVar 0) (tCons (tVar 2) (tCons (tVar 2) (tCons (tVar 2) tNil))))) Drf TE (by rfl) TB rfl hm hu hr (LamX.lamS_by (show LamX.lamSB (defScope s_L_refusals_right) _ = true by decide +kernel)) rfl (fun _ _ _ _ _ => rfl) (fun A outer s H E f c' hr2 => pe_call Gm (hr2.mono (by decide)) rfl Dm.g Dm.F.kp Dm.b .nil (passes_call (takes_of rfl rfl rfl rfl) (fun _ _ _ _ h => h)) (pa_cons (pv 0) (pa_cons (pv 2) (pa_cons (pv 2) (pa_cons (pv 2) pa_nil)))))) pa_nil)))
      (pss_cons (ps_expr (pe_bm PySem.F.plainAttrs_list PySem.F.slot_list_append PySem.F.type_list_append mt_append (pv 4) (pa_cons (pe_refused (k := 10) (t := fun E => tCall (spMovedR K C CM CN CM2 CU) [] E (tCons (tVar 0) (tCons (tVar 3) (tCons (tVar 2) (tCons (tVar 2) tNil))))) Drf TE (by rfl) TB rfl hm hu hr (LamX.lamS_by (show LamX.lamSB (defScope s_L_refusals_right) _ = true by decide +kernel)) rfl (fun _ _ _ _ _ => rfl) (fun A outer s H E f c' hr2 => pe_call Gm (hr2.mono (by decide)) rfl Dm.g Dm.F.kp Dm.b .nil (passes_call (takes_of rfl rfl rfl rfl) (fun _ _ _ _ h => h)) (pa_cons (pv 0) (pa_cons (pv 3) (pa_cons (pv 2) (pa_cons (pv 2) pa_nil)))))) pa_nil)))
      (pss_cons (ps_expr (pe_bm PySem.F.plainAttrs_list PySem.F.slot_list_append PySem.F.type_list_append mt_append (pv 4) (pa_cons (pe_refused (k := 10) (t := fun E => tCall (spMovedR K C CM CN CM2 CU) [] E (tCons (tVar 0) (tCons (tVar 3) (tCons (tVar 3) (tCons (tVar 2) tNil))))) Drf TE (by rfl) TB rfl hm hu hr (LamX.lamS_by (show LamX.lamSB (defScope s_L_refusals_right) _ = true by decide +kernel)) rfl (fun _ _ _ _ _ => rfl) (fun A outer s H E f c' hr2 => pe_call Gm (hr2.mono (by decide)) rfl Dm.g Dm.F.kp Dm.b .nil (passes_call (takes_of rfl rfl rfl rfl) (fun _ _ _ _ h => h)) (pa_cons (pv 0) (pa_cons (pv 3) (pa_cons (pv 3) (pa_cons (pv 2) pa_nil)))))) pa_nil)))
      (pss_cons (ps_expr (pe_bm PySem.F.plainAttrs_list PySem.F.slot_list_append PySem.F.type_list_append mt_append (pv 4) (pa_cons (pe_refused (k := 10) (t := fun E => tCall (spMovedR K C CM CN CM2 CU) [] E (tCons (tVar 0) (tCons (tVar 3) (tCons (tC (.str "top")) (tCons (tVar 2) tNil))))) Drf TE (by rfl) TB rfl hm hu hr (LamX.lamS_by (show LamX.lamSB (defScope s_L_refusals_right) _ = true by decide +kernel)) rfl (fun _ _ _ _ _ => rfl) (fun A outer s H E f c' hr2 => pe_call Gk hr2 rfl Dk.g Dk.F.kp Dk.b .nil (passes_call (takes_of rfl rfl rfl rfl) (fun _ _ _ _ h => h)) (pa_cons (pv 0) (pa_cons (pv 3) (pa_cons pe_str (pa_cons (pv 2) pa_nil)))))) pa_nil)))
      (pss_cons (ps_expr (pe_bm PySem.F.plainAttrs_list PySem.F.slot_list_append PySem.F.type_list_append mt_append (pv 4) (pa_cons (pe_refused (k := 10) (t := fun E => tCall (spMovedR K C CM CN CM2 CU) [] E (tCons (tVar 0) (tCons (tVar 3) (tCons (tC (.str "top")) (tCons (tVar 2) tNil))))) Drf TE (by rfl) TB rfl hm hu hr (LamX.lamS_by (show LamX.lamSB (defScope s_L_refusals_right) _ = true by decide +kernel)) rfl (fun _ _ _ _ _ => rfl) (fun A outer s H E f c' hr2 => pe_call Gm (hr2.mono (by decide)) rfl Dm.g Dm.F.kp Dm.b .nil (passes_call (takes_of rfl rfl rfl rfl) (fun _ _ _ _ h => h)) (pa_cons (pv 0) (pa_cons (pv 3) (pa_cons pe_str (pa_cons (pv 2) pa_nil)))))) pa_nil)))
      (pss_cons (ps_expr (pe_bm PySem.F.plainAttrs_list PySem.F.slot_list_append PySem.F.type_list_append mt_append (pv 4) (pa_cons (pe_refused (k := 10) (t := fun E => tCall (spUnlikeX K CU) [] E (tCons (tVar 0) (tCons (tVar 2) (tCons (tC .non) tNil)))) Drf TE (by rfl) TB rfl hm hu hr (LamX.lamS_by (show LamX.lamSB (defScope s_L_refusals_right) _ = true by decide +kernel)) rfl (fun _ _ _ _ _ => rfl) (fun A outer s H E f c' hr2 => pe_call Gl (hr2.mono (by decide)) rfl Dl.g Dl.F.kp Dl.b .nil (passes_call (takes_of rfl rfl rfl rfl) (fun _ _ _ _ h => h)) (pa_cons (pv 0) (pa_cons (pv 2) (pa_cons pe_non pa_nil))))) pa_nil)))
      (pss_cons (ps_expr (pe_bm PySem.F.plainAttrs_list PySem.F.slot_list_append PySem.F.type_list_append mt_append (pv 4) (pa_cons (pe_refused (k := 10) (t := fun E => tCall (spUnlikeX K CU) [] E (tCons (tVar 0) (tCons (tC (.str "told")) (tCons (tVar 2) tNil)))) Drf TE (by rfl) TB rfl hm hu hr (LamX.lamS_by (show LamX.lamSB (defScope s_L_refusals_right) _ = true by decide +kernel)) rfl (fun _ _ _ _ _ => rfl) (fun A outer s H E f c' hr2 => pe_call Gl (hr2.mono (by decide)) rfl Dl.g Dl.F.kp Dl.b .nil (passes_call (takes_of rfl rfl rfl rfl) (fun _ _ _ _ h => h)) (pa_cons (pv 0) (pa_cons pe_str (pa_cons (pv 2) pa_nil))))) pa_nil)))
      (pss_cons (ps_set (i := 5) sc_Ri.nd rfl (.inl rfl) (pe_lst (pa_cons (pe_tup (pa_cons pe_str (pa_cons (pv 2) pa_nil))) (pa_cons (pe_tup (pa_cons pe_str (pa_cons (pv 2) pa_nil))) (pa_cons (pe_tup (pa_cons pe_str (pa_cons (pv 3) (pa_cons (pv 3) pa_nil)))) pa_nil)))))
      (pss_one (ps_ret (pe_cmpR (op_eqAl h64) (pv 4) (pe_op op_cat (pv 5) (pe_op op_rep (pe_lst (pa_cons (pe_tup (pa_cons pe_str (pa_cons (pv 2) pa_nil))) pa_nil)) pe_int)) (nomark _)))))))))))), ?_⟩
    obtain ⟨as, hp, hrows⟩ := id hL.ex
    have hv := hme.tree.val
    obtain ⟨b, rs', rfl⟩ : ∃ b rs', rs = b :: rs' := by
      cases rs with
      | nil => exact absurd rfl hne
      | cons r rs => exact ⟨_, _, rfl⟩
    obtain ⟨a1, as', rfl⟩ : ∃ a1 as', as = a1 :: as' := by
      cases as with
      | nil => have := hrows.len; cases this
      | cons r rs => exact ⟨_, _, rfl⟩
    have hb : b ∈ b :: rs' := List.mem_cons_self ..
    have hn : b.nm ∈ names (b :: rs') := List.mem_map.mpr ⟨b, hb, rfl⟩
    have e0 := hrows.at_ 0 a1 b rfl rfl
    have blk : BlkM (b :: rs') b b.nm := ⟨b, hb, rfl, fun _ => under_self hv hb rfl⟩
    have lt : LetM (b :: rs') b "top" := ⟨hb, .inl rfl⟩
    refine ⟨_, rfl, p, _, _, .ref a1, rfl, rfl, SqL.of hp, atI_nat (j := 0) rfl, a1, _, _, _, rfl, rfl, sqT e0, atI0 _ _ _ _, ?_⟩
    have flb : ∀ z ∈ [V.str ("box" : Str), x], FlR z := fun z hz => by
      simp only [List.mem_cons, List.not_mem_nil, or_false] at hz
      rcases hz with rfl | rfl
      · exact .inl rfl
      · exact fx
    have flr : ∀ z ∈ [V.str ("rule" : Str), x], FlR z := fun z hz => by
      simp only [List.mem_cons, List.not_mem_nil, or_false] at hz
      rcases hz with rfl | rfl
      · exact .inl rfl
      · exact fx
    have flm : ∀ z ∈ [V.str ("move" : Str), V.str b.nm, V.str b.nm], FlR z := fun z hz => by
      simp only [List.mem_cons, List.not_mem_nil, or_false] at hz
      rcases hz with rfl | rfl | rfl <;> exact .inl rfl
    refine lam_err (xs := [.str "box", x]) (vs := [.ref m, x, x, x]) hT (fun Hx G g => ⟨_, rfl, _, rfl, _, rfl, _, rfl, g⟩) (fun H1 E Q' e1 hE => ⟨m, t, x, x, x, _, d, ts, rfl, hme.ext e1, .inl (.inl ⟨(hx.ext e1).pl.b.o, fun dd H' hd s e => hE _ _ _ s ⟨dd, rfl, .inr (.inl ⟨rfl, _, e, rfl⟩)⟩⟩)⟩) fun w1 H1 S1 T1 q1 => ⟨(by show 1 ≤ sizeLine; decide), fun Dl hDl => ?_⟩
    have F1 := Fnd.start S1 T1 q1 hDl
    generalize upd H1 Dl (.lst [w1]) = G1 at F1
    refine ⟨_, rfl, .inl ⟨rfl, _, SqL.of F1.lst⟩, ?_⟩
    refine lam_err (xs := [.str "box", x]) (vs := [.ref m, .str b.nm, x, x]) F1.tabs (fun Hx G g => ⟨_, rfl, _, rfl, _, rfl, _, rfl, g⟩) (fun H1 E Q' e1 hE => ⟨m, t, _, x, x, _, d, ts, rfl, hme.ext (F1.ext.trans e1), .inl (.inr (.inl ⟨⟨_, rfl, hn⟩, (hx.ext (F1.ext.trans e1)).pl.o, fun dd H' hd s e => hE _ _ _ s ⟨dd, rfl, .inr (.inl ⟨rfl, _, e, rfl⟩)⟩⟩))⟩) fun w2 H2 S2 T2 q2 => ?_
    obtain ⟨l2, F2⟩ := F1.more S2 T2 q2
    refine ⟨Dl, _, _, rfl, rfl, l2, small1000 (by show 1 ≤ 1000; decide), ?_⟩
    generalize upd H2 Dl (.lst ([w1] ++ [w2])) = G2 at F2
    refine ⟨_, rfl, .inl ⟨rfl, _, SqL.of F2.lst⟩, ?_⟩
    refine lam_err (xs := [.str "move", .str b.nm, .str b.nm]) (vs := [.ref m, .str b.nm, .str b.nm, x]) F2.tabs (fun Hx G g => ⟨_, rfl, _, rfl, _, rfl, _, rfl, g⟩) (fun H1 E Q' e1 hE => ⟨m, t, _, _, x, _, d, ts, rfl, hme.ext (F2.ext.trans e1), .inl (.inr (.inr ⟨b, b.nm, rfl, rfl, hb, blk, fun dd H' hd s e => hE _ _ _ s ⟨dd, rfl, .inr (.inr ⟨rfl, _, _, e, rfl⟩)⟩⟩))⟩) fun w3 H3 S3 T3 q3 => ?_
    obtain ⟨l3, F3⟩ := F2.more S3 T3 q3
    refine ⟨Dl, _, _, rfl, rfl, l3, small1000 (by show 2 ≤ 1000; decide), ?_⟩
    generalize upd H3 Dl (.lst ([w1] ++ [w2] ++ [w3])) = G3 at F3
    have rul : ∀ {G H1 : Hp} {E : XK} (s0 : ExtN H G) (e1 : ExtN G H1), (∀ cls d H2, Same H1 H2 → RefW CU CN CM2 H2 cls d [.str "rule", x] → E cls d H2) → ∀ Q', spMovedR K C CM CN CM2 CU [.ref m, .str b.nm, .str "top", x] H1 Q' E := fun {G H1 E} s0 e1 hE Q' => ⟨m, t, _, _, x, _, d, ts, rfl, hme.ext (s0.trans e1), .inr ⟨b, "top", rfl, rfl, lt, fun H' s => (hx.ext ((s0.trans e1).trans (Same.x s))).ru, fun dd H' hd s e => hE _ _ _ s ⟨dd, rfl, .inl ⟨rfl, _, e, rfl⟩⟩⟩⟩
    refine ⟨_, rfl, .inl ⟨rfl, _, SqL.of F3.lst⟩, ?_⟩
    refine lam_err (xs := [.str "rule", x]) (vs := [.ref m, .str b.nm, .str "top", x]) F3.tabs (fun Hx G g => ⟨_, rfl, _, rfl, _, rfl, g⟩) (fun H1 E Q' e1 hE => rul F3.ext e1 hE Q') fun w4 H4 S4 T4 q4 => ?_
    obtain ⟨l4, F4⟩ := F3.more S4 T4 q4
    refine ⟨Dl, _, _, rfl, rfl, l4, small1000 (by show 3 ≤ 1000; decide), ?_⟩
    generalize upd H4 Dl (.lst ([w1] ++ [w2] ++ [w3] ++ [w4])) = G4 at F4
    refine ⟨_, rfl, .inl ⟨rfl, _, SqL.of F4.lst⟩, ?_⟩
    refine lam_err (xs := [.str "rule", x]) (vs := [.ref m, .str b.nm, .str "top", x]) F4.tabs (fun Hx G g => ⟨_, rfl, _, rfl, _, rfl, g⟩) (fun H1 E Q' e1 hE => rul F4.ext e1 hE Q') fun w5 H5 S5 T5 q5 => ?_
    obtain ⟨l5, F5⟩ := F4.more S5 T5 q5
    refine ⟨Dl, _, _, rfl, rfl, l5, small1000 (by show 4 ≤ 1000; decide), ?_⟩
    generalize upd H5 Dl (.lst ([w1] ++ [w2] ++ [w3] ++ [w4] ++ [w5])) = G5 at F5
    refine ⟨_, rfl, .inl ⟨rfl, _, SqL.of F5.lst⟩, ?_⟩
    refine lam_err (xs := [.str "rule", x]) (vs := [.ref m, x, .non]) F5.tabs (fun Hx G g => ⟨_, rfl, _, rfl, g⟩) (fun H1 E Q' e1 hE => ⟨_, x, .non, x, rfl, .inl ⟨rfl, (hx.ext (F5.ext.trans e1)).ru⟩, fun dd H' hd s e => hE _ _ _ s ⟨dd, rfl, .inl ⟨rfl, _, e, rfl⟩⟩⟩) fun w6 H6 S6 T6 q6 => ?_
    obtain ⟨l6, F6⟩ := F5.more S6 T6 q6
    refine ⟨Dl, _, _, rfl, rfl, l6, small1000 (by show 5 ≤ 1000; decide), ?_⟩
    generalize upd H6 Dl (.lst ([w1] ++ [w2] ++ [w3] ++ [w4] ++ [w5] ++ [w6])) = G6 at F6
    refine ⟨_, rfl, .inl ⟨rfl, _, SqL.of F6.lst⟩, ?_⟩
    refine lam_err (xs := [.str "rule", x]) (vs := [.ref m, .str "told", x]) F6.tabs (fun Hx G g => ⟨_, rfl, _, rfl, g⟩) (fun H1 E Q' e1 hE => ⟨_, _, x, x, rfl, .inr ⟨rfl, ⟨"told", rfl, by decide +kernel⟩, (hx.ext (F6.ext.trans e1)).ru⟩, fun dd H' hd s e => hE _ _ _ s ⟨dd, rfl, .inl ⟨rfl, _, e, rfl⟩⟩⟩) fun w7 H7 S7 T7 q7 => ?_
    obtain ⟨l7, F7⟩ := F6.more S7 T7 q7
    refine ⟨Dl, _, _, rfl, rfl, l7, small1000 (by show 6 ≤ 1000; decide), ?_⟩
    generalize upd H7 Dl (.lst ([w1] ++ [w2] ++ [w3] ++ [w4] ++ [w5] ++ [w6] ++ [w7])) = G7 at F7
    -- what is due
    refine ⟨_, rfl, (by show 2 ≤ sizeLine; decide), fun b1 h1 => ⟨_, rfl, (by show 2 ≤ sizeLine; decide), fun b2 h2 => ⟨_, rfl, _, rfl, (by show 3 ≤ sizeLine; decide), fun b3 h3 => ⟨(by show 3 ≤ sizeLine; decide), fun b4 h4 => ?_⟩⟩⟩⟩
    have s1 : Same G7 (upd G7 b1 (.tup [V.str ("box" : Str), x])) := Same.new h1
    have g1 : (upd G7 b1 (.tup [V.str ("box" : Str), x])) b1 = some (.tup [V.str ("box" : Str), x]) := upd_same
    generalize upd G7 b1 (.tup [V.str ("box" : Str), x]) = J1 at s1 g1 h2 h3 h4
    have s2 : Same J1 (upd J1 b2 (.tup [V.str ("box" : Str), x])) := Same.new h2
    have g2 : (upd J1 b2 (.tup [V.str ("box" : Str), x])) b2 = some (.tup [V.str ("box" : Str), x]) := upd_same
    generalize upd J1 b2 (.tup [V.str ("box" : Str), x]) = J2 at s2 g2 h3 h4
    have s3 : Same J2 (upd J2 b3 (.tup [V.str ("move" : Str), V.str b.nm, V.str b.nm])) := Same.new h3
    have g3 : (upd J2 b3 (.tup [V.str ("move" : Str), V.str b.nm, V.str b.nm])) b3 = some (.tup [V.str ("move" : Str), V.str b.nm, V.str b.nm]) := upd_same
    generalize upd J2 b3 (.tup [V.str ("move" : Str), V.str b.nm, V.str b.nm]) = J3 at s3 g3 h4
    have s4 : Same J3 (upd J3 b4 (.lst [V.ref b1, V.ref b2, V.ref b3])) := Same.new h4
    have g4 : (upd J3 b4 (.lst [V.ref b1, V.ref b2, V.ref b3])) b4 = some (.lst [V.ref b1, V.ref b2, V.ref b3]) := upd_same
    generalize upd J3 b4 (.lst [V.ref b1, V.ref b2, V.ref b3]) = J4 at s4 g4
    refine ⟨_, rfl, _, rfl, _, rfl, (by show 2 ≤ sizeLine; decide), fun c1 k1 => ⟨(by show 1 ≤ sizeLine; decide), fun c2 k2 => ⟨c2, 4, _, rfl, rfl, upd_same, by decide, by decide, (by show 1 * 4 ≤ sizeLine; decide), fun c3 k3 => ?_⟩⟩⟩
    have s5 : Same J4 (upd J4 c1 (.tup [V.str ("rule" : Str), x])) := Same.new k1
    have g5 : (upd J4 c1 (.tup [V.str ("rule" : Str), x])) c1 = some (.tup [V.str ("rule" : Str), x]) := upd_same
    generalize upd J4 c1 (.tup [V.str ("rule" : Str), x]) = J5 at s5 g5 k2 k3
    have s6 : Same J5 (upd J5 c2 (.lst [V.ref c1])) := Same.new k2
    generalize upd J5 c2 (.lst [V.ref c1]) = J6 at s6 k3
    have s7 : Same J6 (upd J6 c3 (.lst [V.ref c1, V.ref c1, V.ref c1, V.ref c1])) := Same.new k3
    have g7 : (upd J6 c3 (.lst [V.ref c1, V.ref c1, V.ref c1, V.ref c1])) c3 = some (.lst [V.ref c1, V.ref c1, V.ref c1, V.ref c1]) := upd_same
    have eR : upd J6 c3 (.lst (List.replicate ((4 : Int).toNat) [V.ref c1]).flatten) = upd J6 c3 (.lst [V.ref c1, V.ref c1, V.ref c1, V.ref c1]) := rfl
    rw [eR]
    clear eR
    generalize upd J6 c3 (.lst [V.ref c1, V.ref c1, V.ref c1, V.ref c1]) = J7 at s7 g7
    refine ⟨b4, c3, _, _, rfl, rfl, s7 _ _ (s6 _ _ (s5 _ _ g4)), g7, (by show 3 + 4 ≤ sizeLine; decide), fun c4 k4 => ?_⟩
    have s8 : Same J7 (upd J7 c4 (.lst [V.ref b1, V.ref b2, V.ref b3, V.ref c1, V.ref c1, V.ref c1, V.ref c1])) := Same.new k4
    have g8 : (upd J7 c4 (.lst [V.ref b1, V.ref b2, V.ref b3, V.ref c1, V.ref c1, V.ref c1, V.ref c1])) c4 = some (.lst [V.ref b1, V.ref b2, V.ref b3, V.ref c1, V.ref c1, V.ref c1, V.ref c1]) := upd_same
    have eR : upd J7 c4 (.lst ([V.ref b1, V.ref b2, V.ref b3] ++ [V.ref c1, V.ref c1, V.ref c1, V.ref c1])) = upd J7 c4 (.lst [V.ref b1, V.ref b2, V.ref b3, V.ref c1, V.ref c1, V.ref c1, V.ref c1]) := rfl
    rw [eR]
    clear eR
    generalize upd J7 c4 (.lst [V.ref b1, V.ref b2, V.ref b3, V.ref c1, V.ref c1, V.ref c1, V.ref c1]) = J8 at s8 g8
    have s58 := s5.trans (s6.trans (s7.trans s8))
    have s48 := s4.trans s58
    have s38 := s3.trans s48
    have s28 := s2.trans s38
    have s18 := s1.trans s28
    have gc : ResAt J8 (V.ref c1) (some [V.str ("rule" : Str), x]) := ⟨c1, rfl, (s6.trans (s7.trans s8)) _ _ g5⟩
    have ys : AllRes J8 [V.ref b1, V.ref b2, V.ref b3, V.ref c1, V.ref c1, V.ref c1, V.ref c1] [[.str "box", x], [.str "box", x], [.str "move", .str b.nm, .str b.nm], [.str "rule", x], [.str "rule", x], [.str "rule", x], [.str "rule", x]] :=
      ⟨⟨b1, rfl, s28 _ _ g1⟩, ⟨b2, rfl, s38 _ _ g2⟩, ⟨b3, rfl, s48 _ _ g3⟩, gc, gc, gc, gc, trivial⟩
    have xs := F7.all.ext (Same.x s18)
    refine ⟨Dl, c4, _, _, rfl, rfl, .inl ⟨SqL.of (s18 _ _ F7.lst), SqL.of g8⟩, rfl, AllRes.al xs ys (fun r hr => ?_), hq _ (F7.ext.trans (Same.x s18)) (F7.tabs.ext s18)⟩
    simp only [List.cons_append, List.nil_append, List.mem_cons, List.not_mem_nil, or_false] at hr
    rcases hr with rfl | rfl | rfl | rfl | rfl | rfl | rfl
    · exact flb
    · exact flb
    · exact flm
    · exact flr
    · exact flr
    · exact flr
    · exact flr
end
end Ts

set_option maxRecDepth 100000
set_option maxHeartbeats 8000000
namespace Ts
open PySem L2
/-! ### what is due of two rules -/
def dueV (rs : List Row) (d : Bool) (ts : List Str) (z f r : Str) : Bool := if r = "meant" then valOf rs d ts z else if r = "turned" then (valOf rs d ts f != decide (z ∈ ts)) else (if z ∈ ts then valOf rs d ts z else valOf rs d ts f)
def dueU (rs : List Row) (d : Bool) (ts : List Str) (r1 r2 z f : Str) : Bool := if (decide (("meant" : Str) ∈ [r1, r2]) && ((valOf rs d ts z != valOf rs d ts f) && !decide (z ∈ opensL rs))) = true then false else (dueV rs d ts z f r1 != dueV rs d ts z f r2)
def spLUn (K : PySem.W.Frag) (C CM : Addr) : Sp := fun vs H Q _ => ∃ (m t p rt : Addr) (z f r1 r2 : Str) (rs : List Row) (d : Bool) (ts : List Str), vs = [.ref m, .ref p, .str z, .str f, .ref rt] ∧ MeanAt C CM H m t rs d ts ∧ RowsL H p rs ∧ z ∈ names rs ∧ (f = ("top" : Str) ∨ f ∈ names rs) ∧ SqT K H rt [.str r1, .str r2] ∧ r1 ∈ rules3 ∧ r2 ∈ rules3 ∧
  ∀ H', Same H H' → Q (.bl (dueU rs d ts r1 r2 z f)) H'
theorem bl3 {p q : Prop} [Decidable p] [Decidable q] {a b c : Bool} : V.bl (if p then a else if q then b else c) = if p then V.bl a else if q then V.bl b else V.bl c := by
  by_cases h1 : p
  · rw [if_pos h1, if_pos h1]
  · rw [if_neg h1, if_neg h1]
    by_cases h2 : q
    · rw [if_pos h2, if_pos h2]
    · rw [if_neg h2, if_neg h2]
theorem three {a b c : V} {r : Str} (hr : r ∈ rules3) : valV (putK (putK [((.inr ("meant" : Str) : Key), a)] (.inr ("turned" : Str)) b) (.inr ("told" : Str)) c) (.inr r : Key) = some (if r = "meant" then a else if r = "turned" then b else c) := by
  rw [valV_put]
  by_cases h1 : (Sum.inr r : Key) = .inr ("told" : Str)
  · obtain rfl := Sum.inr.inj h1
    rw [if_pos rfl, if_neg (by decide +kernel), if_neg (by decide +kernel)]
  · rw [if_neg h1, valV_put]
    by_cases h2 : (Sum.inr r : Key) = .inr ("turned" : Str)
    · obtain rfl := Sum.inr.inj h2
      rw [if_pos rfl, if_neg (by decide +kernel), if_pos rfl]
    · rw [if_neg h2]
      have e : r = ("meant" : Str) := by
        unfold rules3 at hr
        simp only [List.mem_cons, List.not_mem_nil, or_false] at hr
        rcases hr with e | e | e
        · exact absurd (congrArg Sum.inr e) h1
        · exact absurd (congrArg Sum.inr e) h2
        · exact e
      rw [e, if_pos rfl, valV_pos rfl]
section
variable {P : Program} {w : World} {K : PySem.W.Frag} {mg : Str → Option Value} {base : Heap} {C CM CL : Addr}
abbrev pLUn : List Str := ["_law_meaning_here", "_law_rows_here", "_law_box", "_law_folder", "_law_rules"]
abbrev nLUn : List Str := ["_law_meaning_here", "_law_rows_here", "_law_box", "_law_folder", "_law_rules", "_law_before", "_law_is_turned", "_law_unlike_here", "_law_values"]
theorem sc_LUn : FnScope nLUn pLUn (defScope s_L_unlike) := ⟨rfl, rfl, rfl, by decide +kernel, rfl, by decide +kernel, by decide +kernel⟩
theorem ok_LUn (D : DefAt K mg "_law_unlike" s_L_unlike pLUn) (M : TxM K mg CM) (mS : MethAt K CM "states" "Meaning.states" s_Meaning_states ["self"]) (GS : FnOk P w K mg base CX0 2 mS.f mS.fd ["self"] (spMStates C CM))
    (Do : DefAt K mg "_law_open" s_L_open ["_law_rows_here"]) (Go : FnOk P w K mg base CX0 2 Do.f Do.fd ["_law_rows_here"] spLOpen) : FnOk P w K mg base CX0 3 D.f D.fd pLUn (spLUn K C CM) := by
  refine D.F.ok sc_LUn (fun vs H Q E h => ?_) (fun cdv A outer s H vs Q E hr h => ?_)
  · obtain ⟨m, t, p, rt, z, f, r1, r2, rs, d, ts, rfl, _⟩ := h
    rfl
  · obtain ⟨m, t, p, rt, z, f, r1, r2, rs, d, ts, rfl, hm, hL, hz, hf, hrt, h1, h2, hq⟩ := h
    have hu := hu_of hr
    have hv := hm.tree.val
    have l100 := hm.tree.len
    obtain ⟨dx, u, k, g1, g2, g3⟩ := id hm.ex
    refine ⟨_, pss_cons (ps_set (i := 5) sc_LUn.nd rfl (.inl rfl) (pe_meth0 (pv 0) M.cl mS.m GS hr mS.b .nil pass0))
      (pss_cons (ps_set (i := 6) sc_LUn.nd rfl (.inl rfl) (pe_cmpR op_in_seq (pv 2) (pe_fld (pv 0) rfl) (by rfl)))
      (pss_cons (ps_set (i := 7) sc_LUn.nd rfl (.inl rfl) (pe_cmpR op_ne (pe_dget hu (pv 5) (pv 2) (fun _ _ => rfl)) (pe_dget hu (pv 5) (pv 3) (fun _ _ => rfl)) (nomark _)))
      (C8.pss_cut (ps_if (PW.pt (pw_and (pt_cmpR op_in_seq pe_str (pv 4) (by rfl)) (pw_and (pt_val (pv 7)) (pw_and1 (pt_cmpR op_notIn_seq (pv 2) (pe_call Go hr rfl Do.g Do.F.kp Do.b .nil pass0 (pa_cons (pv 1) pa_nil)) (by rfl)))))) (pss_one (ps_ret pe_bl)) pss_nil)
      (pss_cons (ps_set (i := 8) sc_LUn.nd rfl (.inl rfl) (pe_disp (pps_cons pe_str (pe_dget hu (pv 5) (pv 2) (fun _ _ => rfl)) pps_nil) (by rfl) (by rfl) (fun z => by cases z) (by decide)))
      (pss_cons (ps_dput hu (pv 8) pe_str (pe_cmpR op_ne (pe_dget hu (pv 5) (pv 3) (fun _ _ => rfl)) (pv 6) (nomark _)) rfl)
      (pss_cons (ps_dput hu (pv 8) pe_str (pe_weak (pe_ifExp (pt_val (pv 6)) (pe_dget hu (pv 5) (pv 2) (fun _ _ => rfl)) (pe_dget hu (pv 5) (pv 3) (fun _ _ => rfl)))) rfl)
      (pss_one (ps_ret (pe_cmpR op_ne (pe_dget hu (pv 8) (pe_ix ix_tup (pv 4) pe_int (fun _ _ => rfl)) (fun _ _ => rfl)) (pe_dget hu (pv 8) (pe_ix ix_tup (pv 4) pe_int (fun _ _ => rfl)) (fun _ _ => rfl)) (nomark _)))))))))), ?_⟩
    have noS : (mf t u k d).lookup ("states" : Str) = none := mf_no _ _ _ _ (by decide +kernel) (by decide +kernel) (by decide +kernel) (by decide +kernel)
    have nz : z ≠ ("top" : Str) := fun e => top_not hv (e ▸ hz)
    have kz : valV (kvM rs d ts rs) (.inr z : Key) = some (.bl (valOf rs d ts z)) := valV_kvM hv d ts (.inr ⟨nz, hz⟩)
    have kf : valV (kvM rs d ts rs) (.inr f : Key) = some (.bl (valOf rs d ts f)) := valV_kvM hv d ts (hf.imp id fun h => ⟨fun e => top_not hv (e ▸ h), h⟩)
    have neB : ∀ a b : Bool, (!decide (V.bl a = V.bl b)) = (a != b) := fun a b => by cases a <;> cases b <;> rfl
    refine ⟨_, rfl, m, dx, _, rfl, g1, noS, m, t, rs, d, ts, rfl, hm, fun D hD => ?_⟩
    have s1 : Same H (upd H D (.dK (kvM rs d ts rs))) := Same.new hD
    have eD : (upd H D (.dK (kvM rs d ts rs))) D = some (.dK (kvM rs d ts rs)) := upd_same
    generalize upd H D (.dK (kvM rs d ts rs)) = H1 at s1 eD
    have gz : ∀ {H' : Hp}, H' D = some (.dK (kvM rs d ts rs)) → DGet H' D (.str z) (some (.bl (valOf rs d ts z))) := fun {H'} e => by
      have := DGet.k (k := Sum.inr z) e
      rw [kz] at this
      exact this
    have gf : ∀ {H' : Hp}, H' D = some (.dK (kvM rs d ts rs)) → DGet H' D (.str f) (some (.bl (valOf rs d ts f))) := fun {H'} e => by
      have := DGet.k (k := Sum.inr f) e
      rw [kf] at this
      exact this
    refine ⟨_, rfl, _, rfl, m, CM, dx, _, _, rfl, s1 _ _ g1, M.cl, M.nu, mf_u _ _ _ _, u, _, rfl, .inr (sqT (s1 _ _ g2)), rfl, flat_strs _, ?_⟩
    rw [show (if false = true then !inV (.str z) (ts.map V.str) else inV (.str z) (ts.map V.str)) = decide (z ∈ ts) from by rw [if_neg Bool.false_ne_true, inV_strs]]
    refine ⟨_, rfl, _, rfl, D, _, rfl, gz eD, _, rfl, _, rfl, D, _, rfl, gf eD, rfl, ?_⟩
    rw [neB]
    have hrt1 := hrt.ext s1
    refine ⟨fun σ' H' => σ' = [some (.ref m), some (.ref p), some (.str z), some (.str f), some (.ref rt), some (.ref D), some (.bl (decide (z ∈ ts))), some (.bl (valOf rs d ts z != valOf rs d ts f)), none] ∧ Same H1 H' ∧ (decide (("meant" : Str) ∈ [r1, r2]) && ((valOf rs d ts z != valOf rs d ts f) && !decide (z ∈ opensL rs))) = false, ?_, ?_⟩
    · refine ⟨_, rfl, rt, _, rfl, .inr hrt1, rfl, rfl, _, rfl, ?_⟩
      rw [show (if false = true then !inV (.str ("meant" : Str)) [V.str r1, V.str r2] else inV (.str ("meant" : Str)) [V.str r1, V.str r2]) = decide (("meant" : Str) ∈ [r1, r2]) from by rw [if_neg Bool.false_ne_true]; exact inV_strs _ [r1, r2]]
      refine ite2 (fun c1 => ?_) (fun c1 => iteF ⟨rfl, Same.refl _, by rw [Bool.not_eq_true _ |>.mp c1, Bool.false_and]⟩)
      refine ⟨_, rfl, _, rfl, ?_⟩
      refine ite2 (fun c2 => ?_) (fun c2 => iteF ⟨rfl, Same.refl _, by rw [Bool.not_eq_true _ |>.mp c2, Bool.false_and, Bool.and_false]⟩)
      refine ⟨_, rfl, _, rfl, p, rs, rfl, hL.same s1, l100, fun Do Ho nDo so eo => ⟨Do, _, rfl, .inl (SqL.of eo), rfl, flat_strs _, _, rfl, ?_⟩⟩
      rw [show (if true = true then !inV (.str z) (((rs.filter fun r => decide (r.pr ≠ none)).map (·.nm)).map V.str) else inV (.str z) (((rs.filter fun r => decide (r.pr ≠ none)).map (·.nm)).map V.str)) = !decide (z ∈ opensL rs) from by rw [if_pos rfl, inV_strs]; rfl]
      refine ite2 (fun c3 => ?_) (fun c3 => ⟨rfl, so, by rw [Bool.not_eq_true _ |>.mp c3, Bool.and_false, Bool.and_false]⟩)
      have : dueU rs d ts r1 r2 z f = false := by unfold dueU; rw [if_pos (by rw [c1, c2, c3]; rfl)]
      rw [← this]
      exact hq _ (s1.trans so)
    rintro σ' H2 ⟨rfl, s2, hc⟩
    have sA := s1.trans s2
    have eD2 := s2 _ _ eD
    have du : dueU rs d ts r1 r2 z f = (dueV rs d ts z f r1 != dueV rs d ts z f r2) := by unfold dueU; rw [if_neg (by rw [hc]; exact Bool.false_ne_true)]
    rw [du] at hq
    refine fun wd hwd => ⟨_, rfl, _, rfl, D, _, rfl, gz ((Same.new hwd) _ _ eD2), upd_same, [(.inr ("meant" : Str), .bl (valOf rs d ts z))], rfl, (by show 1 ≤ 15; decide), ?_⟩
    have s3 : Same H2 (upd (upd H2 wd (.dK [])) wd (.dK (mergeK [] [(.inr ("meant" : Str), .bl (valOf rs d ts z))]))) := fun b o e => by
      rw [upd_ne (ne_of_none e hwd), upd_ne (ne_of_none e hwd)]; exact e
    have eW : (upd (upd H2 wd (.dK [])) wd (.dK (mergeK [] [(.inr ("meant" : Str), .bl (valOf rs d ts z))]))) wd = some (.dK [(.inr ("meant" : Str), .bl (valOf rs d ts z))]) := upd_same
    have nD : D ≠ wd := ne_of_none eD2 hwd
    have nR : ∀ {b : Addr} {o : HO}, H2 b = some o → b ≠ wd := fun {b o} e => ne_of_none e hwd
    generalize upd (upd H2 wd (.dK [])) wd (.dK (mergeK [] [(.inr ("meant" : Str), .bl (valOf rs d ts z))])) = H3 at s3 eW
    have eD3 := s3 _ _ eD2
    refine ⟨_, rfl, _, rfl, D, _, rfl, gf eD3, _, rfl, rfl, ?_⟩
    rw [neB]
    refine ⟨_, rfl, wd, _, rfl, DPut.k (k := Sum.inr ("turned" : Str)) eW (small1000 (by show 1 ≤ 1000; decide)), ?_⟩
    have eW4 : (upd H3 wd (.dK (putK [((.inr ("meant" : Str) : Key), V.bl (valOf rs d ts z))] (.inr ("turned" : Str)) (.bl (valOf rs d ts f != decide (z ∈ ts)))))) wd = some (.dK (putK [((.inr ("meant" : Str) : Key), V.bl (valOf rs d ts z))] (.inr ("turned" : Str)) (.bl (valOf rs d ts f != decide (z ∈ ts))))) := upd_same
    have sb4 : SB wd H3 (upd H3 wd (.dK (putK [((.inr ("meant" : Str) : Key), V.bl (valOf rs d ts z))] (.inr ("turned" : Str)) (.bl (valOf rs d ts f != decide (z ∈ ts)))))) := fun b o nb e => by rw [upd_ne nb]; exact e
    generalize upd H3 wd (.dK (putK [((.inr ("meant" : Str) : Key), V.bl (valOf rs d ts z))] (.inr ("turned" : Str)) (.bl (valOf rs d ts f != decide (z ∈ ts))))) = H4 at eW4 sb4
    have eD4 := sb4 _ _ nD eD3
    refine ⟨fun v H' => v = .bl (if z ∈ ts then valOf rs d ts z else valOf rs d ts f) ∧ H' = H4, ⟨_, rfl, _, rfl, ?_⟩, ?_⟩
    · refine ite2 (fun c => ?_) (fun c => ?_)
      · have hc' : z ∈ ts := of_decide_eq_true c
        refine ⟨_, rfl, _, rfl, D, _, rfl, gz eD4, ?_⟩
        rw [if_pos hc']
        exact ⟨rfl, rfl⟩
      · have hc' : ¬ z ∈ ts := fun e => c (decide_eq_true e)
        refine ⟨_, rfl, _, rfl, D, _, rfl, gf eD4, ?_⟩
        rw [if_neg hc']
        exact ⟨rfl, rfl⟩
    rintro v H' ⟨rfl, rfl⟩
    refine ⟨_, rfl, wd, _, rfl, DPut.k (k := Sum.inr ("told" : Str)) eW4 (small1000 (by show 2 ≤ 1000; decide)), ?_⟩
    have gt : ∀ {r : Str}, r ∈ rules3 → DGet (upd H' wd (.dK (putK (putK [((.inr ("meant" : Str) : Key), V.bl (valOf rs d ts z))] (.inr ("turned" : Str)) (.bl (valOf rs d ts f != decide (z ∈ ts)))) (.inr ("told" : Str)) (.bl (if z ∈ ts then valOf rs d ts z else valOf rs d ts f))))) wd (.str r) (some (.bl (dueV rs d ts z f r))) := fun {r} hr' => by
      have := DGet.k (H := upd H' wd (.dK (putK (putK [((.inr ("meant" : Str) : Key), V.bl (valOf rs d ts z))] (.inr ("turned" : Str)) (.bl (valOf rs d ts f != decide (z ∈ ts)))) (.inr ("told" : Str)) (.bl (if z ∈ ts then valOf rs d ts z else valOf rs d ts f))))) (k := Sum.inr r) upd_same
      rw [three hr'] at this
      unfold dueV
      rw [bl3]
      exact this
    have s5 : SB wd H3 (upd H' wd (.dK (putK (putK [((.inr ("meant" : Str) : Key), V.bl (valOf rs d ts z))] (.inr ("turned" : Str)) (.bl (valOf rs d ts f != decide (z ∈ ts)))) (.inr ("told" : Str)) (.bl (if z ∈ ts then valOf rs d ts z else valOf rs d ts f))))) := fun b o nb e => by rw [upd_ne nb]; exact sb4 b o nb e
    generalize upd H' wd (.dK (putK (putK [((.inr ("meant" : Str) : Key), V.bl (valOf rs d ts z))] (.inr ("turned" : Str)) (.bl (valOf rs d ts f != decide (z ∈ ts)))) (.inr ("told" : Str)) (.bl (if z ∈ ts then valOf rs d ts z else valOf rs d ts f)))) = H5 at gt s5
    have sF : Same H2 H5 := fun b o e => s5 b o (nR e) (s3 _ _ e)
    have hrt5 := (hrt1.ext s2).ext sF
    refine ⟨_, rfl, _, rfl, rt, _, _, _, rfl, rfl, hrt5, atI_nat (j := 0) rfl, wd, _, rfl, gt h1, _, rfl, _, rfl, rt, _, _, _, rfl, rfl, hrt5, atI_nat (j := 1) rfl, wd, _, rfl, gt h2, rfl, ?_⟩
    rw [neB]
    exact hq _ (sA.trans sF)
end
end Ts

set_option maxRecDepth 100000
set_option maxHeartbeats 8000000
namespace Ts
open PySem L2
/-! ### the pairs that are due are the pairs that are found -/
theorem dueV_needs {rs : List Row} {d : Bool} {ts : List Str} {z f r : Str} (hr : r ∈ rules3) : dueV rs d ts z f r = (valOf rs d ts f != needs rs d ts z f r) := by
  unfold rules3 at hr
  simp only [List.mem_cons, List.not_mem_nil, or_false] at hr
  unfold dueV needs
  rcases hr with rfl | rfl | rfl
  · have t1 : ¬ (("told" : Str) = "meant") := by decide +kernel
    have t2 : ¬ (("told" : Str) = "turned") := by decide +kernel
    rw [if_neg t1, if_neg t2, if_neg t1, if_pos (rfl : ("told" : Str) = "told")]
    by_cases h : z ∈ ts
    · rw [if_pos h, decide_eq_true h]
      cases valOf rs d ts z <;> cases valOf rs d ts f <;> rfl
    · rw [if_neg h, decide_eq_false h]
      cases valOf rs d ts z <;> cases valOf rs d ts f <;> rfl
  · have t1 : ¬ (("turned" : Str) = "meant") := by decide +kernel
    have t2 : ¬ (("turned" : Str) = "told") := by decide +kernel
    rw [if_neg t1, if_pos (rfl : ("turned" : Str) = "turned"), if_neg t1, if_neg t2]
  · rw [if_pos rfl, if_pos rfl]
    cases valOf rs d ts z <;> cases valOf rs d ts f <;> rfl
theorem due_apart {rs : List Row} (hv : Valid rs) {d : Bool} {ts : List Str} (hf : ∀ x ∈ ts, Free rs x) {z f r1 r2 : Str} (h1 : r1 ∈ rules3) (h2 : r2 ∈ rules3) (hz : z ∈ names rs) : dueU rs d ts r1 r2 z f = (decide (z ∈ opensL rs) && apart rs d ts r1 r2 z f) := by
  have ap : (dueV rs d ts z f r1 != dueV rs d ts z f r2) = apart rs d ts r1 r2 z f := by
    rw [dueV_needs h1, dueV_needs h2]
    unfold apart
    cases valOf rs d ts f <;> cases needs rs d ts z f r1 <;> cases needs rs d ts z f r2 <;> rfl
  unfold dueU
  by_cases ho : z ∈ opensL rs
  · rw [decide_eq_true ho, Bool.not_true, Bool.and_false, Bool.and_false, if_neg Bool.false_ne_true, ap, Bool.true_and]
  · rw [decide_eq_false ho, Bool.not_false, Bool.and_true, Bool.false_and]
    have tz : z ∉ ts := fun h => ho (by
      obtain ⟨r, e, pr⟩ := hf z h
      have hr := List.mem_of_find?_eq_some (show rs.find? (fun r => decide (r.nm = z)) = some r from e)
      have en : r.nm = z := by
        have := List.find?_some (show rs.find? (fun r => decide (r.nm = z)) = some r from e)
        exact of_decide_eq_true this
      exact List.mem_map.mpr ⟨r, List.mem_filter.mpr ⟨hr, decide_eq_true pr⟩, en⟩)
    have nd : ∀ r ∈ rules3, r ≠ ("meant" : Str) → needs rs d ts z f r = false := fun r hr ne => by
      unfold needs
      rw [if_neg ne, decide_eq_false tz]
      split <;> rfl
    have nm : (valOf rs d ts z != valOf rs d ts f) = false → ∀ r ∈ rules3, needs rs d ts z f r = false := fun e r hr => by
      by_cases h : r = ("meant" : Str)
      · unfold needs
        rw [if_pos h, e]
      · exact nd r hr h
    split
    · rfl
    · rename_i hc
      rw [ap]
      unfold apart
      cases hvv : (valOf rs d ts z != valOf rs d ts f) with
      | false => rw [nm hvv r1 h1, nm hvv r2 h2]; rfl
      | true =>
        have hm : ("meant" : Str) ∉ [r1, r2] := fun h => hc (by rw [decide_eq_true h, hvv]; rfl)
        rw [nd r1 h1 (fun e => hm (by rw [e]; exact List.mem_cons_self ..)), nd r2 h2 (fun e => hm (by rw [e]; simp))]
        rfl
def placeOf (rs : List Row) (z : Str) (l : List Str) : List (Str × Str) := (l.filter fun f => !decide (f ∈ beneathL rs z)).map fun f => (z, f)
def placesL (rs : List Row) (l : List Str) : List (Str × Str) := l.flatMap fun z => placeOf rs z (("top" : Str) :: foldL rs)
theorem places_goals {rs : List Row} (hv : Valid rs) {z : Str} (hz : z ∈ names rs) : ((("top" : Str) :: foldL rs).filter fun f => !decide (f ∈ beneathL rs z)) = goalsL rs z := by
  have nt : ("top" : Str) ∉ beneathL rs z := fun h => by
    obtain ⟨q, hq, e⟩ := List.mem_map.mp h
    exact top_not hv (by rw [← e]; exact List.mem_map.mpr ⟨q, (List.mem_filter.mp hq).1, rfl⟩)
  have zt : z ≠ ("top" : Str) := fun e => top_not hv (e ▸ hz)
  rw [List.filter_cons, if_pos (by rw [decide_eq_false nt]; rfl)]
  unfold goalsL
  congr 1
  refine List.filter_congr fun f hf => ?_
  obtain ⟨q, hq, rfl, _⟩ := mem_foldL.mp hf
  rw [in_beneath hv hq, under_iff hv zt hq]
  unfold gOk
  rw [in_below hv hq]
  by_cases e : q.nm = z
  · rw [decide_eq_true e, decide_eq_false (fun h => h e)]; rfl
  · rw [decide_eq_false e, decide_eq_true e, Bool.false_or, Bool.true_and]
theorem flat_filter {α β : Type} (p : α → Bool) (f : α → List β) : ∀ l : List α, (l.filter p).flatMap f = l.flatMap fun x => if p x = true then f x else []
  | [] => rfl
  | x :: l => by
    rw [List.filter_cons, List.flatMap_cons, ← flat_filter p f l]
    split
    · rw [List.flatMap_cons]
    · rw [List.nil_append]
theorem flat_congr {α β : Type} {f g : α → List β} : ∀ {l : List α}, (∀ x ∈ l, f x = g x) → l.flatMap f = l.flatMap g
  | [], _ => rfl
  | x :: l, h => by rw [List.flatMap_cons, List.flatMap_cons, h x (List.mem_cons_self ..), flat_congr fun y hy => h y (List.mem_cons_of_mem _ hy)]
theorem filter_flat {α β : Type} (p : β → Bool) (f : α → List β) : ∀ l : List α, (l.flatMap f).filter p = l.flatMap fun x => (f x).filter p
  | [] => rfl
  | x :: l => by rw [List.flatMap_cons, List.filter_append, List.flatMap_cons, filter_flat p f l]
theorem due_found {rs : List Row} (hv : Valid rs) {d : Bool} {ts : List Str} (hf : ∀ x ∈ ts, Free rs x) {r1 r2 : Str} (h1 : r1 ∈ rules3) (h2 : r2 ∈ rules3) : (placesL rs (names rs)).filter (fun q => dueU rs d ts r1 r2 q.1 q.2) = unlikeL rs d ts r1 r2 (opensL rs) := by
  unfold placesL unlikeL opensL
  rw [filter_flat, List.flatMap_map, flat_filter, show names rs = rs.map (·.nm) from rfl, List.flatMap_map]
  refine flat_congr fun r hr => ?_
  have hz : r.nm ∈ names rs := List.mem_map.mpr ⟨r, hr, rfl⟩
  have ho : decide (r.nm ∈ opensL rs) = decide (r.pr ≠ none) := by
    refine decide_eq_decide.mpr ⟨fun h => ?_, fun h => List.mem_map.mpr ⟨r, List.mem_filter.mpr ⟨hr, decide_eq_true h⟩, rfl⟩⟩
    obtain ⟨q, hq, e⟩ := List.mem_map.mp h
    obtain ⟨q1, q2⟩ := List.mem_filter.mp hq
    rw [← names_inj hv q1 hr e]
    exact of_decide_eq_true q2
  unfold placeOf pairsOf
  rw [places_goals hv hz, List.filter_map]
  have e : ((fun q : Str × Str => dueU rs d ts r1 r2 q.1 q.2) ∘ fun f => (r.nm, f)) = fun f => (decide (r.pr ≠ none) && apart rs d ts r1 r2 r.nm f) := by
    funext f
    show dueU rs d ts r1 r2 r.nm f = _
    rw [due_apart hv hf h1 h2 hz, ho]
  rw [e]
  cases decide (r.pr ≠ none) with
  | true => rw [if_pos rfl]; simp only [Bool.true_and]
  | false => rw [if_neg Bool.false_ne_true]; simp
theorem place_more {rs : List Row} {z f : Str} {l : List Str} {i : Nat} (h : l[i]? = some f) : placeOf rs z (l.take (i + 1)) = placeOf rs z (l.take i) ++ (if (!decide (f ∈ beneathL rs z)) = true then [(z, f)] else []) := by
  unfold placeOf
  rw [filter_moreS h, List.map_append]
  split <;> rfl
theorem places_more {rs : List Row} {z : Str} {l : List Str} {i : Nat} (h : l[i]? = some z) : placesL rs (l.take (i + 1)) = placesL rs (l.take i) ++ placeOf rs z (("top" : Str) :: foldL rs) := by
  unfold placesL
  rw [take_more h, List.flatMap_append, List.flatMap_cons, List.flatMap_nil, List.append_nil]
end Ts

set_option maxRecDepth 100000
set_option maxHeartbeats 8000000
namespace Ts
open PySem L2
open LamX (ExtN Tabs TabB)
theorem RowsL.sbl {H H' : Hp} {p D : Addr} {rs : List Row} {xs : List V} (h : RowsL H p rs) (np : p ≠ D) (e : H D = some (.lst xs)) (s : SB D H H') : RowsL H' p rs := by
  obtain ⟨as, h1, h2⟩ := h.ex
  exact ⟨as, s _ _ np h1, ⟨h2.len, fun i a r ha hr => s _ _ (fun q => by have e2 := h2.at_ i a r ha hr; rw [q, e] at e2; cases e2) (h2.at_ i a r ha hr)⟩⟩
theorem sq_ext {K : PySem.W.Frag} {H H' : Hp} {a : Addr} {xs : List V} (h : SqL K H a xs) (s : ExtN H H') : SqL K H' a xs := by
  rcases h with (h | ⟨o, h⟩) | h
  · exact .inl (.inl (s _ _ h nofun))
  · exact .inl (.inr ⟨o, s _ _ h nofun⟩)
  · exact .inr h
theorem PrAt.al {K : PySem.W.Frag} {H : Hp} {as bs : List Addr} {ps : List (Str × Str)} (h1 : PrAt H as ps) (h2 : PrAt H bs ps) : ∀ (i : Nat) (u v : V), (as.map V.ref)[i]? = some u → (bs.map V.ref)[i]? = some v → Al K H 8 u v := fun i u v hu hv => by
  rw [List.getElem?_map] at hu hv
  obtain ⟨a, ha, rfl⟩ := Option.map_eq_some_iff.mp hu
  obtain ⟨b, hb, rfl⟩ := Option.map_eq_some_iff.mp hv
  have hi := (List.getElem?_eq_some_iff.mp ha).1
  obtain ⟨q, hq⟩ : ∃ q, ps[i]? = some q := ⟨ps[i]'(by rw [← h1.len]; exact hi), List.getElem?_eq_getElem _⟩
  refine al_res (n := 7) ⟨a, rfl, h1.at_ i a q ha hq⟩ ⟨b, rfl, h2.at_ i b q hb hq⟩ fun z hz => ?_
  simp only [List.mem_cons, List.not_mem_nil, or_false] at hz
  rcases hz with rfl | rfl <;> exact .inl rfl
theorem place_mem {rs : List Row} {q : Str × Str} (h : q ∈ placesL rs (names rs)) : q.1 ∈ names rs ∧ (q.2 = ("top" : Str) ∨ q.2 ∈ names rs) := by
  obtain ⟨z, hz, hq⟩ := List.mem_flatMap.mp h
  obtain ⟨f, hf, rfl⟩ := List.mem_map.mp hq
  refine ⟨hz, ?_⟩
  rcases List.mem_cons.mp (List.mem_filter.mp hf).1 with e | e
  · exact .inl e
  · obtain ⟨q, hq, e2, _⟩ := mem_foldL.mp e
    exact .inr (List.mem_map.mpr ⟨q, hq, e2⟩)
theorem filter_more_any {α : Type} {l : List α} {i : Nat} {z : α} (h : l[i]? = some z) (p : α → Bool) : (l.take (i + 1)).filter p = (l.take i).filter p ++ (if p z = true then [z] else []) := by
  rw [take_more h, List.filter_append, List.filter_cons, List.filter_nil]
theorem SB.x {D : Addr} {H H' : Hp} {xs : List V} (s : SB D H H') (e : H D = some (.lst xs)) (hk : ∀ b o, H b = some o → (∀ ps, o ≠ .tbl ps) → b = D → False) : ExtN H H' := fun b o h n => s b o (fun q => hk b o h n q) h
def spLawT (K : PySem.W.Frag) (T : List (Addr × Str)) : Sp := fun vs H Q _ => ∃ (a : Addr) (ns : List Int), vs = [.ref a] ∧ SqL K H a (ns.map V.int) ∧ ns.length ≤ 63 ∧ Tabs T H ∧ ∀ H', Q (.bl true) H'
section
variable {P : Program} {w : World} {K : PySem.W.Frag} {mg : Str → Option Value} {base : Heap} {C CM : Addr} {T : List (Addr × Str)}
abbrev nLaw : List Str := ["_law_script", "_law_turn", "_law_stream_here", "_law_rows_here", "_law_meaning_here", "_law_places", "_law_box", "_law_folder", "_law_one", "_law_other", "_law_found", "_law_both", "_law_due", "_law_odd", "_law_row", "_law_pair"]
theorem sc_law : FnScope nLaw ["_law_script"] (defScope s_law) := ⟨rfl, rfl, rfl, by decide +kernel, rfl, by decide +kernel, by decide +kernel⟩
theorem ok_law {fT : Addr} {fdT : FuncData} (D : DefAt K mg "law" s_law ["_law_script"]) (B : TxB mg) (TT : TxT K mg C)
    (Ds : DefAt K mg "_law_stream" s_L_stream ["_law_script", "_law_k"]) (Dd : DefAt K mg "_law_draw" s_L_draw ["_law_stream_here", "_law_many"])
    (Dk : DefAt K mg "_law_kinds" s_L_kinds []) (Dpr : DefAt K mg "_law_prices" s_L_prices [])
    (Dr : DefAt K mg "_law_rows" s_L_rows ["_law_stream_here", "_law_many", "_law_kinds_here", "_law_prices_here"]) (Gr : FnOk P w K mg base CX0 5 Dr.f Dr.fd ["_law_stream_here", "_law_many", "_law_kinds_here", "_law_prices_here"] (spRows K))
    (Dmn : DefAt K mg "_law_meaning" s_L_meaning pMng) (Gmn : FnOk P w K mg base CX0 9 Dmn.f Dmn.fd pMng (spLMeaningF C CM))
    (Db : DefAt K mg "_law_beneath" s_L_beneath ["_law_rows_here", "_law_box"]) (Gb : FnOk P w K mg base CX0 3 Db.f Db.fd ["_law_rows_here", "_law_box"] spBeneath)
    (Dun : DefAt K mg "_law_unlike" s_L_unlike pLUn) (Gun : FnOk P w K mg base CX0 3 Dun.f Dun.fd pLUn (spLUn K C CM))
    (Dul : DefAt K mg "unlike_moves" s_unlike_moves ["meaning", "rule", "other"]) (Gul : FnOk P w K mg base CX0 7 Dul.f Dul.fd ["meaning", "rule", "other"] (spUnlikeM C CM))
    (Dri : DefC K mg "_law_refusals_right" s_L_refusals_right pRi) (Gri : FnOk P w K mg base CX0 13 Dri.f Dri.fd pRi (spRight C CM T))
    (MT : Mk K C fT) (bT : Binds K fdT ["self", "rows"] []) (GT : FnOk P w K mg base CX0 5 fT fdT ["self", "rows"] (spTreeInit C)) :
    FnOk P w K mg base CX0 14 D.f D.fd ["_law_script"] (spLawT K T) := by
  have Gs : FnOk P w K mg base CX0 2 Ds.f Ds.fd ["_law_script", "_law_k"] (spStream K) := ok_stream Ds B
  have Gd : FnOk P w K mg base CX0 2 Dd.f Dd.fd ["_law_stream_here", "_law_many"] spDraw := ok_draw Dd B
  have Gk : FnOk P w K mg base CX0 2 Dk.f Dk.fd [] spKinds := ok_kinds Dk
  have Gpr : FnOk P w K mg base CX0 2 Dpr.f Dpr.fd [] spPrices := ok_prices Dpr
  refine D.F.ok sc_law (fun vs H Q E h => ?_) (fun cdv A outer s H vs Q E hr h => ?_)
  · obtain ⟨a, ns, rfl, _⟩ := h
    rfl
  · obtain ⟨a0, ns, rfl, hS, hlen, hT, hq⟩ := h
    have h64 := hr.units
    have r2 : Room 2 _ := hr.mono (by decide)
    have r3 : Room 3 _ := hr.mono (by decide)
    have r5 : Room 5 _ := hr.mono (by decide)
    have r6 : Room 6 _ := hr.mono (by decide)
    have r7 : Room 7 _ := hr.mono (by decide)
    have r9 : Room 9 _ := hr.mono (by decide)
    refine ⟨_, pss_cons (ps_for PassesOwn.never rfl (pi_range1 (by rfl) B.range (pa_cons pe_int pa_nil)) (pg_name (i := 1) sc_law.nd rfl (.inl rfl))
        (pss_cons (ps_set (i := 2) sc_law.nd rfl (.inl rfl) (pe_call Gs r2 rfl Ds.g Ds.F.kp Ds.b .nil pass0 (pa_cons (pv 0) (pa_cons (pv 1) pa_nil))))
        (pss_cons (ps_set (i := 3) sc_law.nd rfl (.inr rfl) (pe_call Gr r5 rfl Dr.g Dr.F.kp Dr.b .nil pass0 (pa_cons (pv 2) (pa_cons (pe_op op_add pe_int (pe_call Gd r2 rfl Dd.g Dd.F.kp Dd.b .nil pass0 (pa_cons (pv 2) (pa_cons pe_int pa_nil)))) (pa_cons (pe_call0 Gk r2 rfl Dk.g Dk.F.kp Dk.b .nil pass0) (pa_cons (pe_call0 Gpr r2 rfl Dpr.g Dpr.F.kp Dpr.b .nil pass0) pa_nil))))))
        (pss_cons (ps_set (i := 4) sc_law.nd rfl (.inr rfl) (pe_call Gmn r9 rfl Dmn.g Dmn.F.kp Dmn.b .nil pass0 (pa_cons (pv 2) (pa_cons (pv 3) (pa_cons (pe_make MT GT r6 rfl TT.g bT .nil pass0 (pa_cons (pv 3) pa_nil)) pa_nil)))))
        (pss_cons (ps_set (i := 5) sc_law.nd rfl (.inl rfl) (pe_lst pa_nil))
        (pss_cons (ps_for PassesOwn.never rfl (pi_list (pe_lc (own := [("_law_row", 14)]) (g := gName 14) (tt := tYes) (te := tOp (rIxT K) (tVar 14) (tC (.int 0))) rfl sc_law.nd (pi_list (pv 3)) (blkOk_by (N := nLaw) (sc := defScope s_law) (by decide +kernel))
            (fun _ _ _ _ _ => pg_name (i := 14) sc_law.nd rfl (Or.inl rfl)) (fun _ _ _ _ _ => pts_nil) (fun _ _ _ _ _ => by exact pe_ix ix_tup (pv 14) pe_int (fun _ _ => rfl)))) (pg_name (i := 6) sc_law.nd rfl (.inl rfl))
          (pss_one (ps_for PassesOwn.never rfl (pi_list (pe_op op_cat (pe_lst (pa_cons pe_str pa_nil)) (pe_lc (own := [("_law_row", 14)]) (g := gName 14) (tt := tTest (tOp rEq (tOp (rIxT K) (tVar 14) (tC (.int 2))) (tC (.str ("folder" : Str))))) (te := tOp (rIxT K) (tVar 14) (tC (.int 0))) rfl sc_law.nd (pi_list (pv 3)) (blkOk_by (N := nLaw) (sc := defScope s_law) (by decide +kernel))
              (fun _ _ _ _ _ => pg_name (i := 14) sc_law.nd rfl (Or.inl rfl)) (fun _ _ _ _ _ => by exact pts_one (pt_cmpR op_eq (pe_ix ix_tup (pv 14) pe_int (fun _ _ => rfl)) pe_str (nomark _))) (fun _ _ _ _ _ => by exact pe_ix ix_tup (pv 14) pe_int (fun _ _ => rfl))))) (pg_name (i := 7) sc_law.nd rfl (.inl rfl))
            (pss_one (ps_if (pt_cmpR op_notIn_seq (pv 7) (pe_call Gb r3 rfl Db.g Db.F.kp Db.b .nil pass0 (pa_cons (pv 3) (pa_cons (pv 6) pa_nil))) (by rfl))
              (pss_one (ps_expr (pe_bm PySem.F.plainAttrs_list PySem.F.slot_list_append PySem.F.type_list_append mt_append (pv 5) (pa_cons (pe_tup (pa_cons (pv 6) (pa_cons (pv 7) pa_nil))) pa_nil)))) pss_nil)))))
        (pss_cons (ps_for PassesOwn.never rfl (pi_tup (pe_tup (pa_cons pe_str (pa_cons pe_str (pa_cons pe_str pa_nil))))) (pg_name (i := 8) sc_law.nd rfl (.inl rfl))
          (pss_one (ps_for PassesOwn.never rfl (pi_tup (pe_tup (pa_cons pe_str (pa_cons pe_str (pa_cons pe_str pa_nil))))) (pg_name (i := 9) sc_law.nd rfl (.inl rfl))
            (pss_cons (ps_asg (pe_tup (pa_cons (pe_call Gul r7 rfl Dul.g Dul.F.kp Dul.b .nil pass0 (pa_cons (pv 4) (pa_cons (pv 8) (pa_cons (pv 9) pa_nil)))) (pa_cons (pe_tup (pa_cons (pv 8) (pa_cons (pv 9) pa_nil))) pa_nil))) (pg_tup rfl (pgs_cons (pg_name (i := 10) sc_law.nd rfl (.inl rfl)) (pgs_cons (pg_name (i := 11) sc_law.nd rfl (.inr rfl)) pgs_nil))))
            (pss_cons (ps_setLc (i := 12) (own := [("_law_pair", 15)]) (g := gName 15) (tt := tTest (tCall (spLUn K C CM) [] E0 (tCons (tVar 4) (tCons (tVar 3) (tCons (tOp (rIxT K) (tVar 15) (tC (.int 0))) (tCons (tOp (rIxT K) (tVar 15) (tC (.int 1))) (tCons (tVar 11) tNil))))))) (te := tVar 15) rfl sc_law.nd rfl rfl (sw_true rfl rfl rfl (by decide +kernel)) (pi_list (pv 5)) (blkOk_by (N := nLaw) (sc := defScope s_law) (by decide +kernel))
              (fun _ _ _ _ _ => pg_name (i := 15) sc_law.nd rfl (Or.inl rfl)) (fun _ _ _ _ _ => by exact pts_one (pt_val (pe_call Gun r3 rfl Dun.g Dun.F.kp Dun.b .nil pass0 (pa_cons (pv 4) (pa_cons (pv 3) (pa_cons (pe_ix ix_tup (pv 15) pe_int (fun _ _ => rfl)) (pa_cons (pe_ix ix_tup (pv 15) pe_int (fun _ _ => rfl)) (pa_cons (pv 11) pa_nil)))))))) (fun _ _ _ _ _ => pv 15))
            (pss_cons (ps_if (pt_cmpR (op_neAl h64) (pv 10) (pv 12) (nomark _)) (pss_one (ps_ret pe_bl)) pss_nil)
            (pss_one (ps_expr (pe_bm PySem.F.plainAttrs_list PySem.F.slot_list_append PySem.F.type_list_append mt_append (pv 10) (pa_cons pe_non pa_nil))))))))))
        (pss_one (ps_for PassesOwn.never rfl (pi_list (pe_lst (pa_cons pe_non (pa_cons pe_int (pa_cons pe_str (pa_cons pe_str (pa_cons (pe_lst (pa_cons pe_str pa_nil)) (pa_cons pe_dnewK (pa_cons pe_bl pa_nil))))))))) (pg_name (i := 13) sc_law.nd rfl (.inl rfl))
          (pss_one (ps_if (pt_not (pt_val (pe_call Gri hr rfl Dri.g Dri.F.kp Dri.b .nil pass0 (pa_cons (pv 4) (pa_cons (pv 3) (pa_cons (pv 13) pa_nil)))))) (pss_one (ps_ret pe_bl)) pss_nil)))))))))))
      (pss_one (ps_ret pe_bl)), ?_⟩
    refine ⟨3, rfl, by decide, by decide, ?_⟩
    refine for_range (lo := 0) (n := (3 : Int).toNat) (fun i σ H' => ∃ v1 v2 v3 v4 v5 v6 v7 v8 v9 v10 v11 v12 v13 : Option V, σ = [some (.ref a0), v1, v2, v3, v4, v5, v6, v7, v8, v9, v10, v11, v12, v13, none, none] ∧ SqL K H' a0 (ns.map V.int) ∧ Tabs T H') ⟨_, _, _, _, _, _, _, _, _, _, _, _, _, rfl, hS, hT⟩ ?_ ?_
    · rintro i_ σ H1 hi ⟨v1, v2, v3, v4, v5, v6, v7, v8, v9, v10, v11, v12, v13, rfl, hS1, hT1⟩
      have hi3 : i_ < 3 := hi
      refine ⟨_, rfl, _, rfl, a0, ns, _, rfl, hS1, by omega, by omega, fun a x y ha hx hy hy1 => ?_⟩
      have st0 : Stm (upd H1 a (.lst [.int x, .int y, .int 0])) a 0 := ⟨x, y, 0, upd_same, hx, hy, hy1, by decide, by decide⟩
      have S2 : Same H1 (upd H1 a (.lst [.int x, .int y, .int 0])) := Same.new ha
      generalize upd H1 a (.lst [.int x, .int y, .int 0]) = H2 at st0 S2
      refine ⟨_, rfl, _, rfl, a, 7, 0, rfl, st0, by decide, by decide, by decide, fun q H3 q0 q1 st3 he3 => ⟨_, _, rfl, rfl, ?_⟩⟩
      have S3 := smb S2 ha (sb_eq he3)
      refine ⟨rfl, fun kl hkl => ⟨rfl, fun pl hpl => ?_⟩⟩
      have nka : kl ≠ a := (st3.ne hkl).symm
      have npa : pl ≠ a := ((st3.upd hkl).ne hpl).symm
      have nkp : kl ≠ pl := fun e => by rw [← e, upd_same] at hpl; cases hpl
      have s4 : Same H3 (upd (upd H3 kl (.lst (kindsL.map V.str))) pl (.lst (pricesL.map prV))) := (Same.new hkl).trans (Same.new hpl)
      refine ⟨a, kl, pl, 1 + q, _, kindsL, pricesL, rfl, st3.same s4, by omega, by omega, by omega, nka, npa, SqL.of (by rw [upd_ne nkp]; exact upd_same), SqL.of upd_same, by decide, by decide, by decide, by decide, kinds_ok3, prices_ok, fun p ras rs H5 hp0 np hp hrows hv hl hne hmem sb5 st5 => ?_⟩
      have S5 := smb (S3.trans s4) ha sb5
      have hL : RowsL H5 p rs := ⟨ras, hp, hrows⟩
      have hl7 : rs.length ≤ 7 := by omega
      have hne' : rs ≠ [] := hne (by omega)
      have st5 : Stm H5 a 200 := st5.mono (by omega)
      clear he3 sb5 s4 hkl hpl S3 S2 st3 st0 hp0 nka npa nkp
      -- the tree, the meaning
      refine ⟨_, rfl, _, rfl, _, rfl, fun t dt nt ndt _ => ⟨t, dt, p, ras, rs, rfl, upd_same, .inr (mk_same0 (C := C) nt ndt _ _ hp), (hrows.same (mk_same0 (C := C) nt ndt)).seq, by omega, hv, fun H6 sb6 ht6 => ⟨rfl, ?_⟩⟩⟩
      have s6 := mk_same nt ndt sb6
      refine ⟨a, p, t, _, rs, rfl, st5.same s6, by decide, hL.same s6, np, ht6, fun m d ts H7 hm hfree sb7 st7 => ?_⟩
      have L7 := (hL.same s6).sbk np (st5.same s6) sb7
      have S7 := smb (S5.trans s6) ha sb7
      have T7 := hT1.ext S7
      clear hp hrows hL S5 s6 sb6 nt ndt ht6 sb7 st5 st7 np
      -- the places
      refine ⟨(by show 0 ≤ sizeLine; decide), fun Pl hPl => ?_⟩
      obtain ⟨pas, pp7, prows7⟩ := id L7.ex
      have nP : p ≠ Pl := ne_of_none pp7 hPl
      have s8 : Same H7 (upd H7 Pl (.lst [])) := Same.new hPl
      have e8 : (upd H7 Pl (.lst [])) Pl = some (.lst []) := upd_same
      have nE : ∀ b o, H7 b = some o → b ≠ Pl := fun b o e => ne_of_none e hPl
      generalize upd H7 Pl (.lst []) = H8 at s8 e8
      have L8 := L7.same s8
      have hm8 := hm.same s8
      have pp := s8 _ _ pp7
      have prows := prows7.same s8
      refine ⟨_, rfl, p, rfl, ⟨_, SqL.of pp⟩, fun Db hDb => ?_⟩
      refine lc_list (K := K) (a := p) (xs := pas.map V.ref) (fun i H' => Same H8 H' ∧ H' Db = some (.lst (((rs.take i).map (·.nm)).map V.str))) ⟨Same.new hDb, upd_same⟩ (fun i H' _ m => SqL.of (m.1 _ _ pp)) ?_ ?_
      · rintro i x H3 hx ⟨s3, e3⟩
        obtain ⟨ra, r, rfl, hra, hr', e0⟩ := rows_at prows hx
        refine ⟨rfl, tYes_if ⟨_, rfl, ra, _, _, _, rfl, rfl, sqT (s3 _ _ e0), atI0 _ _ _ _, _, e3, small1000 (by rw [List.length_map, List.length_map, List.length_take]; omega), fun b o eb => ?_, ?_⟩⟩
        · rw [upd_ne (fun y => by rw [y, hDb] at eb; cases eb)]
          exact s3 _ _ eb
        · rw [upd_same, take_more hr', List.map_append, List.map_append]; rfl
      rintro H9 ⟨s9, e9⟩
      rw [List.length_map, prows.len, List.take_length] at e9
      have e9' : H9 Db = some (.lst ((names rs).map V.str)) := e9
      have eP9 := s9 _ _ e8
      have L9 := L8.same s9
      have hm9 := hm8.same s9
      have nDb : Db ≠ Pl := fun e => by rw [e, e8] at hDb; cases hDb
      have lnN : (names rs).length ≤ 7 := by unfold names; rw [List.length_map]; exact hl7
      have lnF : (foldL rs).length ≤ 7 := Nat.le_trans (foldL_len rs) hl7
      refine ⟨Db, rfl, ⟨_, SqL.of e9'⟩, ?_⟩
      refine for_list (K := K) (a := Db) (xs := (names rs).map V.str) (fun i σ H' => ∃ (w6 w7 : Option V) (as : List Addr), σ = [some (.ref a0), some (.int (0 + i_)), some (.ref a), some (.ref p), some (.ref m), some (.ref Pl), w6, w7, v8, v9, v10, v11, v12, v13, none, none] ∧ SB Pl H9 H' ∧ H' Pl = some (.lst (as.map V.ref)) ∧ PrAt H' as (placesL rs ((names rs).take i)) ∧ as.length ≤ 8 * i ∧ i ≤ 7) ⟨_, _, [], rfl, SB.refl _ _, eP9, PrAt.nil, Nat.zero_le _, Nat.zero_le _⟩ (fun i σ H' _ ⟨_, _, _, _, s, _⟩ => SqL.of (s _ _ nDb e9')) ?_ ?_
      · rintro i x σ H10 hx ⟨w6, w7, as, rfl, s10, eP10, pr10, ln10, i7⟩
        rw [List.getElem?_map] at hx
        obtain ⟨z, hzi, rfl⟩ := Option.map_eq_some_iff.mp hx
        have hi7 : i < 7 := by
          have := (List.getElem?_eq_some_iff.mp hzi).1
          omega
        have hz := List.mem_of_getElem? hzi
        have L10 := L9.sbl nP eP9 s10
        obtain ⟨pas10, pp10, prows10⟩ := id L10.ex
        refine ⟨(by show 1 ≤ sizeLine; decide), fun l1 hl1 => ?_⟩
        have n1 : l1 ≠ Pl := fun e => by rw [e, eP10] at hl1; cases hl1
        have s11 : Same H10 (upd H10 l1 (.lst [V.str ("top" : Str)])) := Same.new hl1
        have e11 : (upd H10 l1 (.lst [V.str ("top" : Str)])) l1 = some (.lst [V.str ("top" : Str)]) := upd_same
        generalize upd H10 l1 (.lst [V.str ("top" : Str)]) = H11 at s11 e11
        have pp11 := s11 _ _ pp10
        have prows11 := prows10.same s11
        refine ⟨_, rfl, p, rfl, ⟨_, SqL.of pp11⟩, fun Df hDf => ?_⟩
        refine lc_list (K := K) (a := p) (xs := pas10.map V.ref) (fun i H' => Same H11 H' ∧ H' Df = some (.lst ((foldL (rs.take i)).map V.str))) ⟨Same.new hDf, upd_same⟩ (fun i H' _ m => SqL.of (m.1 _ _ pp11)) ?_ ?_
        · rintro i x H7 hx ⟨s7, e7⟩
          obtain ⟨ra, r, rfl, hra, hr', e0⟩ := rows_at prows11 hx
          refine ⟨rfl, _, rfl, ra, _, _, _, rfl, rfl, sqT (s7 _ _ e0), atI2 _ _ _ _, rfl, _, rfl, ?_⟩
          refine ite2 (fun hi => ?_) (fun hi => ?_)
          · have hk : r.ki = ("folder" : Str) := V.str.inj (of_decide_eq_true hi)
            refine ⟨_, rfl, ra, _, _, _, rfl, rfl, sqT (s7 _ _ e0), atI0 _ _ _ _, _, e7, small1000 (by rw [List.length_map]; have := foldL_len (rs.take i); rw [List.length_take] at this; omega), fun b o eb => ?_, ?_⟩
            · rw [upd_ne (fun y => by rw [y, hDf] at eb; cases eb)]
              exact s7 _ _ eb
            · unfold foldL
              rw [upd_same, filter_take hr', if_pos (decide_eq_true hk), List.map_append]; rfl
          · have hk : ¬ r.ki = ("folder" : Str) := fun e => hi (decide_eq_true (congrArg V.str e))
            refine ⟨s7, ?_⟩
            unfold foldL
            rw [filter_take hr', if_neg (fun q => hk (of_decide_eq_true q)), List.append_nil]
            exact e7
        rintro H12 ⟨s12, e12⟩
        rw [List.length_map, prows11.len, List.take_length] at e12
        refine ⟨l1, Df, _, _, rfl, rfl, s12 _ _ e11, e12, szl (by rw [List.length_map]; show 1 + _ ≤ 1000; omega), fun G hG => ?_⟩
        have s13 := s11.trans (s12.trans (Same.new (o := .lst ([V.str ("top" : Str)] ++ (foldL rs).map V.str)) hG))
        have e13 : (upd H12 G (.lst ([V.str ("top" : Str)] ++ (foldL rs).map V.str))) G = some (.lst (((("top" : Str) :: foldL rs)).map V.str)) := upd_same
        have nG : G ≠ Pl := fun e => by rw [e, s12 _ _ (s11 _ _ eP10)] at hG; cases hG
        generalize upd H12 G (.lst ([V.str ("top" : Str)] ++ (foldL rs).map V.str)) = H13 at s13 e13
        have eP13 := s13 _ _ eP10
        have L13 := L10.same s13
        have pr13 := pr10.keep (H' := H13) fun b xs e => s13 _ _ e
        refine ⟨G, rfl, ⟨_, SqL.of e13⟩, ?_⟩
        refine for_list (K := K) (a := G) (xs := (("top" : Str) :: foldL rs).map V.str) (fun j σ H' => ∃ (w7 : Option V) (as : List Addr), σ = [some (.ref a0), some (.int (0 + i_)), some (.ref a), some (.ref p), some (.ref m), some (.ref Pl), some (.str z), w7, v8, v9, v10, v11, v12, v13, none, none] ∧ SB Pl H13 H' ∧ H' Pl = some (.lst (as.map V.ref)) ∧ PrAt H' as (placesL rs ((names rs).take i) ++ placeOf rs z ((("top" : Str) :: foldL rs).take j)) ∧ as.length ≤ 8 * i + j ∧ j ≤ 8) ⟨_, as, rfl, SB.refl _ _, eP13, by rw [List.take_zero]; unfold placeOf; rw [List.filter_nil, List.map_nil, List.append_nil]; exact pr13, by omega, Nat.zero_le _⟩ (fun j σ H' _ ⟨_, _, _, s, _⟩ => SqL.of (s _ _ nG e13)) ?_ ?_
        · rintro j y σ H14 hy ⟨w7', as14, rfl, s14, eP14, pr14, ln14, j8⟩
          rw [List.getElem?_map] at hy
          obtain ⟨f, hfj, rfl⟩ := Option.map_eq_some_iff.mp hy
          have hj8 : j < 8 := by
            have := (List.getElem?_eq_some_iff.mp hfj).1
            rw [List.length_cons] at this
            omega
          have L14 := L13.sbl nP eP13 s14
          refine ⟨_, rfl, _, rfl, _, rfl, p, z, rs, rfl, L14, hv, by omega, fun Bl H15 nB s15 eB => ⟨Bl, _, rfl, .inl (SqL.of eB), rfl, flat_strs _, _, rfl, ?_⟩⟩
          rw [show (if true = true then !inV (.str f) ((beneathL rs z).map V.str) else inV (.str f) ((beneathL rs z).map V.str)) = !decide (f ∈ beneathL rs z) from by rw [if_pos rfl, inV_strs]]
          have eP15 := s15 _ _ eP14
          refine ite2 (fun hc => ?_) (fun hc => ?_)
          · refine ⟨_, rfl, .inl ⟨rfl, _, SqL.of eP15⟩, _, rfl, _, rfl, (by show 2 ≤ sizeLine; decide), fun q hq => ⟨Pl, _, _, rfl, rfl, (Same.new hq) _ _ eP15, small1000 (by rw [List.length_map]; omega), ?_⟩⟩
            have nq : q ≠ Pl := fun e => by rw [e, eP15] at hq; cases hq
            refine ⟨_, as14 ++ [q], rfl, fun b o nb e => ?_, by rw [upd_same, List.map_append]; rfl, ?_, by rw [List.length_append]; show _ + 1 ≤ _; omega, by omega⟩
            · rw [upd_ne nb]; exact (Same.new hq) _ _ (s15 _ _ (s14 b o nb e))
            · rw [place_more hfj, if_pos hc, ← List.append_assoc]
              refine PrAt.snoc (pr14.keep fun b xs e => ?_) ?_
              · rw [upd_ne (fun z => by rw [z, eP14] at e; cases e)]
                exact (Same.new hq) _ _ (s15 _ _ e)
              · rw [upd_ne nq]; exact upd_same
          · refine ⟨_, as14, rfl, fun b o nb e => s15 _ _ (s14 b o nb e), eP15, ?_, by omega, by omega⟩
            rw [place_more hfj, if_neg hc, List.append_nil]
            exact pr14.keep fun b xs e => s15 _ _ e
        · rintro σ H14 ⟨w7', as14, rfl, s14, eP14, pr14, ln14, _⟩
          rw [List.length_map] at ln14 pr14
          rw [List.take_length] at pr14
          rw [List.length_cons] at ln14
          refine ⟨_, _, as14, rfl, fun b o nb e => s14 b o nb (s13 _ _ (s10 b o nb e)), eP14, ?_, by omega, by omega⟩
          rw [places_more hzi]
          exact pr14
      rintro σ H10 ⟨w6, w7, as, rfl, s10, eP10, pr10, ln10, _⟩
      rw [List.length_map, List.take_length] at pr10
      rw [List.length_map] at ln10
      have hm10 := hm9.sb eP9 s10
      have L10 := L9.sbl nP eP9 s10
      have S10 : Same H1 H10 := fun b o e => s10 b o (nE _ _ (S7 b o e)) (s9 _ _ (s8 _ _ (S7 b o e)))
      have T10 := hT1.ext S10
      clear pp prows pp7 prows7 e9 e9' s9 s8 e8 hm8 L8 L9 hm9 eP9 hm L7 S7 T7 hDb nDb hPl s10 nE
      have lnA : as.length ≤ 56 := by omega
      have pl := pr10.len
      refine ⟨(by show 3 ≤ sizeLine; decide), fun tv htv => ?_⟩
      have s11 : Same H10 (upd H10 tv (.tup [V.str "told", V.str "turned", V.str "meant"])) := Same.new htv
      have e11 : (upd H10 tv (.tup [V.str "told", V.str "turned", V.str "meant"])) tv = some (.tup (rules3.map V.str)) := upd_same
      generalize upd H10 tv (.tup [V.str "told", V.str "turned", V.str "meant"]) = H11 at s11 e11
      refine ⟨tv, rfl, ⟨_, sqT e11⟩, ?_⟩
      refine for_tup (K := K) (a := tv) (xs := rules3.map V.str) (fun i σ H' => ∃ w8 w9 w10 w11 w12 : Option V, σ = [some (.ref a0), some (.int (0 + i_)), some (.ref a), some (.ref p), some (.ref m), some (.ref Pl), w6, w7, w8, w9, w10, w11, w12, v13, none, none] ∧ Same H11 H') ⟨_, _, _, _, _, rfl, Same.refl _⟩ (fun i σ H' _ ⟨_, _, _, _, _, _, s⟩ => sqT (s _ _ e11)) ?_ ?_
      · rintro j1 x σ H12 hx ⟨w8, w9, w10, w11, w12, rfl, s12⟩
        rw [List.getElem?_map] at hx
        obtain ⟨r1, hr1', rfl⟩ := Option.map_eq_some_iff.mp hx
        have hr1 := List.mem_of_getElem? hr1'
        refine ⟨(by show 3 ≤ sizeLine; decide), fun tv2 htv2 => ?_⟩
        have s13 : Same H12 (upd H12 tv2 (.tup [V.str "told", V.str "turned", V.str "meant"])) := Same.new htv2
        have e13 : (upd H12 tv2 (.tup [V.str "told", V.str "turned", V.str "meant"])) tv2 = some (.tup (rules3.map V.str)) := upd_same
        generalize upd H12 tv2 (.tup [V.str "told", V.str "turned", V.str "meant"]) = H13 at s13 e13
        refine ⟨tv2, rfl, ⟨_, sqT e13⟩, ?_⟩
        refine for_tup (K := K) (a := tv2) (xs := rules3.map V.str) (fun i σ H' => ∃ w9 w10 w11 w12 : Option V, σ = [some (.ref a0), some (.int (0 + i_)), some (.ref a), some (.ref p), some (.ref m), some (.ref Pl), w6, w7, some (.str r1), w9, w10, w11, w12, v13, none, none] ∧ Same H13 H') ⟨_, _, _, _, rfl, Same.refl _⟩ (fun i σ H' _ ⟨_, _, _, _, _, s⟩ => sqT (s _ _ e13)) ?_ ?_
        · rintro j2 x σ H14 hx ⟨w9', w10', w11', w12', rfl, s14⟩
          rw [List.getElem?_map] at hx
          obtain ⟨r2, hr2', rfl⟩ := Option.map_eq_some_iff.mp hx
          have hr2 := List.mem_of_getElem? hr2'
          have sA := (s11.trans s12).trans (s13.trans s14)
          have hm14 := hm10.same sA
          refine ⟨_, rfl, _, rfl, _, rfl, m, t, r1, r2, rs, d, ts, rfl, hm14, by omega, hr1, hr2, fun D1 as1 H15 nD1 s15 e15 pr15 => ⟨_, rfl, _, rfl, (by show 2 ≤ sizeLine; decide), fun bt hbt => ⟨(by show 2 ≤ sizeLine; decide), fun tq htq => ⟨tq, _, rfl, sqT upd_same, rfl, _, _, rfl, _, _, rfl, rfl, ?_⟩⟩⟩⟩
          have s16 := (Same.new (o := .tup [V.str r1, V.str r2]) hbt).trans (Same.new (o := .tup [V.ref D1, V.ref bt]) htq)
          have e16 := (Same.new (o := .tup [V.ref D1, V.ref bt]) htq) _ _ (upd_same (H := H15) (a := bt) (o := .tup [V.str r1, V.str r2]))
          generalize upd (upd H15 bt (.tup [V.str r1, V.str r2])) tq (.tup [V.ref D1, V.ref bt]) = H16 at s16 e16
          have e15' := s16 _ _ e15
          have sB := sA.trans (s15.trans s16)
          have hm16 := hm10.same sB
          have L16 := L10.same sB
          have eP16 := sB _ _ eP10
          have pr16 := pr10.keep (H' := H16) fun b xs e => sB _ _ e
          refine ⟨_, rfl, Pl, rfl, ⟨_, SqL.of eP16⟩, fun Dd hDd => ?_⟩
          refine lc_list (K := K) (a := Pl) (xs := as.map V.ref) (fun i H' => Same H16 H' ∧ ∃ bs : List Addr, H' Dd = some (.lst (bs.map V.ref)) ∧ PrAt H' bs (((placesL rs (names rs)).take i).filter fun q => dueU rs d ts r1 r2 q.1 q.2) ∧ bs.length ≤ i) ⟨Same.new hDd, [], upd_same, PrAt.nil, Nat.zero_le _⟩ (fun i H' _ m => SqL.of (m.1 _ _ eP16)) ?_ ?_
          · rintro i x H17 hx ⟨s17, bs, e17, pr17, lb⟩
            rw [List.getElem?_map] at hx
            obtain ⟨ra, hra, rfl⟩ := Option.map_eq_some_iff.mp hx
            have hi := (List.getElem?_eq_some_iff.mp hra).1
            obtain ⟨q, hq⟩ : ∃ q, (placesL rs (names rs))[i]? = some q := ⟨(placesL rs (names rs))[i]'(by omega), List.getElem?_eq_getElem _⟩
            have eq := s17 _ _ (pr16.at_ i ra q hra hq)
            obtain ⟨hz, hf⟩ := place_mem (List.mem_of_getElem? hq)
            refine ⟨rfl, _, rfl, _, rfl, _, rfl, ra, _, _, _, rfl, rfl, sqT eq, atI_nat (j := 0) rfl, _, rfl, ra, _, _, _, rfl, rfl, sqT eq, atI_nat (j := 1) rfl, _, rfl, m, t, p, bt, q.1, q.2, r1, r2, rs, d, ts, rfl, hm16.same s17, L16.same s17, hz, hf, sqT (s17 _ _ e16), hr1, hr2, fun H18 s18 => ⟨_, rfl, ?_⟩⟩
            refine ite2 (fun hc => ?_) (fun hc => ?_)
            · refine ⟨_, rfl, _, s18 _ _ e17, small1000 (by rw [List.length_map]; omega), fun b o eb => ?_, bs ++ [ra], by rw [upd_same, List.map_append]; rfl, ?_, by rw [List.length_append]; show _ + 1 ≤ _; omega⟩
              · rw [upd_ne (fun y => by rw [y, hDd] at eb; cases eb)]
                exact s18 _ _ (s17 _ _ eb)
              · rw [filter_more_any hq, if_pos hc]
                have kp : ∀ b xs, H17 b = some (.tup xs) → (upd H18 Dd (.lst (bs.map V.ref ++ [V.ref ra]))) b = some (.tup xs) := fun b xs e => by
                  rw [upd_ne (fun z => by rw [z, e17] at e; cases e)]
                  exact s18 _ _ e
                exact PrAt.snoc (pr17.keep kp) (kp _ _ eq)
            · refine ⟨fun b o eb => s18 _ _ (s17 _ _ eb), bs, s18 _ _ e17, ?_, by omega⟩
              rw [filter_more_any hq, if_neg hc, List.append_nil]
              exact pr17.keep fun b xs e => s18 _ _ e
          rintro H17 ⟨s17, bs, e17, pr17, lb⟩
          rw [List.length_map, pl, List.take_length, due_found hv hfree hr1 hr2] at pr17
          have pr17a := pr15.keep (H' := H17) fun b xs e => s17 _ _ (s16 _ _ e)
          have e15a := s17 _ _ e15'
          have l1 := pr17a.len
          have l2 := pr17.len
          rw [List.length_map] at lb
          refine ⟨_, rfl, _, rfl, ⟨.inr (.inr (.inr (.inr ⟨D1, Dd, _, _, rfl, rfl, .inl ⟨SqL.of e15a, SqL.of e17⟩, by rw [List.length_map, List.length_map]; omega, PrAt.al pr17a pr17⟩))), ⟨_, rfl, iteF ?_⟩⟩⟩
          refine ⟨_, rfl, .inl ⟨rfl, _, SqL.of e15a⟩, D1, _, _, rfl, rfl, e15a, small1000 (by rw [List.length_map]; omega), ?_⟩
          refine ⟨_, _, _, _, rfl, fun b o e => ?_⟩
          have e14 := s14 b o e
          rw [upd_ne (ne_of_none e14 nD1)]
          exact s17 _ _ (s16 _ _ (s15 _ _ e14))
        · rintro σ H14 ⟨w9', w10', w11', w12', rfl, s14⟩
          exact ⟨_, _, _, _, _, rfl, s12.trans (s13.trans s14)⟩
      rintro σ H12 ⟨w8, w9, w10, w11, w12, rfl, s12⟩
      have sA := s11.trans s12
      have hm12 := hm10.same sA
      have L12 := L10.same sA
      have S12 := S10.trans sA
      have T12 := T10.ext sA
      have noN : ∀ z : Str, z.length = 0 ∨ z.length = 4 → z ∉ names rs := fun z h hm => by
        obtain ⟨r, hr, rfl⟩ := List.mem_map.mp hm
        obtain ⟨_, _, h1, h2⟩ := hmem r hr
        rcases h with h | h <;> omega
      refine ⟨(by show 1 ≤ sizeLine; decide), fun o1 ho1 => ?_⟩
      have s13 : Same H12 (upd H12 o1 (.lst [V.str ("told" : Str)])) := Same.new ho1
      have f1 : (upd H12 o1 (.lst [V.str ("told" : Str)])) o1 = some (.lst [V.str ("told" : Str)]) := upd_same
      generalize upd H12 o1 (.lst [V.str ("told" : Str)]) = H13 at s13 f1
      refine fun o2 ho2 => ?_
      have s14 : Same H13 (upd H13 o2 (.dK [])) := Same.new ho2
      have f2 : (upd H13 o2 (.dK [])) o2 = some (.dK []) := upd_same
      generalize upd H13 o2 (.dK []) = H14 at s14 f2
      refine ⟨(by show 7 ≤ sizeLine; decide), fun ol hol => ?_⟩
      obtain ⟨xs, exs⟩ : ∃ xs : List V, xs = [V.non, V.int 5, V.str ("" : Str), V.str ("Told" : Str), V.ref o1, V.ref o2, V.bl true] := ⟨_, rfl⟩
      rw [← exs]
      have s15 : Same H14 (upd H14 ol (.lst xs)) := Same.new hol
      have e15 : (upd H14 ol (.lst xs)) ol = some (.lst xs) := upd_same
      generalize upd H14 ol (.lst xs) = H15 at s15 e15
      have sC := s13.trans (s14.trans s15)
      have odd : ∀ x ∈ xs, OddA H15 rs x ∧ FlR x := fun x hx => by
        rw [exs] at hx
        simp only [List.mem_cons, List.not_mem_nil, or_false] at hx
        rcases hx with rfl | rfl | rfl | rfl | rfl | rfl | rfl
        · exact ⟨.inr (.inl rfl), .inl rfl⟩
        · exact ⟨.inr (.inr (.inl ⟨5, rfl⟩)), .inl rfl⟩
        · exact ⟨.inl ⟨_, rfl, by decide +kernel, noN _ (.inl (by decide +kernel)), by decide +kernel⟩, .inl rfl⟩
        · exact ⟨.inl ⟨_, rfl, by decide +kernel, noN _ (.inr (by decide +kernel)), by decide +kernel⟩, .inl rfl⟩
        · exact ⟨.inr (.inr (.inr (.inr (.inl ⟨_, _, rfl, s15 _ _ (s14 _ _ f1)⟩)))), .inr ⟨_, rfl⟩⟩
        · exact ⟨.inr (.inr (.inr (.inr (.inr (.inr ⟨_, _, rfl, s15 _ _ f2⟩))))), .inr ⟨_, rfl⟩⟩
        · exact ⟨.inr (.inr (.inr (.inl ⟨true, rfl⟩))), .inl rfl⟩
      have hm15 := hm12.same sC
      have L15 := L12.same sC
      have T15 := T12.ext sC
      have S15 := S12.trans sC
      refine ⟨ol, rfl, ⟨_, SqL.of e15⟩, ?_⟩
      refine for_list (K := K) (a := ol) (xs := xs) (fun i σ H' => ∃ w13 : Option V, σ = [some (.ref a0), some (.int (0 + i_)), some (.ref a), some (.ref p), some (.ref m), some (.ref Pl), w6, w7, w8, w9, w10, w11, w12, w13, none, none] ∧ ExtN H15 H' ∧ Tabs T H') ⟨_, rfl, ExtN.refl _, T15⟩ (fun i σ H' _ ⟨_, _, e, _⟩ => SqL.of (e _ _ e15 nofun)) ?_ ?_
      · rintro i x σ H16 hx ⟨w13, rfl, S16, T16⟩
        obtain ⟨od, fx⟩ := odd x (List.mem_of_getElem? hx)
        exact ⟨_, rfl, _, rfl, _, rfl, m, t, p, x, rs, d, ts, rfl, hm15.ext S16, L15.ext S16, hne', od.ext S16, fx, T16, fun H17 S17 T17 => ⟨_, rfl, iteF ⟨_, rfl, S16.trans S17, T17⟩⟩⟩
      · rintro σ H16 ⟨w13, rfl, S16, T16⟩
        exact ⟨_, _, _, _, _, _, _, _, _, _, _, _, _, rfl, sq_ext hS1 ((Same.x S15).trans S16), T16⟩
    · rintro σ H' ⟨_, _, _, _, _, _, _, _, _, _, _, _, _, rfl, _⟩
      exact hq _
end
end Ts

set_option maxRecDepth 100000
set_option maxHeartbeats 8000000
namespace Ts
open PySem L2
theorem defAt {K : PySem.W.Frag} {h : Heap} {mg : Str → Option Value} (X : K.In h) (G : h.Ns mainGlobals mg) {x : Str} {st : Stmt} {ps : List Str} {f : Addr} {oc : Value} {od an : Option Addr} {sl : Array (Option Value)} {kV dc pm cd ct : Value}
    (a : PySem.W.nsIn K mainGlobals x = some (some (.ref f))) (l : K.lookup f = some ⟨oc, od, .func (PySem.W.fnOf x x (defArgs st) (defBody st) (defScope st) .none kV dc pm an cd ct), sl⟩) (c : PySem.W.codeIn K cd x = true) (k : PySem.W.keepIn K (.ref f) = true)
    (hb : ∀ (kV doc pm : Value) (an : Option Addr) (cdv ct : Value) (us : List Value), us.length = ps.length → bindArgs (PySem.W.fnOf x x (defArgs st) (defBody st) (defScope st) .none kV doc pm an cdv ct) ⟨us, []⟩ = pure (ps.zip us)) :
    ∃ D : DefAt K mg x st ps, ∀ (s : Shared) (us : List Value), us.length = ps.length → BindsTo s D.fd ⟨us, []⟩ (ps.zip us) :=
  ⟨⟨f, _, fun_mk l c k, (fun_mk l c k).binds hb, PySem.W.mg_of X G a⟩, fun _ us hu => .of_eq (hb _ _ _ _ _ _ us hu)⟩
theorem methAt {K : PySem.W.Frag} {C : Addr} {x q : Str} {st : Stmt} {ps : List Str} {f : Addr} {oc : Value} {od an : Option Addr} {sl : Array (Option Value)} {kV dc pm cd ct : Value}
    (a : PySem.W.findIn K (.ref C) x = some (some (.ref f))) (i : PySem.W.isFn K (.ref f) = true) (l : K.lookup f = some ⟨oc, od, .func (PySem.W.fnOf x q (defArgs st) (defBody st) (defScope st) .none kV dc pm an cd ct), sl⟩) (c : PySem.W.codeIn K cd q = true) (k : PySem.W.keepIn K (.ref f) = true)
    (hb : ∀ (kV doc pm : Value) (an : Option Addr) (cdv ct : Value) (us : List Value), us.length = ps.length → bindArgs (PySem.W.fnOf x q (defArgs st) (defBody st) (defScope st) .none kV doc pm an cdv ct) ⟨us, []⟩ = pure (ps.zip us)) :
    Nonempty (MethAt K C x q st ps) :=
  ⟨⟨f, _, fun_mk l c k, (fun_mk l c k).binds hb, ⟨a, i, k⟩⟩⟩
theorem kit_no {K : PySem.W.Frag} {C : Addr} {T : String} (iC : PySem.W.isClsIn K C = true) (tC : PySem.W.typeIn K (.ref C) = some (.type "type")) (sb : PySem.W.subIn K (.type T) (.ref C) = some false) : PySem.W.kitOne K (.type T) (.ref C) = some false := by
  unfold PySem.W.kitOne
  rw [if_neg (by simp)]
  have e : ((PySem.W.clsIn K C).isSome && PySem.W.typeIn K (.ref C) == some (.type "type")) = true := by
    rw [show (PySem.W.clsIn K C).isSome = true from iC, tC]
    simp
  show (if ((PySem.W.clsIn K C).isSome && PySem.W.typeIn K (.ref C) == some (.type "type")) = true then PySem.W.subIn K (.type T) (.ref C) else none) = some false
  rw [if_pos e]
  exact sb
theorem kit_noR {K : PySem.W.Frag} {C D : Addr} (ne : ¬ D = C) (iC : PySem.W.isClsIn K C = true) (tC : PySem.W.typeIn K (.ref C) = some (.type "type")) (sb : PySem.W.subIn K (.ref D) (.ref C) = some false) : PySem.W.kitOne K (.ref D) (.ref C) = some false := by
  unfold PySem.W.kitOne
  rw [if_neg (by simpa using ne)]
  have e : ((PySem.W.clsIn K C).isSome && PySem.W.typeIn K (.ref C) == some (.type "type")) = true := by
    rw [show (PySem.W.clsIn K C).isSome = true from iC, tC]
    simp
  show (if ((PySem.W.clsIn K C).isSome && PySem.W.typeIn K (.ref C) == some (.type "type")) = true then PySem.W.subIn K (.ref D) (.ref C) else none) = some false
  rw [if_pos e]
  exact sb
theorem kit_me {K : PySem.W.Frag} {C : Addr} : PySem.W.kitOne K (.ref C) (.ref C) = some true := by
  unfold PySem.W.kitOne
  rw [if_pos (by simp)]
theorem bothAll {K : PySem.W.Frag} {h : Heap} {mg : Str → Option Value} (X : K.In h) (G : h.Ns mainGlobals mg) {C : Addr} {CM : Addr} {f0 : Addr} {oc0 kV0 dc0 pm0 cd0 ct0 : Value} {od0 an0 : Option Addr} {sl0 : Array (Option Value)} {f1 : Addr} {oc1 kV1 dc1 pm1 cd1 ct1 : Value} {od1 an1 : Option Addr} {sl1 : Array (Option Value)} {f2 : Addr} {oc2 kV2 dc2 pm2 cd2 ct2 : Value} {od2 an2 : Option Addr} {sl2 : Array (Option Value)} {f3 : Addr} {oc3 kV3 dc3 pm3 cd3 ct3 : Value} {od3 an3 : Option Addr} {sl3 : Array (Option Value)} {f4 : Addr} {oc4 kV4 dc4 pm4 cd4 ct4 : Value} {od4 an4 : Option Addr} {sl4 : Array (Option Value)} {f5 : Addr} {oc5 kV5 dc5 pm5 cd5 ct5 : Value} {od5 an5 : Option Addr} {sl5 : Array (Option Value)} {f6 : Addr} {oc6 kV6 dc6 pm6 cd6 ct6 : Value} {od6 an6 : Option Addr} {sl6 : Array (Option Value)} {f7 : Addr} {oc7 kV7 dc7 pm7 cd7 ct7 : Value} {od7 an7 : Option Addr} {sl7 : Array (Option Value)} {mf0 : Addr} {moc0 mkV0 mdc0 mpm0 mcd0 mct0 : Value} {mod0 man0 : Option Addr} {msl0 : Array (Option Value)} {Td Te : Addr} {odT odE : Option Addr} {itT itE : Array Value} {nT nE : Nat} {slT slE : Array (Option Value)} {mf1 : Addr} {moc1 mkV1 mdc1 mpm1 mcd1 mct1 : Value} {mod1 man1 : Option Addr} {msl1 : Array (Option Value)} {mf2 : Addr} {moc2 mkV2 mdc2 mpm2 mcd2 mct2 : Value} {mod2 man2 : Option Addr} {msl2 : Array (Option Value)}
    (aC : PySem.W.nsIn K mainGlobals "Tree" = some (some (.ref C)))
    (pg : PySem.W.plainGet K C Str.empty = true)
    (hd : PySem.W.hasDictIn K C = true)
    (po : PySem.W.plainOver K C = true)
    (sa : PySem.W.findIn K (.ref C) "__setattr__" = some (some (.builtin "object.__setattr__")))
    (mk : PySem.W.makesIn K C = true)
    (kc : PySem.W.keepIn K (.ref C) = true)
    (nq : PySem.W.findIn K (.ref C) "quads" = some none)
    (nf : PySem.W.findIn K (.ref C) "folders" = some none)
    (nk : PySem.W.findIn K (.ref C) "kinds" = some none)
    (np : PySem.W.findIn K (.ref C) "prices" = some none)
    (ne : PySem.W.findIn K (.ref C) "__ne__" = some (some (.builtin "object.__ne__")))
    (ob : PySem.W.subIn K (.ref C) (.type "object") = some true)
    (iC : PySem.W.isClsIn K C = true)
    (tC : PySem.W.typeIn K (.ref C) = some (.type "type"))
    (ha : PySem.W.findIn K (.ref C) "__class__" = some (some (.builtin "object.__class__")))
    (hn : PySem.W.specialIn K (.builtin "object.__class__") "__get__" = some (some (.builtin "getset_descriptor.__get__")))
    (htk : PySem.W.takesIn K (.builtin "object.__class__") = some true)
    (hm : PySem.W.mroIn K C (.type "object") = some true)
    (a0 : PySem.W.findIn K (.ref C) "__init__" = some (some (.ref f0))) (i0 : PySem.W.isFn K (.ref f0) = true) (l0 : K.lookup f0 = some ⟨oc0, od0, .func (PySem.W.fnOf "__init__" "Tree.__init__" (defArgs s_Tree_init) (defBody s_Tree_init) (defScope s_Tree_init) .none kV0 dc0 pm0 an0 cd0 ct0), sl0⟩) (c0 : PySem.W.codeIn K cd0 "Tree.__init__" = true) (k0 : PySem.W.keepIn K (.ref f0) = true)
    (a1 : PySem.W.findIn K (.ref C) "__eq__" = some (some (.ref f1))) (i1 : PySem.W.isFn K (.ref f1) = true) (l1 : K.lookup f1 = some ⟨oc1, od1, .func (PySem.W.fnOf "__eq__" "Tree.__eq__" (defArgs s_Tree_eq) (defBody s_Tree_eq) (defScope s_Tree_eq) .none kV1 dc1 pm1 an1 cd1 ct1), sl1⟩) (c1 : PySem.W.codeIn K cd1 "Tree.__eq__" = true) (k1 : PySem.W.keepIn K (.ref f1) = true)
    (a2 : PySem.W.findIn K (.ref C) "__contains__" = some (some (.ref f2))) (i2 : PySem.W.isFn K (.ref f2) = true) (l2 : K.lookup f2 = some ⟨oc2, od2, .func (PySem.W.fnOf "__contains__" "Tree.__contains__" (defArgs s_Tree_contains) (defBody s_Tree_contains) (defScope s_Tree_contains) .none kV2 dc2 pm2 an2 cd2 ct2), sl2⟩) (c2 : PySem.W.codeIn K cd2 "Tree.__contains__" = true) (k2 : PySem.W.keepIn K (.ref f2) = true)
    (a3 : PySem.W.findIn K (.ref C) "folder" = some (some (.ref f3))) (i3 : PySem.W.isFn K (.ref f3) = true) (l3 : K.lookup f3 = some ⟨oc3, od3, .func (PySem.W.fnOf "folder" "Tree.folder" (defArgs s_Tree_folder) (defBody s_Tree_folder) (defScope s_Tree_folder) .none kV3 dc3 pm3 an3 cd3 ct3), sl3⟩) (c3 : PySem.W.codeIn K cd3 "Tree.folder" = true) (k3 : PySem.W.keepIn K (.ref f3) = true)
    (a4 : PySem.W.findIn K (.ref C) "kind" = some (some (.ref f4))) (i4 : PySem.W.isFn K (.ref f4) = true) (l4 : K.lookup f4 = some ⟨oc4, od4, .func (PySem.W.fnOf "kind" "Tree.kind" (defArgs s_Tree_kind) (defBody s_Tree_kind) (defScope s_Tree_kind) .none kV4 dc4 pm4 an4 cd4 ct4), sl4⟩) (c4 : PySem.W.codeIn K cd4 "Tree.kind" = true) (k4 : PySem.W.keepIn K (.ref f4) = true)
    (a5 : PySem.W.findIn K (.ref C) "price" = some (some (.ref f5))) (i5 : PySem.W.isFn K (.ref f5) = true) (l5 : K.lookup f5 = some ⟨oc5, od5, .func (PySem.W.fnOf "price" "Tree.price" (defArgs s_Tree_price) (defBody s_Tree_price) (defScope s_Tree_price) .none kV5 dc5 pm5 an5 cd5 ct5), sl5⟩) (c5 : PySem.W.codeIn K cd5 "Tree.price" = true) (k5 : PySem.W.keepIn K (.ref f5) = true)
    (a6 : PySem.W.findIn K (.ref C) "below" = some (some (.ref f6))) (i6 : PySem.W.isFn K (.ref f6) = true) (l6 : K.lookup f6 = some ⟨oc6, od6, .func (PySem.W.fnOf "below" "Tree.below" (defArgs s_Tree_below) (defBody s_Tree_below) (defScope s_Tree_below) .none kV6 dc6 pm6 an6 cd6 ct6), sl6⟩) (c6 : PySem.W.codeIn K cd6 "Tree.below" = true) (k6 : PySem.W.keepIn K (.ref f6) = true)
    (a7 : PySem.W.findIn K (.ref C) "moved" = some (some (.ref f7))) (i7 : PySem.W.isFn K (.ref f7) = true) (l7 : K.lookup f7 = some ⟨oc7, od7, .func (PySem.W.fnOf "moved" "Tree.moved" (defArgs s_Tree_moved) (defBody s_Tree_moved) (defScope s_Tree_moved) .none kV7 dc7 pm7 an7 cd7 ct7), sl7⟩) (c7 : PySem.W.codeIn K cd7 "Tree.moved" = true) (k7 : PySem.W.keepIn K (.ref f7) = true)
    (maC : PySem.W.nsIn K mainGlobals "Meaning" = some (some (.ref CM)))
    (mpg : PySem.W.plainGet K CM Str.empty = true)
    (mhd : PySem.W.hasDictIn K CM = true)
    (mpo : PySem.W.plainOver K CM = true)
    (msa : PySem.W.findIn K (.ref CM) "__setattr__" = some (some (.builtin "object.__setattr__")))
    (mmk : PySem.W.makesIn K CM = true)
    (mkc : PySem.W.keepIn K (.ref CM) = true)
    (mnt : PySem.W.findIn K (.ref CM) "tree" = some none)
    (mnd : PySem.W.findIn K (.ref CM) "default" = some none)
    (mnu : PySem.W.findIn K (.ref CM) "turns" = some none)
    (mnk : PySem.W.findIn K (.ref CM) "known" = some none)
    (mne : PySem.W.findIn K (.ref CM) "__ne__" = some (some (.builtin "object.__ne__")))
    (mob : PySem.W.subIn K (.ref CM) (.type "object") = some true)
    (miC : PySem.W.isClsIn K CM = true)
    (mtC : PySem.W.typeIn K (.ref CM) = some (.type "type"))
    (mha : PySem.W.findIn K (.ref CM) "__class__" = some (some (.builtin "object.__class__")))
    (mhn : PySem.W.specialIn K (.builtin "object.__class__") "__get__" = some (some (.builtin "getset_descriptor.__get__")))
    (mhtk : PySem.W.takesIn K (.builtin "object.__class__") = some true)
    (mhm : PySem.W.mroIn K CM (.type "object") = some true)
    (ma0 : PySem.W.findIn K (.ref CM) "__init__" = some (some (.ref mf0))) (mi0 : PySem.W.isFn K (.ref mf0) = true) (ml0 : K.lookup mf0 = some ⟨moc0, mod0, .func (PySem.W.fnOf "__init__" "Meaning.__init__" (defArgs s_Meaning_init) (defBody s_Meaning_init) (defScope s_Meaning_init) (.ref Td) mkV0 mdc0 mpm0 man0 mcd0 mct0), msl0⟩) (mc0 : PySem.W.codeIn K mcd0 "Meaning.__init__" = true) (mk0 : PySem.W.keepIn K (.ref mf0) = true)
    (mlT : K.lookup Td = some ⟨.type "tuple", odT, .seq itT nT, slT⟩) (mvT : itT.toList = [.ref Te]) (mlE : K.lookup Te = some ⟨.type "tuple", odE, .seq itE nE, slE⟩) (mvE : itE.toList = [])
    (ma1 : PySem.W.findIn K (.ref CM) "value" = some (some (.ref mf1))) (mi1 : PySem.W.isFn K (.ref mf1) = true) (ml1 : K.lookup mf1 = some ⟨moc1, mod1, .func (PySem.W.fnOf "value" "Meaning.value" (defArgs s_Meaning_value) (defBody s_Meaning_value) (defScope s_Meaning_value) .none mkV1 mdc1 mpm1 man1 mcd1 mct1), msl1⟩) (mc1 : PySem.W.codeIn K mcd1 "Meaning.value" = true) (mk1 : PySem.W.keepIn K (.ref mf1) = true)
    (ma2 : PySem.W.findIn K (.ref CM) "states" = some (some (.ref mf2))) (mi2 : PySem.W.isFn K (.ref mf2) = true) (ml2 : K.lookup mf2 = some ⟨moc2, mod2, .func (PySem.W.fnOf "states" "Meaning.states" (defArgs s_Meaning_states) (defBody s_Meaning_states) (defScope s_Meaning_states) .none mkV2 mdc2 mpm2 man2 mcd2 mct2), msl2⟩) (mc2 : PySem.W.codeIn K mcd2 "Meaning.states" = true) (mk2 : PySem.W.keepIn K (.ref mf2) = true) :
    ∃ C : Addr, TxT K mg C ∧ TxN K C ∧ C8.InsC K C ∧ (∃ (f : Addr) (fd : FuncData), Fun K "__init__" "Tree.__init__" s_Tree_init f fd ∧ Mk K C f ∧ Binds K fd ["self", "rows"] []) ∧ Nonempty (MethAt K C "__eq__" "Tree.__eq__" s_Tree_eq ["self", "other"]) ∧ Nonempty (MethAt K C "__contains__" "Tree.__contains__" s_Tree_contains ["self", "x"]) ∧ Nonempty (MethAt K C "folder" "Tree.folder" s_Tree_folder ["self", "box"]) ∧ Nonempty (MethAt K C "kind" "Tree.kind" s_Tree_kind ["self", "box"]) ∧ Nonempty (MethAt K C "price" "Tree.price" s_Tree_price ["self", "box"]) ∧ Nonempty (MethAt K C "below" "Tree.below" s_Tree_below ["self", "box"]) ∧ Nonempty (MethAt K C "moved" "Tree.moved" s_Tree_moved ["self", "box", "folder"]) ∧ ∃ CM : Addr, TxM K mg CM ∧ TxN K CM ∧ C8.InsC K CM ∧ (∃ (f : Addr) (fd : FuncData) (Te : Addr) (ds : List Value), FunD K "__init__" "Meaning.__init__" (defArgs s_Meaning_init) (defBody s_Meaning_init) (defScope s_Meaning_init) [V.ref Te] [] f fd ∧ Mk K CM f ∧ Binds K fd ["self", "tree", "default", "turns"] [] ∧ Binds K fd ["self", "tree", "default", "turns"] ds ∧ Vals [V.ref Te] ds ∧ ∀ H, SqT K H Te []) ∧ Nonempty (MethAt K CM "value" "Meaning.value" s_Meaning_value ["self", "box"]) ∧ Nonempty (MethAt K CM "states" "Meaning.states" s_Meaning_states ["self"]) :=
  by
  have FD : FunD K "__init__" "Meaning.__init__" (defArgs s_Meaning_init) (defBody s_Meaning_init) (defScope s_Meaning_init) [V.ref Te] [] mf0 _ := ⟨⟨_, _, _, _, _, _, _, _, _, _, rfl, ml0, mc0, .inr ⟨by simp, Td, _, [.ref Te], nT, rfl, mlT, by rw [← mvT], .cons rfl .nil⟩, .inl rfl⟩, mk0⟩
  obtain ⟨ds1, v1, b1⟩ := FD.binds1 (ps := ["self", "tree", "default", "turns"]) 3 0 (by simp) rfl (fun T kV doc pm an cdv ct us its hu hi => match us, hu, its, hi with | [_, _, _], _, [_], _ => ⟨_, rfl, rfl⟩)
  obtain ⟨ds2, v2, b2⟩ := FD.binds1 (ps := ["self", "tree", "default", "turns"]) 4 1 (by simp) rfl (fun T kV doc pm an cdv ct us its hu hi => match us, hu, its, hi with | [_, _, _, _], _, [_], _ => ⟨_, rfl, rfl⟩)
  cases v2
  exact ⟨C, ⟨⟨pg, hd, po, sa⟩, nq, nf, nk, np, PySem.W.mg_of X G aC⟩, ⟨ne, ob⟩, ⟨⟨pg, hd, po, sa⟩, ha, hn, htk, hm, kit_me⟩, ⟨f0, _, fun_mk l0 c0 k0, ⟨mk, a0, i0, kc⟩, (fun_mk l0 c0 k0).binds (fun _ _ _ _ _ _ us hl => match us, hl with | [_, _], _ => rfl)⟩, methAt a1 i1 l1 c1 k1 (fun _ _ _ _ _ _ us hl => match us, hl with | [_, _], _ => rfl), methAt a2 i2 l2 c2 k2 (fun _ _ _ _ _ _ us hl => match us, hl with | [_, _], _ => rfl), methAt a3 i3 l3 c3 k3 (fun _ _ _ _ _ _ us hl => match us, hl with | [_, _], _ => rfl), methAt a4 i4 l4 c4 k4 (fun _ _ _ _ _ _ us hl => match us, hl with | [_, _], _ => rfl), methAt a5 i5 l5 c5 k5 (fun _ _ _ _ _ _ us hl => match us, hl with | [_, _], _ => rfl), methAt a6 i6 l6 c6 k6 (fun _ _ _ _ _ _ us hl => match us, hl with | [_, _], _ => rfl), methAt a7 i7 l7 c7 k7 (fun _ _ _ _ _ _ us hl => match us, hl with | [_, _, _], _ => rfl), CM, ⟨⟨mpg, mhd, mpo, msa⟩, mnt, mnd, mnu, mnk, PySem.W.mg_of X G maC⟩, ⟨mne, mob⟩, ⟨⟨mpg, mhd, mpo, msa⟩, mha, mhn, mhtk, mhm, kit_me⟩, ⟨mf0, _, Te, ds1, FD, ⟨mmk, ma0, mi0, mkc⟩, b2, b1, v1, fun H => .inr ⟨_, _, _, mlE, rfl, rfl, by rw [← Array.length_toList, mvE]; exact Nat.zero_le _, by rw [mvE]; exact .nil⟩⟩, methAt ma1 mi1 ml1 mc1 mk1 (fun _ _ _ _ _ _ us hl => match us, hl with | [_, _], _ => rfl), methAt ma2 mi2 ml2 mc2 mk2 (fun _ _ _ _ _ _ us hl => match us, hl with | [_], _ => rfl)⟩
theorem freeAll {K : PySem.W.Frag} {h : Heap} {mg : Str → Option Value} (X : K.In h) (G : h.Ns mainGlobals mg)
    (z0 : PySem.W.nsIn K mainGlobals "len" = some none) (z1 : PySem.W.nsIn K mainGlobals "abs" = some none) (z2 : PySem.W.nsIn K mainGlobals "int" = some none) (z3 : PySem.W.nsIn K mainGlobals "str" = some none) (z4 : PySem.W.nsIn K mainGlobals "bool" = some none) (z5 : PySem.W.nsIn K mainGlobals "list" = some none) (z6 : PySem.W.nsIn K mainGlobals "tuple" = some none) (z7 : PySem.W.nsIn K mainGlobals "dict" = some none) (z8 : PySem.W.nsIn K mainGlobals "range" = some none) (z9 : PySem.W.nsIn K mainGlobals "enumerate" = some none) (z10 : PySem.W.nsIn K mainGlobals "isinstance" = some none) (z11 : PySem.W.nsIn K mainGlobals "all" = some none) (z12 : PySem.W.nsIn K mainGlobals "sorted" = some none) : TxB mg ∧ mg "sorted" = none :=
  ⟨⟨PySem.W.mg_none_of X G z0, PySem.W.mg_none_of X G z1, PySem.W.mg_none_of X G z2, PySem.W.mg_none_of X G z3, PySem.W.mg_none_of X G z4, PySem.W.mg_none_of X G z5, PySem.W.mg_none_of X G z6, PySem.W.mg_none_of X G z7, PySem.W.mg_none_of X G z8, PySem.W.mg_none_of X G z9, PySem.W.mg_none_of X G z10, PySem.W.mg_none_of X G z11⟩, PySem.W.mg_none_of X G z12⟩
theorem constAll {K : PySem.W.Frag} {h : Heap} {mg : Str → Option Value} (X : K.In h) (G : h.Ns mainGlobals mg) (num : DefAt K mg "is_number" s_is_number ["thing", "least"]) {t1 t2 t3 : Tok} {kt : Addr} {od : Option Addr} {its : Array Value} {n : Nat} {sl : Array (Option Value)}
    (b1 : PySem.W.nsIn K mainGlobals "TOP" = some (some (.str "top" t1))) (b2 : PySem.W.nsIn K mainGlobals "FOLDER" = some (some (.str "folder" t2))) (b3 : PySem.W.nsIn K mainGlobals "LONGEST_NAME" = some (some (.int 8 t3))) (b4 : PySem.W.nsIn K mainGlobals "KINDS" = some (some (.ref kt)))
    (b5 : K.lookup kt = some ⟨.type "tuple", od, .seq its n, sl⟩) (b6 : its.size ≤ sizeLine) (b7 : Vals (kinds3.map V.str) its.toList) : Nonempty (TxC K mg) :=
  ⟨⟨⟨t1, PySem.W.mg_of X G b1⟩, ⟨t2, PySem.W.mg_of X G b2⟩, ⟨t3, PySem.W.mg_of X G b3⟩, kt, PySem.W.mg_of X G b4, num, ⟨_, its, n, b5, rfl, rfl, b6, b7⟩⟩⟩
theorem constV {K : PySem.W.Frag} {h : Heap} {mg : Str → Option Value} (X : K.In h) (G : h.Ns mainGlobals mg) {t1 t2 : Tok} {wt : Addr} {od : Option Addr} {its : Array Value} {n : Nat} {sl : Array (Option Value)}
    (f0 : PySem.W.nsIn K mainGlobals "TOLD" = some (some (.str "told" t1))) (f1 : PySem.W.nsIn K mainGlobals "MEANT" = some (some (.str "meant" t2))) (f2 : PySem.W.nsIn K mainGlobals "RULES" = some (some (.ref wt))) (f3 : K.lookup wt = some ⟨.type "tuple", od, .seq its n, sl⟩) (f4 : its.size ≤ sizeLine) (f5 : Vals (rules3.map V.str) its.toList) : Nonempty (TxV K mg) :=
  ⟨⟨⟨t1, PySem.W.mg_of X G f0⟩, ⟨t2, PySem.W.mg_of X G f1⟩, wt, PySem.W.mg_of X G f2, ⟨_, its, n, f3, rfl, rfl, f4, f5⟩⟩⟩
theorem errsAll {K : PySem.W.Frag} {h : Heap} {mg : Str → Option Value} (X : K.In h) (G : h.Ns mainGlobals mg) {C0 BE0 f0 : Addr} {nm0 q0 : Str} {N0 : Addr} {bs0 : List Value} {sn0 : List Str} {sub0 : List Value} {ab0 : Bool} {col0 : Option Bool} {dd0 : Option Addr} {ma0 mb0 mc0 md0 mf0 : Option Value} {od0 an0 : Option Addr} {sl0 : Array (Option Value)} {oc0 kV0 dc0 pm0 cd0 ct0 : Value} {C1 BE1 f1 : Addr} {nm1 q1 : Str} {N1 : Addr} {bs1 : List Value} {sn1 : List Str} {sub1 : List Value} {ab1 : Bool} {col1 : Option Bool} {dd1 : Option Addr} {ma1 mb1 mc1 md1 mf1 : Option Value} {od1 an1 : Option Addr} {sl1 : Array (Option Value)} {oc1 kV1 dc1 pm1 cd1 ct1 : Value} {C2 BE2 f2 : Addr} {nm2 q2 : Str} {N2 : Addr} {bs2 : List Value} {sn2 : List Str} {sub2 : List Value} {ab2 : Bool} {col2 : Option Bool} {dd2 : Option Addr} {ma2 mb2 mc2 md2 mf2 : Option Value} {od2 an2 : Option Addr} {sl2 : Array (Option Value)} {oc2 kV2 dc2 pm2 cd2 ct2 : Value}
    (e0aC : PySem.W.nsIn K mainGlobals "BadRule" = some (some (.ref C0)))
    (e0xL : K.lookup C0 = some (excClassObj nm0 q0 C0 N0 bs0 [.ref BE0, .type "ValueError", .type "Exception", .type "BaseException", .type "object"] true sn0 sub0 ab0 col0 dd0 ma0 mb0 mc0 md0 mf0 "ValueError.__new__"))
    (e0sa : PySem.W.findIn K (.ref C0) "__setattr__" = some (some (.builtin "object.__setattr__")))
    (e0ga : PySem.W.findIn K (.ref C0) "__getattribute__" = some (some (.builtin "BaseException.__getattribute__")))
    (e0gg : PySem.W.findIn K (.ref C0) "__getattr__" = some none)
    (e0nb : PySem.W.findIn K (.ref C0) "rule" = some none)
    (e0a1 : PySem.W.findIn K (.ref C0) "__init__" = some (some (.ref f0)))
    (e0t1 : PySem.W.typeIn K (.ref f0) = some (.type "function"))
    (e0l1 : K.lookup f0 = some ⟨oc0, od0, .func (PySem.W.fnOf "__init__" "BadRule.__init__" (defArgs s_BadRule_init) (defBody s_BadRule_init) (defScope s_BadRule_init) .none kV0 dc0 pm0 an0 cd0 ct0), sl0⟩)
    (e0c1 : PySem.W.codeIn K cd0 "BadRule.__init__" = true)
    (e0k1 : PySem.W.keepIn K (.ref f0) = true)
    (e0kC : PySem.W.keepIn K (.ref C0) = true)
    (e0eC : PySem.W.subIn K (.ref C0) (.type "BaseException") = some true)
    (e0tC : PySem.W.typeIn K (.ref C0) = some (.type "type"))
    (e0hC : PySem.W.hasDictIn K C0 = true)
    (e0iC : PySem.W.isClsIn K C0 = true)
    (e0sC : PySem.W.subIn K (.ref C0) (.ref C0) = some true)
    (e1aC : PySem.W.nsIn K mainGlobals "NoBox" = some (some (.ref C1)))
    (e1xL : K.lookup C1 = some (excClassObj nm1 q1 C1 N1 bs1 [.ref BE1, .type "ValueError", .type "Exception", .type "BaseException", .type "object"] true sn1 sub1 ab1 col1 dd1 ma1 mb1 mc1 md1 mf1 "ValueError.__new__"))
    (e1sa : PySem.W.findIn K (.ref C1) "__setattr__" = some (some (.builtin "object.__setattr__")))
    (e1ga : PySem.W.findIn K (.ref C1) "__getattribute__" = some (some (.builtin "BaseException.__getattribute__")))
    (e1gg : PySem.W.findIn K (.ref C1) "__getattr__" = some none)
    (e1nb : PySem.W.findIn K (.ref C1) "box" = some none)
    (e1a1 : PySem.W.findIn K (.ref C1) "__init__" = some (some (.ref f1)))
    (e1t1 : PySem.W.typeIn K (.ref f1) = some (.type "function"))
    (e1l1 : K.lookup f1 = some ⟨oc1, od1, .func (PySem.W.fnOf "__init__" "NoBox.__init__" (defArgs s_NoBox_init) (defBody s_NoBox_init) (defScope s_NoBox_init) .none kV1 dc1 pm1 an1 cd1 ct1), sl1⟩)
    (e1c1 : PySem.W.codeIn K cd1 "NoBox.__init__" = true)
    (e1k1 : PySem.W.keepIn K (.ref f1) = true)
    (e1kC : PySem.W.keepIn K (.ref C1) = true)
    (e1eC : PySem.W.subIn K (.ref C1) (.type "BaseException") = some true)
    (e1tC : PySem.W.typeIn K (.ref C1) = some (.type "type"))
    (e1hC : PySem.W.hasDictIn K C1 = true)
    (e1iC : PySem.W.isClsIn K C1 = true)
    (e1sC : PySem.W.subIn K (.ref C1) (.ref C1) = some true)
    (e2aC : PySem.W.nsIn K mainGlobals "BadMove" = some (some (.ref C2)))
    (e2xL : K.lookup C2 = some (excClassObj nm2 q2 C2 N2 bs2 [.ref BE2, .type "ValueError", .type "Exception", .type "BaseException", .type "object"] true sn2 sub2 ab2 col2 dd2 ma2 mb2 mc2 md2 mf2 "ValueError.__new__"))
    (e2sa : PySem.W.findIn K (.ref C2) "__setattr__" = some (some (.builtin "object.__setattr__")))
    (e2ga : PySem.W.findIn K (.ref C2) "__getattribute__" = some (some (.builtin "BaseException.__getattribute__")))
    (e2gg : PySem.W.findIn K (.ref C2) "__getattr__" = some none)
    (e2nb : PySem.W.findIn K (.ref C2) "box" = some none)
    (e2a1 : PySem.W.findIn K (.ref C2) "__init__" = some (some (.ref f2)))
    (e2t1 : PySem.W.typeIn K (.ref f2) = some (.type "function"))
    (e2l1 : K.lookup f2 = some ⟨oc2, od2, .func (PySem.W.fnOf "__init__" "BadMove.__init__" (defArgs s_BadMove_init) (defBody s_BadMove_init) (defScope s_BadMove_init) .none kV2 dc2 pm2 an2 cd2 ct2), sl2⟩)
    (e2c1 : PySem.W.codeIn K cd2 "BadMove.__init__" = true)
    (e2k1 : PySem.W.keepIn K (.ref f2) = true)
    (e2kC : PySem.W.keepIn K (.ref C2) = true)
    (e2eC : PySem.W.subIn K (.ref C2) (.type "BaseException") = some true)
    (e2tC : PySem.W.typeIn K (.ref C2) = some (.type "type"))
    (e2hC : PySem.W.hasDictIn K C2 = true)
    (e2iC : PySem.W.isClsIn K C2 = true)
    (e2sC : PySem.W.subIn K (.ref C2) (.ref C2) = some true)
    (e2x0 : PySem.W.findIn K (.ref C2) "into" = some none)
    (n1_0 : PySem.W.subIn K (.ref C1) (.ref C0) = some false)
    (n2_0 : PySem.W.subIn K (.ref C2) (.ref C0) = some false)
    (n2_1 : PySem.W.subIn K (.ref C2) (.ref C1) = some false) :
    ∃ C0 C1 C2 : Addr, ErrsT K mg C0 C1 C2 ∧ (∃ (f : Addr) (fd : FuncData), PySem.W.findIn K (.ref C0) "__init__" = some (some (.ref f)) ∧ PySem.W.typeIn K (.ref f) = some (.type "function") ∧ Fun K "__init__" "BadRule.__init__" s_BadRule_init f fd ∧ Binds K fd ["self", "rule"] []) ∧ (∃ (f : Addr) (fd : FuncData), PySem.W.findIn K (.ref C1) "__init__" = some (some (.ref f)) ∧ PySem.W.typeIn K (.ref f) = some (.type "function") ∧ Fun K "__init__" "NoBox.__init__" s_NoBox_init f fd ∧ Binds K fd ["self", "box"] []) ∧ (∃ (f : Addr) (fd : FuncData), PySem.W.findIn K (.ref C2) "__init__" = some (some (.ref f)) ∧ PySem.W.typeIn K (.ref f) = some (.type "function") ∧ Fun K "__init__" "BadMove.__init__" s_BadMove_init f fd ∧ Binds K fd ["self", "box", "into"] []) :=
  ⟨C0, C1, C2, ⟨(errAll X G e0aC e0xL e0sa e0ga e0gg e0nb e0a1 e0t1 e0l1 e0c1 e0k1 e0kC e0eC e0tC e0hC e0iC e0sC).1, (errAll X G e1aC e1xL e1sa e1ga e1gg e1nb e1a1 e1t1 e1l1 e1c1 e1k1 e1kC e1eC e1tC e1hC e1iC e1sC).1, (errAll X G e2aC e2xL e2sa e2ga e2gg e2nb e2a1 e2t1 e2l1 e2c1 e2k1 e2kC e2eC e2tC e2hC e2iC e2sC).1, e2x0, exm_other e0eC e0iC e0tC n1_0, exm_other e0eC e0iC e0tC n2_0, exm_other e1eC e1iC e1tC n2_1⟩, ⟨f0, _, e0a1, e0t1, fun_mk e0l1 e0c1 e0k1, (fun_mk e0l1 e0c1 e0k1).binds (fun _ _ _ _ _ _ us hl => match us, hl with | [_, _], _ => rfl)⟩, ⟨f1, _, e1a1, e1t1, fun_mk e1l1 e1c1 e1k1, (fun_mk e1l1 e1c1 e1k1).binds (fun _ _ _ _ _ _ us hl => match us, hl with | [_, _], _ => rfl)⟩, ⟨f2, _, e2a1, e2t1, fun_mk e2l1 e2c1 e2k1, (fun_mk e2l1 e2c1 e2k1).binds (fun _ _ _ _ _ _ us hl => match us, hl with | [_, _, _], _ => rfl)⟩⟩
theorem defAtC {K : PySem.W.Frag} {h : Heap} {mg : Str → Option Value} (X : K.In h) (G : h.Ns mainGlobals mg) {x : Str} {st : Stmt} {ps : List Str} {f c : Addr} {oc : Value} {od an : Option Addr} {sl : Array (Option Value)} {kV dc pm ct : Value}
    (a : PySem.W.nsIn K mainGlobals x = some (some (.ref f))) (l : K.lookup f = some ⟨oc, od, .func (PySem.W.fnOf x x (defArgs st) (defBody st) (defScope st) .none kV dc pm an (.ref c) ct), sl⟩) (c0 : PySem.W.codeIn K (.ref c) x = true) (k : PySem.W.keepIn K (.ref f) = true)
    (hb : ∀ (kV doc pm : Value) (an : Option Addr) (cdv ct : Value) (us : List Value), us.length = ps.length → bindArgs (PySem.W.fnOf x x (defArgs st) (defBody st) (defScope st) .none kV doc pm an cdv ct) ⟨us, []⟩ = pure (ps.zip us)) :
    ∃ D : DefC K mg x st ps, D.c = c ∧ ∀ (s : Shared) (us : List Value), us.length = ps.length → BindsTo s D.fd ⟨us, []⟩ (ps.zip us) :=
  ⟨⟨f, _, c, ⟨⟨_, _, _, _, _, _, _, _, rfl, l, c0⟩, k⟩, (fun_mk l c0 k).binds hb, PySem.W.mg_of X G a⟩, rfl, fun _ us hu => .of_eq (hb _ _ _ _ _ _ us hu)⟩
theorem codeHdC {K : PySem.W.Frag} {h : Heap} {c P : Addr} {od : Option Addr} {vs : Array Value} {sl : Array (Option Value)} (X : K.In h) (l : K.lookup c = some ⟨.type "code", od, .fields vs, sl⟩) (e : (match (vs[11]? : Option Value) with | some (.ref P') => P' == P | _ => false) = true) (e2 : ((match vs.getD 18 .none with | .str _ _ => true | _ => false) && (match vs.getD 7 .none with | .int _ _ => true | _ => false) &&
      (match vs.getD 9 .none with | .bool _ => true | _ => false) && (match vs.getD 10 .none with | .int _ _ => true | _ => false) && (c != P)) = true) : PySem.W.CodeHd h c P :=
  PySem.W.codeHd_of_K X (by
    unfold PySem.W.codeHdIn
    rw [l]
    simp only [Bool.and_eq_true] at e2 ⊢
    exact ⟨⟨⟨⟨⟨e, e2.1.1.1.1⟩, e2.1.1.1.2⟩, e2.1.1.2⟩, e2.1.2⟩, e2.2⟩)
theorem lamAll {K : PySem.W.Frag} {h : Heap} {mg : Str → Option Value} (X : K.In h) (G : h.Ns mainGlobals mg) {f0 c0 P0 : Addr} {oc0 kV0 dc0 pm0 ct0 : Value} {od0 an0 oe0 : Option Addr} {sl0 sm0 : Array (Option Value)} {vs0 : Array Value}
    (a0 : PySem.W.nsIn K mainGlobals "_law_refusals_right" = some (some (.ref f0))) (l0 : K.lookup f0 = some ⟨oc0, od0, .func (PySem.W.fnOf "_law_refusals_right" "_law_refusals_right" (defArgs s_L_refusals_right) (defBody s_L_refusals_right) (defScope s_L_refusals_right) .none kV0 dc0 pm0 an0 (.ref c0) ct0), sl0⟩) (d0 : PySem.W.codeIn K (.ref c0) "_law_refusals_right" = true) (k0 : PySem.W.keepIn K (.ref f0) = true) (m0 : K.lookup c0 = some ⟨.type "code", oe0, .fields vs0, sm0⟩) (p0 : (vs0[11]? : Option Value) = some (.ref P0)) (q0 : ((match vs0.getD 18 .none with | .str _ _ => true | _ => false) && (match vs0.getD 7 .none with | .int _ _ => true | _ => false) && (match vs0.getD 9 .none with | .bool _ => true | _ => false) && (match vs0.getD 10 .none with | .int _ _ => true | _ => false) && (c0 != P0)) = true) (n0 : K.lookup P0 = none) (t0 : h.get? P0 = some { cls := .none, data := .fields #[] }) :
    ∃ (P0 : Addr) (D0 : DefC K mg "_law_refusals_right" s_L_refusals_right ["_law_meaning_here", "_law_rows_here", "_law_odd"]), (PySem.W.CodeHd h D0.c P0 ∧ K.lookup P0 = none ∧ h.get? P0 = some { cls := .none, data := .fields #[] } ∧ ∀ (s : Shared) (us : List Value), us.length = (["_law_meaning_here", "_law_rows_here", "_law_odd"] : List Str).length → BindsTo s D0.fd ⟨us, []⟩ ((["_law_meaning_here", "_law_rows_here", "_law_odd"] : List Str).zip us)) := by
  obtain ⟨D0, rfl, hB0⟩ := defAtC (ps := ["_law_meaning_here", "_law_rows_here", "_law_odd"]) X G a0 l0 d0 k0 (fun _ _ _ _ _ _ us hl => match us, hl with | [_, _, _], _ => rfl)
  exact ⟨P0, D0, ⟨codeHdC X m0 (by rw [p0]; simp) q0, n0, t0, hB0⟩⟩
theorem lawAt {l : PySem.W.OpenLaw} {w : World} {K : PySem.W.Frag} {mg : Str → Option Value} {fa : Addr} {fd : FuncData} {h : Heap} {c0 P0 : Addr} (G0 : h.get? P0 = some { cls := .none, data := .fields #[] }) (N0 : K.lookup P0 = none) (C0 : PySem.W.CodeHd h c0 P0) (hb : ∀ (s : Shared) (u : Value), BindsTo s fd ⟨[u], []⟩ [("_law_script", u)])
    (hF : ∀ base : Heap, LamX.TabB base mg c0 P0 → FnOk l.prog w K mg base CX0 14 fa fd ["_law_script"] (spLawT K [(P0, ("_law_refusals_right.<locals>.<lambda>" : Str))])) : LamX.LawAtS l w K CX0 14 63 "_law_script" mg fa h := by
  refine ⟨fd, [(c0, P0)], spLawT K [(P0, ("_law_refusals_right.<locals>.<lambda>" : Str))], fun p hp => ?_, fun p hp => ?_, fun p hp => ?_, hb, fun H a ns hl _ hH hS => ⟨a, ns, rfl, hS, hl, fun p hp => ?_, fun _ => rfl⟩, fun base _ _ hTB => hF base (hTB _ (.head _))⟩
  · rcases List.mem_singleton.mp hp with rfl
    exact G0
  · rcases List.mem_singleton.mp hp with rfl
    exact N0
  · rcases List.mem_singleton.mp hp with rfl
    exact C0
  · rcases List.mem_singleton.mp hp with rfl
    exact LamX.TabS.nil (hH _ (.head _))
theorem uniq0 {P0 : Addr}  : ∀ p ∈ ([(P0, ("_law_refusals_right.<locals>.<lambda>" : Str))] : List (Addr × Str)), p.1 = P0 → p.2 = ("_law_refusals_right.<locals>.<lambda>" : Str) := fun p hp e => by
  rcases List.mem_singleton.mp hp with rfl
  exact rfl
theorem walkT {l : PySem.W.OpenLaw} {q : Program} {loose : List Str} {XP : (Str → Option Value) → Heap → Prop} {YP : World → Heap → Prop} {d : DefRec} {K : Params → PySem.W.Frag} (hn : l.most = some 63) (hdf : d.params.defaults = [])
    (hY : ∀ (w : World) (h : Heap), YP w h → (K w.params).In h)
    (F : ∀ (w : World) (mg : Str → Option Value) (fa : Addr) (h : Heap), YP w h → (K w.params).In h → h.Ns mainGlobals mg → mg d.name = some (.ref fa) → LamX.LawAtS l w (K w.params) CX0 14 63 "_law_script" mg fa h) :
    PySem.W.WalkO q loose XP YP l.row.toRowW d [] (fun f vs => PySem.call f vs) :=
  LamX.walk_ofTs (n := 63) (k := 14) (x := "_law_script") (CX := fun _ => CX0) hn (by decide) hdf ⟨rfl, by decide, by decide⟩ hY F (fun _ _ _ _ _ z => z)
end Ts

set_option maxRecDepth 100000
open PySem PySem.W PyProof.Rows in
set_option maxRecDepth 100000 in
set_option maxHeartbeats 0 in
theorem PySem.Challenge.cw_turnsets_k20_whole_rules_compared_holds : PySem.Challenge.rw_turnsets_k20_whole_rules_compared.Holds := by
  w_on; o_law; k_head; (case hw => w_witness2)
  k_fill
  refine Ts.walkT (l := PySem.Challenge.rw_turnsets_k20_whole_rules_compared) rfl rfl (fun w h Y => PySem.W.km_in_of Y) ?F
  case F =>
    intro w mg fa h Y KX G hmg
    obtain ⟨Disname, _⟩ : ∃ D : Ts.DefAt _ mg "is_name" Ts.s_is_name ["thing"], ∀ (s : Shared) (us : List Value), us.length = (["thing"] : List Str).length → BindsTo s D.fd ⟨us, []⟩ ((["thing"] : List Str).zip us) := by
      refine' Ts.defAt KX G ?a ?l ?c ?k ?b
      (case a => k_is)
      (case l => k_is)
      (case c => k_is)
      (case k => k_is)
      (case b => exact fun _ _ _ _ _ _ us hl => match us, hl with | [_], _ => rfl)
    obtain ⟨Disnumber, _⟩ : ∃ D : Ts.DefAt _ mg "is_number" Ts.s_is_number ["thing", "least"], ∀ (s : Shared) (us : List Value), us.length = (["thing", "least"] : List Str).length → BindsTo s D.fd ⟨us, []⟩ ((["thing", "least"] : List Str).zip us) := by
      refine' Ts.defAt KX G ?a ?l ?c ?k ?b
      (case a => k_is)
      (case l => k_is)
      (case c => k_is)
      (case k => k_is)
      (case b => exact fun _ _ _ _ _ _ us hl => match us, hl with | [_, _], _ => rfl)
    obtain ⟨Disprice, _⟩ : ∃ D : Ts.DefAt _ mg "is_price" Ts.s_is_price ["thing"], ∀ (s : Shared) (us : List Value), us.length = (["thing"] : List Str).length → BindsTo s D.fd ⟨us, []⟩ ((["thing"] : List Str).zip us) := by
      refine' Ts.defAt KX G ?a ?l ?c ?k ?b
      (case a => k_is)
      (case l => k_is)
      (case c => k_is)
      (case k => k_is)
      (case b => exact fun _ _ _ _ _ _ us hl => match us, hl with | [_], _ => rfl)
    obtain ⟨Disrow, _⟩ : ∃ D : Ts.DefAt _ mg "is_row" Ts.s_is_row ["thing", "taken", "homes"], ∀ (s : Shared) (us : List Value), us.length = (["thing", "taken", "homes"] : List Str).length → BindsTo s D.fd ⟨us, []⟩ ((["thing", "taken", "homes"] : List Str).zip us) := by
      refine' Ts.defAt KX G ?a ?l ?c ?k ?b
      (case a => k_is)
      (case l => k_is)
      (case c => k_is)
      (case k => k_is)
      (case b => exact fun _ _ _ _ _ _ us hl => match us, hl with | [_, _, _], _ => rfl)
    obtain ⟨Dcheckrows, _⟩ : ∃ D : Ts.DefAt _ mg "check_rows" Ts.s_check_rows ["rows", "names", "folders"], ∀ (s : Shared) (us : List Value), us.length = (["rows", "names", "folders"] : List Str).length → BindsTo s D.fd ⟨us, []⟩ ((["rows", "names", "folders"] : List Str).zip us) := by
      refine' Ts.defAt KX G ?a ?l ?c ?k ?b
      (case a => k_is)
      (case l => k_is)
      (case c => k_is)
      (case k => k_is)
      (case b => exact fun _ _ _ _ _ _ us hl => match us, hl with | [_, _, _], _ => rfl)
    obtain ⟨Dcheckbox, _⟩ : ∃ D : Ts.DefAt _ mg "check_box" Ts.s_check_box ["tree", "thing"], ∀ (s : Shared) (us : List Value), us.length = (["tree", "thing"] : List Str).length → BindsTo s D.fd ⟨us, []⟩ ((["tree", "thing"] : List Str).zip us) := by
      refine' Ts.defAt KX G ?a ?l ?c ?k ?b
      (case a => k_is)
      (case l => k_is)
      (case c => k_is)
      (case k => k_is)
      (case b => exact fun _ _ _ _ _ _ us hl => match us, hl with | [_, _], _ => rfl)
    obtain ⟨Displace, _⟩ : ∃ D : Ts.DefAt _ mg "is_place" Ts.s_is_place ["tree", "thing"], ∀ (s : Shared) (us : List Value), us.length = (["tree", "thing"] : List Str).length → BindsTo s D.fd ⟨us, []⟩ ((["tree", "thing"] : List Str).zip us) := by
      refine' Ts.defAt KX G ?a ?l ?c ?k ?b
      (case a => k_is)
      (case l => k_is)
      (case c => k_is)
      (case k => k_is)
      (case b => exact fun _ _ _ _ _ _ us hl => match us, hl with | [_, _], _ => rfl)
    obtain ⟨Dcheckplace, _⟩ : ∃ D : Ts.DefAt _ mg "check_place" Ts.s_check_place ["tree", "thing"], ∀ (s : Shared) (us : List Value), us.length = (["tree", "thing"] : List Str).length → BindsTo s D.fd ⟨us, []⟩ ((["tree", "thing"] : List Str).zip us) := by
      refine' Ts.defAt KX G ?a ?l ?c ?k ?b
      (case a => k_is)
      (case l => k_is)
      (case c => k_is)
      (case k => k_is)
      (case b => exact fun _ _ _ _ _ _ us hl => match us, hl with | [_, _], _ => rfl)
    obtain ⟨Dcheckturns, _⟩ : ∃ D : Ts.DefAt _ mg "check_turns" Ts.s_check_turns ["tree", "turns"], ∀ (s : Shared) (us : List Value), us.length = (["tree", "turns"] : List Str).length → BindsTo s D.fd ⟨us, []⟩ ((["tree", "turns"] : List Str).zip us) := by
      refine' Ts.defAt KX G ?a ?l ?c ?k ?b
      (case a => k_is)
      (case l => k_is)
      (case c => k_is)
      (case k => k_is)
      (case b => exact fun _ _ _ _ _ _ us hl => match us, hl with | [_, _], _ => rfl)
    obtain ⟨Dvaluesof, _⟩ : ∃ D : Ts.DefAt _ mg "values_of" Ts.s_values_of ["tree", "default", "turns"], ∀ (s : Shared) (us : List Value), us.length = (["tree", "default", "turns"] : List Str).length → BindsTo s D.fd ⟨us, []⟩ ((["tree", "default", "turns"] : List Str).zip us) := by
      refine' Ts.defAt KX G ?a ?l ?c ?k ?b
      (case a => k_is)
      (case l => k_is)
      (case c => k_is)
      (case k => k_is)
      (case b => exact fun _ _ _ _ _ _ us hl => match us, hl with | [_, _, _], _ => rfl)
    obtain ⟨Dcheckrule, _⟩ : ∃ D : Ts.DefAt _ mg "check_rule" Ts.s_check_rule ["thing"], ∀ (s : Shared) (us : List Value), us.length = (["thing"] : List Str).length → BindsTo s D.fd ⟨us, []⟩ ((["thing"] : List Str).zip us) := by
      refine' Ts.defAt KX G ?a ?l ?c ?k ?b
      (case a => k_is)
      (case l => k_is)
      (case c => k_is)
      (case k => k_is)
      (case b => exact fun _ _ _ _ _ _ us hl => match us, hl with | [_], _ => rfl)
    obtain ⟨Dturnsbehind, _⟩ : ∃ D : Ts.DefAt _ mg "turns_behind" Ts.s_turns_behind ["meaning", "box", "folder", "rule"], ∀ (s : Shared) (us : List Value), us.length = (["meaning", "box", "folder", "rule"] : List Str).length → BindsTo s D.fd ⟨us, []⟩ ((["meaning", "box", "folder", "rule"] : List Str).zip us) := by
      refine' Ts.defAt KX G ?a ?l ?c ?k ?b
      (case a => k_is)
      (case l => k_is)
      (case c => k_is)
      (case k => k_is)
      (case b => exact fun _ _ _ _ _ _ us hl => match us, hl with | [_, _, _, _], _ => rfl)
    obtain ⟨Dmoved, _⟩ : ∃ D : Ts.DefAt _ mg "moved" Ts.s_moved ["meaning", "box", "folder", "rule"], ∀ (s : Shared) (us : List Value), us.length = (["meaning", "box", "folder", "rule"] : List Str).length → BindsTo s D.fd ⟨us, []⟩ ((["meaning", "box", "folder", "rule"] : List Str).zip us) := by
      refine' Ts.defAt KX G ?a ?l ?c ?k ?b
      (case a => k_is)
      (case l => k_is)
      (case c => k_is)
      (case k => k_is)
      (case b => exact fun _ _ _ _ _ _ us hl => match us, hl with | [_, _, _, _], _ => rfl)
    obtain ⟨Dback, _⟩ : ∃ D : Ts.DefAt _ mg "back" Ts.s_back ["meaning", "box", "folder", "rule"], ∀ (s : Shared) (us : List Value), us.length = (["meaning", "box", "folder", "rule"] : List Str).length → BindsTo s D.fd ⟨us, []⟩ ((["meaning", "box", "folder", "rule"] : List Str).zip us) := by
      refine' Ts.defAt KX G ?a ?l ?c ?k ?b
      (case a => k_is)
      (case l => k_is)
      (case c => k_is)
      (case k => k_is)
      (case b => exact fun _ _ _ _ _ _ us hl => match us, hl with | [_, _, _, _], _ => rfl)
    obtain ⟨Dgoals, _⟩ : ∃ D : Ts.DefAt _ mg "goals" Ts.s_goals ["tree", "box"], ∀ (s : Shared) (us : List Value), us.length = (["tree", "box"] : List Str).length → BindsTo s D.fd ⟨us, []⟩ ((["tree", "box"] : List Str).zip us) := by
      refine' Ts.defAt KX G ?a ?l ?c ?k ?b
      (case a => k_is)
      (case l => k_is)
      (case c => k_is)
      (case k => k_is)
      (case b => exact fun _ _ _ _ _ _ us hl => match us, hl with | [_, _], _ => rfl)
    obtain ⟨Dunlikemoves, _⟩ : ∃ D : Ts.DefAt _ mg "unlike_moves" Ts.s_unlike_moves ["meaning", "rule", "other"], ∀ (s : Shared) (us : List Value), us.length = (["meaning", "rule", "other"] : List Str).length → BindsTo s D.fd ⟨us, []⟩ ((["meaning", "rule", "other"] : List Str).zip us) := by
      refine' Ts.defAt KX G ?a ?l ?c ?k ?b
      (case a => k_is)
      (case l => k_is)
      (case c => k_is)
      (case k => k_is)
      (case b => exact fun _ _ _ _ _ _ us hl => match us, hl with | [_, _, _], _ => rfl)
    obtain ⟨DLstream, _⟩ : ∃ D : Ts.DefAt _ mg "_law_stream" Ts.s_L_stream ["_law_script", "_law_k"], ∀ (s : Shared) (us : List Value), us.length = (["_law_script", "_law_k"] : List Str).length → BindsTo s D.fd ⟨us, []⟩ ((["_law_script", "_law_k"] : List Str).zip us) := by
      refine' Ts.defAt KX G ?a ?l ?c ?k ?b
      (case a => k_is)
      (case l => k_is)
      (case c => k_is)
      (case k => k_is)
      (case b => exact fun _ _ _ _ _ _ us hl => match us, hl with | [_, _], _ => rfl)
    obtain ⟨DLdraw, _⟩ : ∃ D : Ts.DefAt _ mg "_law_draw" Ts.s_L_draw ["_law_stream_here", "_law_many"], ∀ (s : Shared) (us : List Value), us.length = (["_law_stream_here", "_law_many"] : List Str).length → BindsTo s D.fd ⟨us, []⟩ ((["_law_stream_here", "_law_many"] : List Str).zip us) := by
      refine' Ts.defAt KX G ?a ?l ?c ?k ?b
      (case a => k_is)
      (case l => k_is)
      (case c => k_is)
      (case k => k_is)
      (case b => exact fun _ _ _ _ _ _ us hl => match us, hl with | [_, _], _ => rfl)
    obtain ⟨DLpick, _⟩ : ∃ D : Ts.DefAt _ mg "_law_pick" Ts.s_L_pick ["_law_stream_here", "_law_things"], ∀ (s : Shared) (us : List Value), us.length = (["_law_stream_here", "_law_things"] : List Str).length → BindsTo s D.fd ⟨us, []⟩ ((["_law_stream_here", "_law_things"] : List Str).zip us) := by
      refine' Ts.defAt KX G ?a ?l ?c ?k ?b
      (case a => k_is)
      (case l => k_is)
      (case c => k_is)
      (case k => k_is)
      (case b => exact fun _ _ _ _ _ _ us hl => match us, hl with | [_, _], _ => rfl)
    obtain ⟨DLname, _⟩ : ∃ D : Ts.DefAt _ mg "_law_name" Ts.s_L_name ["_law_stream_here"], ∀ (s : Shared) (us : List Value), us.length = (["_law_stream_here"] : List Str).length → BindsTo s D.fd ⟨us, []⟩ ((["_law_stream_here"] : List Str).zip us) := by
      refine' Ts.defAt KX G ?a ?l ?c ?k ?b
      (case a => k_is)
      (case l => k_is)
      (case c => k_is)
      (case k => k_is)
      (case b => exact fun _ _ _ _ _ _ us hl => match us, hl with | [_], _ => rfl)
    obtain ⟨DLkinds, _⟩ : ∃ D : Ts.DefAt _ mg "_law_kinds" Ts.s_L_kinds [], ∀ (s : Shared) (us : List Value), us.length = ([] : List Str).length → BindsTo s D.fd ⟨us, []⟩ (([] : List Str).zip us) := by
      refine' Ts.defAt KX G ?a ?l ?c ?k ?b
      (case a => k_is)
      (case l => k_is)
      (case c => k_is)
      (case k => k_is)
      (case b => exact fun _ _ _ _ _ _ us hl => match us, hl with | [], _ => rfl)
    obtain ⟨DLprices, _⟩ : ∃ D : Ts.DefAt _ mg "_law_prices" Ts.s_L_prices [], ∀ (s : Shared) (us : List Value), us.length = ([] : List Str).length → BindsTo s D.fd ⟨us, []⟩ (([] : List Str).zip us) := by
      refine' Ts.defAt KX G ?a ?l ?c ?k ?b
      (case a => k_is)
      (case l => k_is)
      (case c => k_is)
      (case k => k_is)
      (case b => exact fun _ _ _ _ _ _ us hl => match us, hl with | [], _ => rfl)
    obtain ⟨DLrows, _⟩ : ∃ D : Ts.DefAt _ mg "_law_rows" Ts.s_L_rows ["_law_stream_here", "_law_many", "_law_kinds_here", "_law_prices_here"], ∀ (s : Shared) (us : List Value), us.length = (["_law_stream_here", "_law_many", "_law_kinds_here", "_law_prices_here"] : List Str).length → BindsTo s D.fd ⟨us, []⟩ ((["_law_stream_here", "_law_many", "_law_kinds_here", "_law_prices_here"] : List Str).zip us) := by
      refine' Ts.defAt KX G ?a ?l ?c ?k ?b
      (case a => k_is)
      (case l => k_is)
      (case c => k_is)
      (case k => k_is)
      (case b => exact fun _ _ _ _ _ _ us hl => match us, hl with | [_, _, _, _], _ => rfl)
    obtain ⟨DLway, _⟩ : ∃ D : Ts.DefAt _ mg "_law_way" Ts.s_L_way ["_law_rows_here", "_law_box"], ∀ (s : Shared) (us : List Value), us.length = (["_law_rows_here", "_law_box"] : List Str).length → BindsTo s D.fd ⟨us, []⟩ ((["_law_rows_here", "_law_box"] : List Str).zip us) := by
      refine' Ts.defAt KX G ?a ?l ?c ?k ?b
      (case a => k_is)
      (case l => k_is)
      (case c => k_is)
      (case k => k_is)
      (case b => exact fun _ _ _ _ _ _ us hl => match us, hl with | [_, _], _ => rfl)
    obtain ⟨DLsome, _⟩ : ∃ D : Ts.DefAt _ mg "_law_some" Ts.s_L_some ["_law_stream_here", "_law_things"], ∀ (s : Shared) (us : List Value), us.length = (["_law_stream_here", "_law_things"] : List Str).length → BindsTo s D.fd ⟨us, []⟩ ((["_law_stream_here", "_law_things"] : List Str).zip us) := by
      refine' Ts.defAt KX G ?a ?l ?c ?k ?b
      (case a => k_is)
      (case l => k_is)
      (case c => k_is)
      (case k => k_is)
      (case b => exact fun _ _ _ _ _ _ us hl => match us, hl with | [_, _], _ => rfl)
    obtain ⟨DLopen, _⟩ : ∃ D : Ts.DefAt _ mg "_law_open" Ts.s_L_open ["_law_rows_here"], ∀ (s : Shared) (us : List Value), us.length = (["_law_rows_here"] : List Str).length → BindsTo s D.fd ⟨us, []⟩ ((["_law_rows_here"] : List Str).zip us) := by
      refine' Ts.defAt KX G ?a ?l ?c ?k ?b
      (case a => k_is)
      (case l => k_is)
      (case c => k_is)
      (case k => k_is)
      (case b => exact fun _ _ _ _ _ _ us hl => match us, hl with | [_], _ => rfl)
    obtain ⟨DLmeaning, _⟩ : ∃ D : Ts.DefAt _ mg "_law_meaning" Ts.s_L_meaning ["_law_stream_here", "_law_rows_here", "_law_tree"], ∀ (s : Shared) (us : List Value), us.length = (["_law_stream_here", "_law_rows_here", "_law_tree"] : List Str).length → BindsTo s D.fd ⟨us, []⟩ ((["_law_stream_here", "_law_rows_here", "_law_tree"] : List Str).zip us) := by
      refine' Ts.defAt KX G ?a ?l ?c ?k ?b
      (case a => k_is)
      (case l => k_is)
      (case c => k_is)
      (case k => k_is)
      (case b => exact fun _ _ _ _ _ _ us hl => match us, hl with | [_, _, _], _ => rfl)
    obtain ⟨DLbeneath, _⟩ : ∃ D : Ts.DefAt _ mg "_law_beneath" Ts.s_L_beneath ["_law_rows_here", "_law_box"], ∀ (s : Shared) (us : List Value), us.length = (["_law_rows_here", "_law_box"] : List Str).length → BindsTo s D.fd ⟨us, []⟩ ((["_law_rows_here", "_law_box"] : List Str).zip us) := by
      refine' Ts.defAt KX G ?a ?l ?c ?k ?b
      (case a => k_is)
      (case l => k_is)
      (case c => k_is)
      (case k => k_is)
      (case b => exact fun _ _ _ _ _ _ us hl => match us, hl with | [_, _], _ => rfl)
    obtain ⟨DLunlike, _⟩ : ∃ D : Ts.DefAt _ mg "_law_unlike" Ts.s_L_unlike ["_law_meaning_here", "_law_rows_here", "_law_box", "_law_folder", "_law_rules"], ∀ (s : Shared) (us : List Value), us.length = (["_law_meaning_here", "_law_rows_here", "_law_box", "_law_folder", "_law_rules"] : List Str).length → BindsTo s D.fd ⟨us, []⟩ ((["_law_meaning_here", "_law_rows_here", "_law_box", "_law_folder", "_law_rules"] : List Str).zip us) := by
      refine' Ts.defAt KX G ?a ?l ?c ?k ?b
      (case a => k_is)
      (case l => k_is)
      (case c => k_is)
      (case k => k_is)
      (case b => exact fun _ _ _ _ _ _ us hl => match us, hl with | [_, _, _, _, _], _ => rfl)
    obtain ⟨DLrefused, _⟩ : ∃ D : Ts.DefAt _ mg "_law_refused" Ts.s_L_refused ["_law_ask"], ∀ (s : Shared) (us : List Value), us.length = (["_law_ask"] : List Str).length → BindsTo s D.fd ⟨us, []⟩ ((["_law_ask"] : List Str).zip us) := by
      refine' Ts.defAt KX G ?a ?l ?c ?k ?b
      (case a => k_is)
      (case l => k_is)
      (case c => k_is)
      (case k => k_is)
      (case b => exact fun _ _ _ _ _ _ us hl => match us, hl with | [_], _ => rfl)
    obtain ⟨Dlaw, bL⟩ : ∃ D : Ts.DefAt _ mg "law" Ts.s_law ["_law_script"], ∀ (s : Shared) (us : List Value), us.length = (["_law_script"] : List Str).length → BindsTo s D.fd ⟨us, []⟩ ((["_law_script"] : List Str).zip us) := by
      refine' Ts.defAt KX G ?a ?l ?c ?k ?b
      (case a => k_is)
      (case l => k_is)
      (case c => k_is)
      (case k => k_is)
      (case b => exact fun _ _ _ _ _ _ us hl => match us, hl with | [_], _ => rfl)
    obtain ⟨B, zSorted⟩ : Ts.TxB mg ∧ mg "sorted" = none := by
      refine' Ts.freeAll KX G ?z0 ?z1 ?z2 ?z3 ?z4 ?z5 ?z6 ?z7 ?z8 ?z9 ?z10 ?z11 ?z12
      (case z0 => k_is)
      (case z1 => k_is)
      (case z2 => k_is)
      (case z3 => k_is)
      (case z4 => k_is)
      (case z5 => k_is)
      (case z6 => k_is)
      (case z7 => k_is)
      (case z8 => k_is)
      (case z9 => k_is)
      (case z10 => k_is)
      (case z11 => k_is)
      (case z12 => k_is)
    obtain ⟨TC⟩ := by
      refine' Ts.constAll KX G Disnumber ?b1 ?b2 ?b3 ?b4 ?b5 ?b6 ?b7
      (case b1 => k_is)
      (case b2 => k_is)
      (case b3 => k_is)
      (case b4 => k_is)
      (case b5 => k_is)
      (case b6 => decide)
      (case b7 => exact .cons ⟨_, rfl⟩ (.cons ⟨_, rfl⟩ (.cons ⟨_, rfl⟩ .nil)))
    obtain ⟨TV⟩ : Nonempty (Ts.TxV _ mg) := by
      refine' Ts.constV KX G ?f0 ?f1 ?f2 ?f3 ?f4 ?f5
      (case f0 => k_is)
      (case f1 => k_is)
      (case f2 => k_is)
      (case f3 => k_is)
      (case f4 => decide)
      (case f5 => exact .cons ⟨_, rfl⟩ (.cons ⟨_, rfl⟩ (.cons ⟨_, rfl⟩ .nil)))
    obtain ⟨E_Locked, T_Locked, f_Locked, fd_Locked, i_Locked, t_Locked, F_Locked⟩ : ∃ E : Addr, Ts.ErrT _ mg E "Locked" "box" ∧ ∃ (f : Addr) (fd : FuncData), PySem.W.findIn _ (.ref E) "__init__" = some (some (.ref f)) ∧ PySem.W.typeIn _ (.ref f) = some (.type "function") ∧ L2.Fun _ "__init__" "Locked.__init__" Ts.s_Locked_init f fd := by
      refine' ⟨_, Ts.errAll KX G ?ELockedaC ?ELockedxL ?ELockedsa ?ELockedga ?ELockedgg ?ELockednb ?ELockeda1 ?ELockedt1 ?ELockedl1 ?ELockedc1 ?ELockedk1 ?ELockedkC ?ELockedeC ?ELockedtC ?ELockedhC ?ELockediC ?ELockedsC⟩
      (case ELockedaC => k_is)
      (case ELockedxL => k_is)
      (case ELockedsa => k_is)
      (case ELockedga => k_is)
      (case ELockedgg => k_is)
      (case ELockednb => k_is)
      (case ELockeda1 => k_is)
      (case ELockedt1 => k_is)
      (case ELockedl1 => k_is)
      (case ELockedc1 => k_is)
      (case ELockedk1 => k_is)
      (case ELockedkC => k_is)
      (case ELockedeC => k_is)
      (case ELockedtC => k_is)
      (case ELockedhC => k_is)
      (case ELockediC => k_is)
      (case ELockedsC => first | rfl | k_is)
    obtain ⟨E_BadRule, E_NoBox, E_BadMove, TE, ⟨f_BadRule, fd_BadRule, i_BadRule, t_BadRule, F_BadRule, b_BadRule⟩, ⟨f_NoBox, fd_NoBox, i_NoBox, t_NoBox, F_NoBox, b_NoBox⟩, ⟨f_BadMove, fd_BadMove, i_BadMove, t_BadMove, F_BadMove, b_BadMove⟩⟩ := by
      refine' Ts.errsAll KX G ?Ze0aC ?Ze0xL ?Ze0sa ?Ze0ga ?Ze0gg ?Ze0nb ?Ze0a1 ?Ze0t1 ?Ze0l1 ?Ze0c1 ?Ze0k1 ?Ze0kC ?Ze0eC ?Ze0tC ?Ze0hC ?Ze0iC ?Ze0sC ?Ze1aC ?Ze1xL ?Ze1sa ?Ze1ga ?Ze1gg ?Ze1nb ?Ze1a1 ?Ze1t1 ?Ze1l1 ?Ze1c1 ?Ze1k1 ?Ze1kC ?Ze1eC ?Ze1tC ?Ze1hC ?Ze1iC ?Ze1sC ?Ze2aC ?Ze2xL ?Ze2sa ?Ze2ga ?Ze2gg ?Ze2nb ?Ze2a1 ?Ze2t1 ?Ze2l1 ?Ze2c1 ?Ze2k1 ?Ze2kC ?Ze2eC ?Ze2tC ?Ze2hC ?Ze2iC ?Ze2sC ?Ze2x0 ?Zn1_0 ?Zn2_0 ?Zn2_1
      (case Ze0aC => k_is)
      (case Ze0xL => k_is)
      (case Ze0sa => k_is)
      (case Ze0ga => k_is)
      (case Ze0gg => k_is)
      (case Ze0nb => k_is)
      (case Ze0a1 => k_is)
      (case Ze0t1 => k_is)
      (case Ze0l1 => k_is)
      (case Ze0c1 => k_is)
      (case Ze0k1 => k_is)
      (case Ze0kC => k_is)
      (case Ze0eC => k_is)
      (case Ze0tC => k_is)
      (case Ze0hC => k_is)
      (case Ze0iC => k_is)
      (case Ze0sC => first | rfl | k_is)
      (case Ze1aC => k_is)
      (case Ze1xL => k_is)
      (case Ze1sa => k_is)
      (case Ze1ga => k_is)
      (case Ze1gg => k_is)
      (case Ze1nb => k_is)
      (case Ze1a1 => k_is)
      (case Ze1t1 => k_is)
      (case Ze1l1 => k_is)
      (case Ze1c1 => k_is)
      (case Ze1k1 => k_is)
      (case Ze1kC => k_is)
      (case Ze1eC => k_is)
      (case Ze1tC => k_is)
      (case Ze1hC => k_is)
      (case Ze1iC => k_is)
      (case Ze1sC => first | rfl | k_is)
      (case Ze2aC => k_is)
      (case Ze2xL => k_is)
      (case Ze2sa => k_is)
      (case Ze2ga => k_is)
      (case Ze2gg => k_is)
      (case Ze2nb => k_is)
      (case Ze2a1 => k_is)
      (case Ze2t1 => k_is)
      (case Ze2l1 => k_is)
      (case Ze2c1 => k_is)
      (case Ze2k1 => k_is)
      (case Ze2kC => k_is)
      (case Ze2eC => k_is)
      (case Ze2tC => k_is)
      (case Ze2hC => k_is)
      (case Ze2iC => k_is)
      (case Ze2sC => first | rfl | k_is)
      (case Ze2x0 => k_is)
      (case Zn1_0 => k_is)
      (case Zn2_0 => k_is)
      (case Zn2_1 => k_is)
    have hT8 := PySem.W.km_tabs_of Y
    obtain ⟨P0, Dri, ⟨hC0, hN0, hG0, hB0⟩⟩ := by
      refine' Ts.lamAll KX G ?La0 ?Ll0 ?Ld0 ?Lk0 ?Lm0 ?Lp0 ?Lq0 ?Ln0 ?Lt0
      (case La0 => k_is)
      (case Ll0 => k_is)
      (case Ld0 => k_is)
      (case Lk0 => k_is)
      (case Lm0 => k_is)
      (case Lp0 => rfl)
      (case Lq0 => first | rfl | decide +kernel)
      (case Ln0 => first | kernel_rfl | rfl | decide +kernel)
      (case Lt0 => exact hT8 _ (by k_mem))
    obtain ⟨C, T, N, I, ⟨fI, fdI, FI, MT, bI⟩, ⟨M_eq⟩, ⟨M_contains⟩, ⟨M_folder⟩, ⟨M_kind⟩, ⟨M_price⟩, ⟨M_below⟩, ⟨M_moved⟩, CM, M, NM, IM, ⟨fM, fdM, Te, dsM, FM, MM, bM, bM1, rM1, hTe⟩, ⟨L_value⟩, ⟨L_states⟩⟩ := by
      refine' Ts.bothAll KX G ?aC ?pg ?hd ?po ?sa ?mk ?kc ?nq ?nf ?nk ?np ?ne ?ob ?iC ?tC ?ha ?hn ?htk ?hm ?a0 ?i0 ?l0 ?c0 ?k0 ?a1 ?i1 ?l1 ?c1 ?k1 ?a2 ?i2 ?l2 ?c2 ?k2 ?a3 ?i3 ?l3 ?c3 ?k3 ?a4 ?i4 ?l4 ?c4 ?k4 ?a5 ?i5 ?l5 ?c5 ?k5 ?a6 ?i6 ?l6 ?c6 ?k6 ?a7 ?i7 ?l7 ?c7 ?k7 ?maC ?mpg ?mhd ?mpo ?msa ?mmk ?mkc ?mnt ?mnd ?mnu ?mnk ?mne ?mob ?miC ?mtC ?mha ?mhn ?mhtk ?mhm ?ma0 ?mi0 ?ml0 ?mc0 ?mk0 ?mlT ?mvT ?mlE ?mvE ?ma1 ?mi1 ?ml1 ?mc1 ?mk1 ?ma2 ?mi2 ?ml2 ?mc2 ?mk2
      (case aC => k_is)
      (case pg => k_is)
      (case hd => k_is)
      (case po => k_is)
      (case sa => k_is)
      (case mk => k_is)
      (case kc => k_is)
      (case nq => k_is)
      (case nf => k_is)
      (case nk => k_is)
      (case np => k_is)
      (case ne => k_is)
      (case ob => k_is)
      (case iC => k_is)
      (case tC => k_is)
      (case ha => k_is)
      (case hn => k_is)
      (case htk => k_is)
      (case hm => k_is)
      (case a0 => k_is)
      (case i0 => k_is)
      (case l0 => k_is)
      (case c0 => k_is)
      (case k0 => k_is)
      (case a1 => k_is)
      (case i1 => k_is)
      (case l1 => k_is)
      (case c1 => k_is)
      (case k1 => k_is)
      (case a2 => k_is)
      (case i2 => k_is)
      (case l2 => k_is)
      (case c2 => k_is)
      (case k2 => k_is)
      (case a3 => k_is)
      (case i3 => k_is)
      (case l3 => k_is)
      (case c3 => k_is)
      (case k3 => k_is)
      (case a4 => k_is)
      (case i4 => k_is)
      (case l4 => k_is)
      (case c4 => k_is)
      (case k4 => k_is)
      (case a5 => k_is)
      (case i5 => k_is)
      (case l5 => k_is)
      (case c5 => k_is)
      (case k5 => k_is)
      (case a6 => k_is)
      (case i6 => k_is)
      (case l6 => k_is)
      (case c6 => k_is)
      (case k6 => k_is)
      (case a7 => k_is)
      (case i7 => k_is)
      (case l7 => k_is)
      (case c7 => k_is)
      (case k7 => k_is)
      (case maC => k_is)
      (case mpg => k_is)
      (case mhd => k_is)
      (case mpo => k_is)
      (case msa => k_is)
      (case mmk => k_is)
      (case mkc => k_is)
      (case mnt => k_is)
      (case mnd => k_is)
      (case mnu => k_is)
      (case mnk => k_is)
      (case mne => k_is)
      (case mob => k_is)
      (case miC => k_is)
      (case mtC => k_is)
      (case mha => k_is)
      (case mhn => k_is)
      (case mhtk => k_is)
      (case mhm => k_is)
      (case ma0 => k_is)
      (case mi0 => k_is)
      (case ml0 => k_is)
      (case mc0 => k_is)
      (case mk0 => k_is)
      (case mlT => k_is)
      (case mvT => rfl)
      (case mlE => k_is)
      (case mvE => rfl)
      (case ma1 => k_is)
      (case mi1 => k_is)
      (case ml1 => k_is)
      (case mc1 => k_is)
      (case mk1 => k_is)
      (case ma2 => k_is)
      (case mi2 => k_is)
      (case ml2 => k_is)
      (case mc2 => k_is)
      (case mk2 => k_is)
    have e := hmg.symm.trans Dlaw.g
    cases e
    refine Ts.lawAt hG0 hN0 hC0 (fun s v => bL s [v] rfl) fun base TB0 => ?_
    have Gc := Ts.ok_check_rows (P := PySem.Challenge.rw_turnsets_k20_whole_rules_compared.prog) (w := w) (base := base) Dcheckrows Disrow Disname Disprice B TC
    have GT := Ts.ok_Tree_init FI Dcheckrows Gc B TC T
    have Gb := Ts.ok_check_box (P := PySem.Challenge.rw_turnsets_k20_whole_rules_compared.prog) (w := w) (base := base) Dcheckbox M_contains B T
    have Gip := Ts.ok_is_place (P := PySem.Challenge.rw_turnsets_k20_whole_rules_compared.prog) (w := w) (base := base) Displace M_contains B TC T
    have Gpl := Ts.ok_check_place Dcheckplace Displace Gip
    have GF := Ts.ok_Tree_folder M_folder.F Dcheckbox Gb T
    have GP := Ts.ok_Tree_price M_price.F Dcheckbox Gb T
    have GB := Ts.ok_Tree_below M_below.F Dcheckplace Gpl B T
    have GE := Ts.ok_Tree_eq (P := PySem.Challenge.rw_turnsets_k20_whole_rules_compared.prog) (w := w) (base := base) M_eq.F B T I
    have GI := Ts.ok_Locked_init (P := PySem.Challenge.rw_turnsets_k20_whole_rules_compared.prog) (w := w) (base := base) (mg := mg) F_Locked T_Locked.O T_Locked.nb
    have bE := F_Locked.binds (ps := ["self", "box"]) (fun _ _ _ _ _ _ us hl => match us, hl with | [_, _], _ => rfl)
    have Gct := Ts.ok_check_turnsX Dcheckturns Dcheckbox Gb T M_price GP T_Locked i_Locked t_Locked GI bE
    have Gvo := Ts.ok_values_of Dvaluesof TC T M_below GB M_folder GF
    have GMX := Ts.ok_M_initX FM B TC T M Dcheckturns Gct Dvaluesof Gvo M_below GB
    have GM := Ts.calm_init GMX
    have HV := Ts.ok_M_value (P := PySem.Challenge.rw_turnsets_k20_whole_rules_compared.prog) (w := w) (base := base) L_value.F M Dcheckplace Gpl
    have HS := Ts.ok_M_states (P := PySem.Challenge.rw_turnsets_k20_whole_rules_compared.prog) (w := w) (base := base) (C := C) L_states.F B M
    have GMv := Ts.ok_Tree_moved M_moved.F Dcheckbox Gb Dcheckplace Gpl TC T M_below GB MT bI GT
    have Gru := Ts.ok_rule (P := PySem.Challenge.rw_turnsets_k20_whole_rules_compared.prog) (w := w) (base := base) Dcheckrule TV
    have Gbt := Ts.ok_behindT Dturnsbehind TV M L_value HV
    have Gmv := Ts.ok_movedM Dmoved T M M_moved GMv Dcheckrule Gru Dturnsbehind Gbt MM bM GMX
    have Gbk := Ts.ok_back Dback zSorted T M Dmoved Gmv M_folder GF
    have Gr := Ts.ok_rows (P := PySem.Challenge.rw_turnsets_k20_whole_rules_compared.prog) (w := w) (base := base) DLrows DLname DLpick DLdraw B
    have Gd := Ts.ok_draw (P := PySem.Challenge.rw_turnsets_k20_whole_rules_compared.prog) (w := w) (base := base) DLdraw B
    have Gso := Ts.ok_Lsome DLsome DLdraw Gd
    have Go := Ts.ok_Lopen (P := PySem.Challenge.rw_turnsets_k20_whole_rules_compared.prog) (w := w) (base := base) DLopen
    have Gmn := Ts.ok_mngF DLmeaning M DLdraw Gd DLopen Go DLsome Gso MM bM GM
    have Gw := Ts.ok_way (P := PySem.Challenge.rw_turnsets_k20_whole_rules_compared.prog) (w := w) (base := base) DLway B
    have Gbe := Ts.ok_beneath DLbeneath DLway Gw
    have GK := Ts.ok_Tree_kind M_kind.F Dcheckbox Gb T
    have GGo := Ts.ok_goals Dgoals TC T M_below GB M_kind GK
    have Gul := Ts.ok_unlikeM Dunlikemoves TC T M Dcheckrule Gru Dgoals GGo Dturnsbehind Gbt M_below GB M_price GP
    have GIN := Ts.ok_NoBox_init (P := PySem.Challenge.rw_turnsets_k20_whole_rules_compared.prog) (w := w) (base := base) (mg := mg) F_NoBox TE.N.O TE.N.nb
    have GIM := Ts.ok_BadMove_init (P := PySem.Challenge.rw_turnsets_k20_whole_rules_compared.prog) (w := w) (base := base) (mg := mg) F_BadMove TE.M.O TE.M.nb TE.Mi
    have GIR := Ts.ok_BadRule_init (P := PySem.Challenge.rw_turnsets_k20_whole_rules_compared.prog) (w := w) (base := base) (mg := mg) F_BadRule TE.R.O TE.R.nb
    have Xb := Ts.ok_check_boxX Dcheckbox M_contains B T TE.N i_NoBox t_NoBox GIN b_NoBox
    have Xip := Ts.ok_is_placeX (P := PySem.Challenge.rw_turnsets_k20_whole_rules_compared.prog) (w := w) (base := base) Displace M_contains B TC T
    have Xpl := Ts.ok_check_placeX Dcheckplace Displace Xip TE.N i_NoBox t_NoBox GIN b_NoBox
    have XM := Ts.ok_movedX M_moved.F Dcheckbox Gb Xb Dcheckplace Gpl Xpl TC T M_below GB TE.M i_BadMove t_BadMove GIM b_BadMove
    have Xru := Ts.ok_ruleX Dcheckrule TV TE.R i_BadRule t_BadRule GIR b_BadRule
    have XMr := Ts.ok_movedR Dmoved T M M_moved GMv XM Dcheckrule Xru
    have Xbk := Ts.ok_backR Dback Dmoved XMr
    have Xul := Ts.ok_unlikeX Dunlikemoves Dcheckrule Gru Xru
    have Gri := Ts.ok_Ri Dri DLrefused TE TB0 (.head _) Ts.uniq0 Dmoved XMr Dback Xbk Dunlikemoves Xul
    have Gun := Ts.ok_LUn DLunlike M L_states HS DLopen Go
    exact Ts.ok_law Dlaw B T DLstream DLdraw DLkinds DLprices DLrows Gr DLmeaning Gmn DLbeneath Gbe DLunlike Gun Dunlikemoves Gul Dri Gri MT bI GT
