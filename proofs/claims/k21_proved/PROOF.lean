import PyProof.Rows.All
import Wide.All
import OpenK.AllK
import Wide.FinOn
import HandS.ForMost
import HandS.IsInst
import HandS.Conv
import HandS.DictComp
import HandS.Deep
import HandS.NoneIn
import HandS.Style
import HandS.TupAny
import HandS.OwnEq
import HandS.More
import HandS.Flow
import HandS.Codes
import HandS.Walk
import HandS.StrMore
import KE.GoesMore
import KE.GoesEnum
import HandS.DeepEq
import HandS.Defaults
import HandS.IterNext
import HandS.IterVal
import KE.KOwnIter
import HandS.ExcInit
import HandS.ExcField
import HandS.WordsExc
import KE.KOpsOwn
import PyProof.TupleOfSeq
import HandS.Finally
import PyProof.NeData
import HandS.List
import HandS.SetFor
import PyProof.EqKinds
import PyProof.NeKinds
import HandS.MakeKwOnly
import HandS.MakeKw
import PySem.Challenge.RW_turnsets_k21_calls_by_names
set_option Elab.async false
set_option linter.all false

set_option maxRecDepth 100000
set_option maxHeartbeats 4000000
namespace Ts
open PySem L2
section
variable {X : Cx} {CX : CXT} {k : Nat} {f C : Addr} {fd : FuncData} {ps : List Str} {sp : Sp} {E : XK}
/-- a def of the text run below a builtin of this body -/
theorem run_at {A : Around} {pins : List (Addr × Obj)} {σ : St} {H : Hp} {s : Shared} {Q : VK} {us : List Value} {vs : List V} (F : FnOk X.prog X.w X.K X.mg X.base CX k f fd ps sp) (hr : Room k A) (hfr : A.frames = X.A.frames) (hb : Binds X.K fd ps []) (hx : Passes CX X E)
    (I : Inv X pins σ H s) (r : Vals vs us) (h : sp vs H Q E) : wpAny (model X.prog X.w) A (call (.ref f) us) (EP X pins σ Q) X.xe s := by
  have hl : us.length = ps.length := by rw [← r.length]; exact F.len _ _ _ _ h
  have e0 : Env0 X.prog X.w X.K X.mg X.base A X.stack s H := by
    have e := I.env0
    exact ⟨by rw [hfr]; exact e.frames, e.mod, e.bs, e.bsz, e.funs, e.frf, e.hok, e.bare⟩
  refine wpAny_call (codeAny_mono (F.run A X.stack s H ⟨us, []⟩ us vs Q E hr e0 (by
    have := hb s us I.kIn (by simpa using hl)
    simpa using this) r h) fun r s' hq => ?_)
  cases r with
  | error e => exact hx pins σ H s e s' I hq
  | ok fl =>
    cases fl with
    | ret u => exact I.after hq
    | next => exact False.elim hq
    | brk => exact False.elim hq
    | cont => exact False.elim hq
/-- x in o, o of an own class with its own look -/
def rInC (C : Addr) (sp : Sp) (E : XK) : R2 := fun x y H Q => ∃ a dx fs, y = .ref a ∧ H a = some (.ins C dx fs) ∧ sp [.ref a, x] H (fun v H' => ∃ b, v = .bl b ∧ Q (.bl b) H') E
def rNotInC (C : Addr) (sp : Sp) (E : XK) : R2 := fun x y H Q => ∃ a dx fs, y = .ref a ∧ H a = some (.ins C dx fs) ∧ sp [.ref a, x] H (fun v H' => ∃ b, v = .bl b ∧ Q (.bl (!b)) H') E
theorem op_inC (F : FnOk X.prog X.w X.K X.mg X.base CX k f fd ps sp) (m : Meth X.K C "__contains__" f) (hr : Room k X.A) (hb : Binds X.K fd ps []) (hx : Passes CX X E) : OpR X (compareOp .In) (rInC C sp E) := by
  intro pins s σ H x y v u Q I rx ry hq
  obtain ⟨a, dx, fs, rfl, ha, hsp⟩ := hq
  cases ry
  obtain ⟨mA, J, _⟩ := ins_get I.hok ha
  obtain ⟨od, J, _⟩ := J.look
  obtain ⟨mm, hF⟩ := I.fr
  refine PySem.W.in_K hF I.ok.mod.kin J m.at_ m.fn ?_
  refine wpAny_mono (run_at F hr rfl hb hx I (us := [.ref a, v]) (.cons (show RelV (.ref a) (.ref a) from rfl) (.cons rx .nil)) hsp) (fun r s' hq => ?_) fun _ _ x => x
  obtain ⟨z, H', I', rz, b, rfl, q⟩ := hq
  cases rz
  exact wpAny_truthy_bool ⟨.bl b, H', I', rfl, q⟩
theorem op_notinC (F : FnOk X.prog X.w X.K X.mg X.base CX k f fd ps sp) (m : Meth X.K C "__contains__" f) (hr : Room k X.A) (hb : Binds X.K fd ps []) (hx : Passes CX X E) : OpR X (compareOp .NotIn) (rNotInC C sp E) := by
  intro pins s σ H x y v u Q I rx ry hq
  obtain ⟨a, dx, fs, rfl, ha, hsp⟩ := hq
  cases ry
  obtain ⟨mA, J, _⟩ := ins_get I.hok ha
  obtain ⟨od, J, _⟩ := J.look
  obtain ⟨mm, hF⟩ := I.fr
  refine PySem.W.notIn_K hF I.ok.mod.kin J m.at_ m.fn ?_
  refine wpAny_mono (run_at F hr rfl hb hx I (us := [.ref a, v]) (.cons (show RelV (.ref a) (.ref a) from rfl) (.cons rx .nil)) hsp) (fun r s' hq => ?_) fun _ _ x => x
  obtain ⟨z, H', I', rz, b, rfl, q⟩ := hq
  cases rz
  exact wpAny_truthy_bool ⟨.bl (!b), H', I', rfl, q⟩
/-- len(o) -/
def rLenC (C : Addr) (sp : Sp) (E : XK) : List V → Hp → VK → Prop := fun xs H Q => ∃ a dx fs, xs = [.ref a] ∧ H a = some (.ins C dx fs) ∧ sp [.ref a] H (fun v H' => ∃ n : Int, v = .int n ∧ (0 ≤ n ∧ n < 2 ^ 63) ∧ Q (.int n) H') E
theorem call_lenC (F : FnOk X.prog X.w X.K X.mg X.base CX k f fd ps sp) (m : Meth X.K C "__len__" f) (hr : Room (k + 1) X.A) (hb : Binds X.K fd ps []) (hx : Passes CX X E) : CallR X (.builtin "len") (rLenC C sp E) := by
  intro pins s σ H xs us Q I r hq
  obtain ⟨a, dx, fs, rfl, ha, hsp⟩ := hq
  obtain ⟨u, rfl, ru⟩ := vals1 r
  cases ru
  obtain ⟨mA, J, _⟩ := ins_get I.hok ha
  obtain ⟨od, J, _⟩ := J.look
  obtain ⟨mm, hF⟩ := I.fr
  refine PySem.W.len_K hF I.ok.mod.kin J m.at_ m.fn ?_
  refine wpAny_mono (run_at F hr.in1 rfl hb hx I (us := [.ref a]) (.cons (show RelV (.ref a) (.ref a) from rfl) .nil) hsp) (fun r s' hq => ?_) fun _ _ x => x
  obtain ⟨z, H', I', rz, n, rfl, hn, q⟩ := hq
  obtain ⟨t, rfl⟩ := rz
  exact ⟨hn, .int n, H', I'.tok _, ⟨_, rfl⟩, q⟩
/-- the sort of a value, as == wants to know it -/
inductive TyE (H : Hp) : V → Value → Prop where
  | non : TyE H .non (.type "NoneType")
  | bl (x : Bool) : TyE H (.bl x) (.type "bool")
  | int (i : Int) : TyE H (.int i) (.type "int")
  | str (x : Str) : TyE H (.str x) (.type "str")
  | lst {a : Addr} {xs : List V} (e : H a = some (.lst xs)) : TyE H (.ref a) (.type "list")
  | tup {a : Addr} {xs : List V} (e : H a = some (.tup xs)) : TyE H (.ref a) (.type "tuple")
  | dK {a : Addr} {kvs : List (Key × V)} (e : H a = some (.dK kvs)) : TyE H (.ref a) (.type "dict")
  | ins {a C dx : Addr} {fs : List (Str × V)} (e : H a = some (.ins C dx fs)) : TyE H (.ref a) (.ref C)
theorem ty_looks {pins : List (Addr × Obj)} {σ : St} {H : Hp} {s : Shared} {y : V} {u tb : Value} (I : Inv X pins σ H s) (r : RelV y u) (ty : TyE H y tb) : PySem.W.Looks (model X.prog X.w) s.heap (typeOf u) tb := by
  have lk : ∀ {a : Addr} {o : Obj} {c : Value}, s.heap.get? a = some o → o.cls = c → PySem.W.Looks (model X.prog X.w) s.heap (typeOf (.ref a)) c := fun {a o c} e h => h ▸ (PySem.W.Looks.ld e).andThen .now
  cases ty with
  | non => cases (show u = Value.none from r); exact PySem.W.Looks.of_pure rfl
  | bl y => cases (show u = Value.bool y from r); exact PySem.W.Looks.of_pure rfl
  | int i => obtain ⟨t, q⟩ := (show ∃ t, u = Value.int i t from r); cases q; exact PySem.W.Looks.of_pure rfl
  | str y => obtain ⟨t, q⟩ := (show ∃ t, u = Value.str y t from r); cases q; exact PySem.W.Looks.of_pure rfl
  | @lst a xs ea =>
    cases (show u = Value.ref a from r)
    obtain ⟨_, _, n, _, h1⟩ := (show ObjOk X.prog X.w H s.heap a (.lst xs) from I.hok a _ ea)
    exact lk h1 rfl
  | @tup a xs ea =>
    cases (show u = Value.ref a from r)
    obtain ⟨_, _, _, o, h1, h2, _⟩ := (show ObjOk X.prog X.w H s.heap a (.tup xs) from I.hok a _ ea)
    exact lk h1 h2
  | @dK a kvs ea =>
    cases (show u = Value.ref a from r)
    obtain ⟨_, _, vs, _, o, es, ep, h1, h2, _⟩ := (show ObjOk X.prog X.w H s.heap a (.dK kvs) from I.hok a _ ea)
    exact lk h1 h2.1
  | @ins a C dx fs ea =>
    cases (show u = Value.ref a from r)
    obtain ⟨mA, J, _⟩ := ins_get I.hok ea
    obtain ⟨od, J, _⟩ := J.look
    exact J.type
/-- o == y -/
def rEqC (K : PySem.W.Frag) (C : Addr) (sp : Sp) (E : XK) : R2 := fun x y H Q => ∃ a dx fs tb, x = .ref a ∧ H a = some (.ins C dx fs) ∧ TyE H y tb ∧ PySem.W.notFirst K C tb = true ∧ sp [.ref a, y] H (fun v H' => ∃ b, v = .bl b ∧ Q (.bl b) H') E
def rNeC (K : PySem.W.Frag) (C : Addr) (sp : Sp) (E : XK) : R2 := fun x y H Q => ∃ a dx fs tb, x = .ref a ∧ H a = some (.ins C dx fs) ∧ TyE H y tb ∧ PySem.W.notFirst K C tb = true ∧ sp [.ref a, y] H (fun v H' => ∃ b, v = .bl b ∧ Q (.bl (!b)) H') E
theorem op_eqC (F : FnOk X.prog X.w X.K X.mg X.base CX k f fd ps sp) (m : Meth X.K C "__eq__" f) (hr : Room k X.A) (hb : Binds X.K fd ps []) (hx : Passes CX X E) : OpR X (compareOp .Eq) (rEqC X.K C sp E) := by
  intro pins s σ H x y v u Q I rx ry hq
  obtain ⟨a, dx, fs, tb, rfl, ha, ty, hn, hsp⟩ := hq
  cases rx
  obtain ⟨mA, J, _⟩ := ins_get I.hok ha
  obtain ⟨od, J, _⟩ := J.look
  obtain ⟨mm, hF⟩ := I.fr
  show wpAny (model X.prog X.w) X.A (richCompare .Eq _ u) (EP X pins σ Q) X.xe s
  refine PySem.W.cmp_K (op := .Eq) (tb := tb) hr.units0 hF I.ok.mod.kin J (ty_looks I ry ty) hn m.at_ m.fn ?_
  refine wpAny_mono (run_at F hr rfl hb hx I (us := [.ref a, u]) (.cons (show RelV (.ref a) (.ref a) from rfl) (.cons ry .nil)) hsp) (fun r s' hq => ?_) fun _ _ x => x
  obtain ⟨z, H', I', rz, b, rfl, q⟩ := hq
  cases rz
  exact ⟨.bl b, H', I', rfl, q⟩
section
open PySem.W
open PyProof.Rows (Fr)
variable {prog : Program} {w : World} {A : Around} {E : Value → Shared → Prop} {s : Shared} {K : Frag} {h₀ : Heap} {L : Addr} {m : Str → Option Value} {x f C : Addr} {ox : Obj} {od : Option Obj} {b tb : Value}
theorem ne_own_K {Q : Value → Shared → Prop} (hu : A.units + 1 < cLine) (F : Fr h₀ L s.heap m) (X₀ : K.In h₀) (I : InstAt s.heap x ox C od) (hb : Looks (model prog w) s.heap (typeOf b) tb) (hn : notFirst K C tb = true)
    (hne : findIn K (.ref C) "__ne__" = some (some (.builtin "object.__ne__"))) (hs : findIn K (.ref C) "__eq__" = some (some (.ref f))) (hf : isFn K (.ref f) = true) (ho : subIn K (.ref C) (.type "object") = some true)
    (h : wpAny (model prog w) A.in1 (call (.ref f) [.ref x, b]) (fun v s' => ∃ r, v = .bool r ∧ Q (.bool (!r)) s') E s) : wpAny (model prog w) A (richCompare .NotEq (.ref x) b) Q E s := by
  have X := X₀.keeps F.keep
  have body : wpAny (model prog w) A.in1 (Builtin.«object.__ne__» ⟨[.ref x, b], []⟩) (GQ.FinOf prog w A (wants (fun v s' => ∃ r, v = .bool r ∧ Q v s') E)) (fun e s' => wants (fun v s' => ∃ r, v = .bool r ∧ Q v s') E (.error e) s') s := by
    unfold Builtin.«object.__ne__»
    repeat (first
      | with_reducible refine wpAny_cRoomFor hu ?_
      | (refine wpAny_bind (m := callSpecialIfBound? (.ref x) (Str.ofString "__eq__") [b]) (ifBound_K X I hs hf (wpAny_mono h (fun r s' hr => by
          obtain ⟨r, rfl, hq⟩ := hr
          repeat (first | exact ⟨_, rfl, hq⟩ | exact wpAny_pure ⟨_, rfl, hq⟩ | (refine wpAny_bind (m := truthy (.bool _)) (wpAny_truthy_bool ?_)) | wp_step)) fun _ _ e => e)))
      | wp_step)
  have bind : bindSpecial (.builtin "object.__ne__") (.ref x) = pure (.builtin "object.__ne__", [.ref x]) := PySem.F.cmp_object.ne.bind (.ref x)
  have one : wpAny (model prog w) A (tryCompare (.ref x) "__ne__" b) (fun r s' => ∃ v, r = some v ∧ Q v s') E s := by
    unfold tryCompare
    refine wpAny_bind ?_
    simp only [callSpecialIfBound?, bindSpecialIfBound?]
    refine wpAny_holding (wpAny_bind (wpAny_bind (wpAny_bind (I.type.here ((looks_findIn X hne).here ?_)))))
    have fin : wpAny (model prog w) A (call (.builtin "object.__ne__") ([.ref x] ++ [b])) (fun v s' => ∃ r, v = .bool r ∧ Q v s') E s :=
      wpAny_call (codeAny_call_builtin PySem.F.cmp_object.ne.plain PySem.F.cmpEntry_ne (check_slot PySem.F.cmpKind_ne PySem.F.cmpSplit_ne (I.type.andThen (looks_subIn X ho)) (PySem.F.cmpArgs_ne _ _) body))
    simp only [bind]
    refine wpAny_bind (wpAny_askSetting (wpAny_ite ?_))
    split
    · refine wpAny_bind (wpAny_pure (wpAny_pure ?_))
      refine wpAny_bind (wpAny_mono fin (fun v s' z => ?_) fun _ _ e => e)
      obtain ⟨r, rfl, q⟩ := z
      refine wpAny_pure ?_
      exact wpAny_pure ⟨_, rfl, q⟩
    · refine wpAny_tryCatch (wpAny_bind (wpAny_pure (wpAny_pure ?_)))
      refine wpAny_bind (wpAny_mono fin (fun v s' z => ?_) fun _ _ e => e)
      obtain ⟨r, rfl, q⟩ := z
      refine wpAny_pure ?_
      exact wpAny_pure ⟨_, rfl, q⟩
  unfold richCompare
  simp only [oneThing_ref]
  refine wpAny_holding (wpAny_bind (wpAny_cRoomFor (Nat.lt_of_succ_lt hu) ?_))
  refine wpAny_bind (I.type.here (wpAny_bind (hb.here ?_)))
  split
  · rename_i q
    have e : subIn K tb (.ref C) = some false := by
      rcases Bool.or_eq_true_iff.mp hn with e | e
      · rw [beq_iff_eq.mp e] at q; simp at q
      · exact beq_iff_eq.mp e
    refine wpAny_bind ((looks_subIn X e).here ?_)
    simp only [Bool.false_eq_true, if_false]
    refine wpAny_bind (wpAny_mono one (fun r s' z => ?_) fun _ _ e => e)
    obtain ⟨v, rfl, hq⟩ := z
    exact wpAny_pure hq
  · refine wpAny_bind (wpAny_pure ?_)
    simp only [Bool.false_eq_true, if_false]
    refine wpAny_bind (wpAny_mono one (fun r s' z => ?_) fun _ _ e => e)
    obtain ⟨v, rfl, hq⟩ := z
    exact wpAny_pure hq
end
section
variable {X : Cx} {CX : CXT} {k : Nat} {f C : Addr} {fd : FuncData} {ps : List Str} {sp : Sp} {E : XK}
theorem op_neC (F : FnOk X.prog X.w X.K X.mg X.base CX k f fd ps sp) (m : Meth X.K C "__eq__" f) (hne : PySem.W.findIn X.K (.ref C) "__ne__" = some (some (.builtin "object.__ne__"))) (ho : PySem.W.subIn X.K (.ref C) (.type "object") = some true) (hr : Room (k + 1) X.A) (hb : Binds X.K fd ps []) (hx : Passes CX X E) : OpR X (compareOp .NotEq) (rNeC X.K C sp E) := by
  intro pins s σ H x y v u Q I rx ry hq
  obtain ⟨a, dx, fs, tb, rfl, ha, ty, hn, hsp⟩ := hq
  cases rx
  obtain ⟨mA, J, _⟩ := ins_get I.hok ha
  obtain ⟨od, J, _⟩ := J.look
  obtain ⟨mm, hF⟩ := I.fr
  show wpAny (model X.prog X.w) X.A (richCompare .NotEq _ u) (EP X pins σ Q) X.xe s
  refine ne_own_K (tb := tb) (by have := hr.un; omega) hF I.ok.mod.kin J (ty_looks I ry ty) hn hne m.at_ m.fn ho ?_
  refine wpAny_mono (run_at F hr.in1 rfl hb hx I (us := [.ref a, u]) (.cons (show RelV (.ref a) (.ref a) from rfl) (.cons ry .nil)) hsp) (fun r s' hq => ?_) fun _ _ x => x
  obtain ⟨z, H', I', rz, b, rfl, q⟩ := hq
  cases rz
  exact ⟨b, rfl, .bl (!b), H', I', rfl, q⟩
end
end
end Ts

set_option maxRecDepth 100000
set_option maxHeartbeats 4000000
namespace Ts
open PySem L2
/-! ### enumerate(tuple) -/
set_option maxHeartbeats 4000000 in
theorem meets_enum_T (t : Addr) (its : Array Value) :
    Meets (Builtin.«enumerate.__new__» ⟨[.type "enumerate", .ref t], []⟩) (fun _ R s => s.heap.IsTuple t its ∧
      R (.ok (.ret (.ref (s.heap.push { cls := .type "tuple_iterator", data := .fields #[.ref t, .int 0 0] }).objs.size)))
        { s with heap := (s.heap.push { cls := .type "tuple_iterator", data := .fields #[.ref t, .int 0 0] }).push { cls := .type "enumerate", data := .fields #[.none, .bool false, .ref s.heap.objs.size, rawInt 0, .none, .none] } }) :=
  .of_wp fun prog w A R s h => by
    obtain ⟨hp, g, d, tk, os⟩ := s
    obtain ⟨hT, h⟩ := h
    have hsub := sub_enumerate
    wp_walk
    refine wpAny_stack_any fun st => wpAny_pure ?_
    split
    · rename_i c _ _ _ _ _
      cases (c == Value.type "enumerate")
      · wp_walk using wpAny_pyIter_tuple hT
        exact ⟨_, rfl, h⟩
      · wp_walk using wpAny_pyIter_tuple hT
        exact ⟨_, rfl, h⟩
    · wp_walk using wpAny_pyIter_tuple hT
      exact ⟨_, rfl, h⟩

section
variable {prog : Program} {w : World} {A : Around} {E : Value → Shared → Prop} {s : Shared}
theorem call_enum_T {t : Addr} {its : Array Value} {Q : Value → Shared → Prop} (hT : s.heap.IsTuple t its)
    (k : ∀ g, IsEnum g (s.heap.objs.size + 1) s.heap.objs.size 0 .none → g.IsTupleIter s.heap.objs.size t 0 → (∀ b o, s.heap.get? b = some o → g.get? b = some o) → Q (.ref (s.heap.objs.size + 1)) { s with heap := g }) :
    wpAny (model prog w) A (call (.type "enumerate") [.ref t]) Q E s := by
  refine callType_new F.called_enumerate (by decide) (F.typeCall_enumerate_1 _) (F.newCall_enumerate_1 _) (fun o => F.args_object_init_2 o _) F.entry_enumerate_new (meets_enum_T t its) ⟨hT, ?_⟩
  have z : (s.heap.push { cls := .type "tuple_iterator", data := .fields #[.ref t, .int 0 0] }).objs.size = s.heap.objs.size + 1 := Heap.size_push ..
  show _ ∧ _
  rw [z]
  have en : IsEnum ((s.heap.push { cls := .type "tuple_iterator", data := .fields #[.ref t, .int 0 0] }).push { cls := .type "enumerate", data := .fields #[.none, .bool false, .ref s.heap.objs.size, rawInt 0, .none, .none] }) (s.heap.objs.size + 1) s.heap.objs.size 0 .none := by
    have q := Heap.get?_push_size (s.heap.push { cls := .type "tuple_iterator", data := .fields #[.ref t, .int 0 0] }) (o := { cls := .type "enumerate", data := .fields #[.none, .bool false, .ref s.heap.objs.size, rawInt 0, .none, .none] }) rfl
    rw [z] at q
    exact q
  exact ⟨⟨_, en, rfl⟩, k _ en ⟨_, Heap.get?_push_of_some _ (Heap.get?_push_size _ rfl), rfl, rfl⟩ fun b o y => Heap.get?_push_of_some _ (Heap.get?_push_of_some _ y)⟩
end
/-- the tuple at a as it stands at each turn, each item in a new pair -/
def IteT (K : PySem.W.Frag) (a : Addr) : It :=
  ⟨fun i H => ∃ (xs : List V) (x : V), SqT K H a xs ∧ xs[i]? = some x, fun i H v H' => ∃ T x, v = .ref T ∧ H T = none ∧ H' = upd H T (.tup [.int (i : Nat), x]) ∧ ∀ xs, SqT K H a xs → xs[i]? = some x, fun i H => ∃ xs : List V, SqT K H a xs ∧ xs.length = i⟩
theorem turn_enumT {P : Program} {w : World} {K : PySem.W.Frag} {elts : List Expr} {kk : Nat} {tpos : Pos} (a e it : Addr) :
    Turn P w K (.Tuple elts kk tpos) (IteT K a) [e, it] e (fun i h => (∃ old, IsEnum h e it ((i : Nat) : Int) old) ∧ h.IsTupleIter it a i ∧ e ≠ it ∧ a ≠ it ∧ e ≠ a) where
  mem := by simp
  obj := fun i h st b hb => by
    obtain ⟨⟨old, en⟩, ⟨o, ho, hc, hd⟩, _⟩ := st
    rcases (show b = e ∨ b = it by simpa using hb) with z | z
    · rw [z]; exact ⟨_, en, fun v q => nomatch q⟩
    · rw [z]; exact ⟨o, ho, fun v q => by rw [hd] at q; cases q⟩
  keep := fun i h h' st k => let ⟨⟨old, en⟩, hi, r⟩ := st; ⟨⟨old, k e (by simp) _ en⟩, hi.at fun o y => k it (by simp) o y, r⟩
  item := by
    intro X hP hw hK hc i pins s σ H E I hf st hg
    subst hP hw hK
    obtain ⟨⟨old, en⟩, hit, hne, hai, hea⟩ := st
    obtain ⟨xs, x, hq, hx⟩ := hg
    obtain ⟨its, rv, p, hz⟩ := I.tuple hq
    obtain ⟨u, hu, ru⟩ := rv.get hx
    have pT : s.heap.IsTuple a its.toArray := p
    have hil : i < its.toArray.size := by
      have q := (List.getElem?_eq_some_iff.mp hu).1
      simpa using q
    have l1 : e < s.heap.objs.size := Heap.lt_size en
    have l2 : it < s.heap.objs.size := by obtain ⟨_, q, _⟩ := hit; exact Heap.lt_size q
    have hh1 : X.A.in1.handled = none := I.ok.hd hc
    refine wpAny_pyNext_enum_itemD (Draws.tuple hh1 it a hai its.toArray) en ⟨hit, pT⟩ hil hne (by simp [hne, hea]) fun x' g tk hx' ho st' hT hsz hk => ?_
    have ex : x' = u := by
      have q : its.toArray[i]? = some u := by simpa using hu
      rw [q] at hx'
      exact (Option.some.inj hx').symm
    subst ex
    refine ⟨_, rfl, wpAny_letOwnedTupleGo_enum (s := { s with heap := g, toks := tk + 1 }) ho fun g2 he' sb => ?_⟩
    have hT2 : g2.get? s.heap.objs.size = some { cls := .type "tuple", data := .seq #[.int i tk, x'] } := (sb.2 _ (Nat.ne_of_gt l1)).trans hT
    have new : ObjOk X.prog X.w (upd H s.heap.objs.size (.tup [.int (i : Nat), x])) g2 s.heap.objs.size (.tup [.int (i : Nat), x]) :=
      ⟨by show 2 ≤ sizeLine; decide, [.int i tk, x'], .cons ⟨_, rfl⟩ (.cons ru .nil), ⟨_, hT2, rfl, _, rfl⟩⟩
    have I1 : Inv X pins σ (upd H s.heap.objs.size (.tup [.int (i : Nat), x])) { s with heap := g2, toks := tk + 1 } :=
      I.turnedNew (ch := [e, it]) (fun b o hb y => (sb.2 b (fun z => hb (by simp [z]))).trans (hk b o (fun z => hb (by simp [z])) (fun z => hb (by simp [z])) y)) hf (Nat.le_refl _) new
    refine ⟨.ref s.heap.objs.size, _, I1, rfl, ⟨_, x, rfl, I.hok.fresh (Nat.le_refl _), rfl, fun ys hy => by rw [I.tuple_inj hy hq]; exact hx⟩, ⟨⟨x', ?_⟩, st'.1.at fun o y => (sb.2 it (Ne.symm hne)).trans y, hne, hai, hea⟩, fun b hb => ?_⟩
    · rw [show ((i + 1 : Nat) : Int) = (i : Int) + 1 by omega]
      exact he'
    · have lb : b < s.heap.objs.size := by
        rcases (show b = e ∨ b = it by simpa using hb) with z | z
        · rw [z]; exact l1
        · rw [z]; exact l2
      rw [upd_ne (Nat.ne_of_lt lb)]
      exact (hf b hb).1
  done := by
    intro X hP hw hK hc i pins s σ H E I hf st hg
    subst hP hw hK
    obtain ⟨⟨old, en⟩, hit, hne, hai, hea⟩ := st
    obtain ⟨xs, hq, hx⟩ := hg
    obtain ⟨its, rv, p, hz⟩ := I.tuple hq
    have pT : s.heap.IsTuple a its.toArray := p
    have hh1 : X.A.in1.handled = none := I.ok.hd hc
    have ei : its.toArray.size = i := by rw [← hx, rv.length]; simp
    obtain ⟨f0, f1, f2, f3, f4, f5⟩ := hf it (by simp)
    refine wpAny_pyNext_enum_endD (Draws.tuple hh1 it a hai its.toArray) en (by rw [ei]; exact ⟨hit, pT⟩) fun g eb => ⟨rfl, I.turned (t' := s.toks) (fun b o hb y => eb b o hb y) f0 f1 f3 f4 f5⟩
  self := fun A i s Q E st h => let ⟨⟨_, en⟩, _⟩ := st; wpAny_pyIter_enum en h
def iEnumT (K : PySem.W.Frag) (ta : TA) : TI := fun σ H R => ta σ H fun vs H1 => ∃ a xs, vs = [.ref a] ∧ SqT K H1 a xs ∧ R (IteT K a) H1
theorem pi_enumT {X : Cx} {e : Expr} {ta : TA} {p pos tpos : Pos} {elts : List Expr} {kk : Nat} (hg : Gl X "enumerate") (hm : X.mg "enumerate" = none) (ha : PA X [e] ta) (hs : starEach [e] X.env = [(false, eval e X.env)] := by rfl) :
    PI X (.Tuple elts kk tpos) (.Call (.Name "enumerate" p) [e] [] pos) (iEnumT X.K ta) := by
  refine ⟨fun pins s σ H R I h => ?_⟩
  refine wpAny_Call_Name_kw (ld_blt I hg hm PyProof.Rows.boot_enumerate (PyProof.Rows.callWith_type1 (thn (ha.run pos pins s σ H _ I h) fun us s1 z => ?_) hs rfl))
  obtain ⟨vs, H1, I1, r1, a, xs, ex, hq, q⟩ := z
  subst ex
  obtain ⟨u, rfl, ru⟩ := vals1 r1
  cases ru
  obtain ⟨its, rv, p', hz⟩ := I1.tuple hq
  have pT : s1.heap.IsTuple a its.toArray := p'
  obtain ⟨oa, hoa, _⟩ := id pT
  have la : a < s1.heap.objs.size := Heap.lt_size hoa
  refine call_enum_T pT fun g en hit hk => wpAny_pyIter_enum en ?_
  have I2 : Inv X pins σ H1 { s1 with heap := g } := I1.kept (t' := s1.toks) hk
  refine ⟨s1.heap.objs.size + 1, [s1.heap.objs.size + 1, s1.heap.objs.size], _, _, H1, rfl, I2, turn_enumT a (s1.heap.objs.size + 1) s1.heap.objs.size, ⟨⟨.none, en⟩, hit, Nat.succ_ne_self _, Nat.ne_of_lt la, Nat.ne_of_gt (Nat.lt_succ_of_lt la)⟩, fun b hb => ?_, q⟩
  have ge : s1.heap.objs.size ≤ b := by
    rcases (show b = s1.heap.objs.size + 1 ∨ b = s1.heap.objs.size by simpa using hb) with z | z
    · rw [z]; exact Nat.le_add_right _ _
    · rw [z]; exact Nat.le_refl _
  exact I1.fpOk ge (I1.hok.fresh ge)
theorem walk_enumT {K : PySem.W.Frag} {a : Addr} {xs : List V} : Walk (IteT K a) xs.length (fun H => SqT K H a xs) (YPair (fun i => some (.int (i : Nat))) (fun i => xs[i]?)) := by
  refine ⟨fun i _ hi q => ⟨xs, xs[i], q, by simp [hi]⟩, fun _ q => ⟨xs, q, rfl⟩, fun i H v H' _ q y => ?_⟩
  obtain ⟨T, x, y1, y2, y3, y4⟩ := y
  exact ⟨T, .int (i : Nat), x, y1, y2, y3, rfl, y4 xs q⟩
/-! ### one rule or another -/
section
variable {X : Cx} {e : Expr}
theorem pe_or' {t u : TE} (a : PE X e t) (b : PE X e u) : PE X e (fun σ H Q => t σ H Q ∨ u σ H Q) := ⟨fun pins s σ H Q I h => h.elim (a.run pins s σ H Q I) (b.run pins s σ H Q I)⟩
theorem pg_or {t u : TG} (a : PG X e t) (b : PG X e u) : PG X e (fun v σ H Q => t v σ H Q ∨ u v σ H Q) := ⟨fun pins s σ H v w Q I r h => h.elim (a.run pins s σ H v w Q I r) (b.run pins s σ H v w Q I r)⟩
theorem pi_or {tg : Expr} {t u : TI} (a : PI X tg e t) (b : PI X tg e u) : PI X tg e (fun σ H R => t σ H R ∨ u σ H R) := ⟨fun pins s σ H R I h => h.elim (a.run pins s σ H R I) (b.run pins s σ H R I)⟩
theorem op_or' {f : Value → Value → Sem Value} {r q : R2} (a : OpR X f r) (b : OpR X f q) : OpR X f (fun x y H Q => r x y H Q ∨ q x y H Q) := fun pins s σ H x y v u Q I rx ry h => h.elim (a pins s σ H x y v u Q I rx ry) (b pins s σ H x y v u Q I rx ry)
theorem ps_or {st : Stmt} {t u : TS} (a : PS X st t) (b : PS X st u) : PS X st (fun D σ H => t D σ H ∨ u D σ H) := ⟨fun pins s σ H D I h => h.elim (a.run pins s σ H D I) (b.run pins s σ H D I)⟩
theorem call_or {f : Value} {r q : List V → Hp → VK → Prop} (a : CallR X f r) (b : CallR X f q) : CallR X f (fun xs H Q => r xs H Q ∨ q xs H Q) := fun pins s σ H xs us Q I rv h => h.elim (a pins s σ H xs us Q I rv) (b pins s σ H xs us Q I rv)
end
end Ts

set_option maxRecDepth 100000
set_option maxHeartbeats 4000000
namespace Ts
open PySem L2
section
variable {X : Cx}
/-- a local takes a dict comprehension on one line -/
theorem ps_setDc {i : Nat} {y : Str} {py : Pos} {kx vx tg iter : Expr} {ifs : List Expr} {scope : Scope} {own : List (Str × Nat)} {pos spos : Pos} {wi : TI} {g : TG} {tt : TT} {tk tv : TE} (hc : X.calm = true) (hN : X.N.Nodup) (hy : X.N[i]? = some y) (hyl : X.env.scope.names.lookup y = some .local)
    (hsw : swapsWith (.DictComp kx vx [⟨tg, iter, ifs, 0⟩] scope pos) (some (.Name y py)) spos.line X.env = pure true) (hi : PI X tg iter wi) (ok : BlkOk X.N X.env.scope scope own)
    (hg : ∀ (s : Shared) (H : Hp) (C : Addr) (cl : List (Str × Addr)) (fp : List Addr), PG (X.blk s H scope (compEnvC scope cl C X.env) fp) tg g) (ht : ∀ (s : Shared) (H : Hp) (C : Addr) (cl : List (Str × Addr)) (fp : List Addr), PTs (X.blk s H scope (compEnvC scope cl C X.env) fp) ifs tt)
    (hk : ∀ (s : Shared) (H : Hp) (C : Addr) (cl : List (Str × Addr)) (fp : List Addr), PE (X.blk s H scope (compEnvC scope cl C X.env) fp) kx tk)
    (he : ∀ (s : Shared) (H : Hp) (C : Addr) (cl : List (Str × Addr)) (fp : List Addr), PE (X.blk s H scope (compEnvC scope cl C X.env) fp) vx tv) (hs : ∀ x, foldedSetIterable iter X.env x = pure x := by intro _; rfl) :
    PS X (.Assign [.Name y py] (.DictComp kx vx [⟨tg, iter, ifs, 0⟩] scope pos) spos) (tAsg (tDc wi g tt tk tv (own.map (·.2))) (gName i)) := by
  refine ⟨fun pins s σ H D I h => ?_⟩
  rw [exec_Assign_Name_used _ _ _ _ hsw]
  refine wpAny_bind (wpAny_standAt (wpAny_bind ?_))
  show wpAny _ X.A (do let _ ← comprehension (.DictComp kx vx [⟨tg, iter, ifs, 0⟩] scope pos) scope X.env (firstIterPos [⟨tg, iter, ifs, 0⟩] pos) newDict false (eval iter X.env) (some (assign (.Name y py) X.env))) _ _ s
  have h' : tDc wi g tt tk tv (own.map (·.2)) σ H (fun x H1 => gName i x σ H1 D.nx) := h
  refine wpAny_bind (thn (dc_core (Qf := fun _ s' => SP X pins D .next s') hc hN I hi ok hg ht hk he hs h' fun L C s' m H' I' q hn f => ?_) fun _ s' z => wpAny_pure (wpAny_pure z))
  show wpAny _ _ (assign (.Name y py) X.env (.ref L)) _ _ _
  refine wpAny_assign_Name (store_ok2 (v := V.ref L) I' hN hy (.inl hyl) rfl (fun s2 I2 ⟨a, sb, za⟩ => ?_) (.inr hyl))
  obtain ⟨f0, f1, f2, f3, f4, f5⟩ := f
  have ca : C ≠ a := by
    rcases za with z | z
    · rw [z]; exact f1
    · exact fun e => f4 y a z e.symm
  refine ⟨m, hn.sameBut sb ca, fun h3 sb3 => ?_⟩
  exact ⟨_, H', I2.turned (t' := s2.toks) (fun b o hb e => (sb3.2 b hb).trans e) f0 f1 f3 f4 f5, q⟩
theorem swd_true {kx vx : Expr} {gs : List Comprehension} {scope : Scope} {pos py : Pos} {y : Str} {l : Nat} {env : Env} (hk : env.scope.kind = .function) (hy : env.scope.names.lookup y = some .local) (hl : (py.line == pos.line) = true)
    (ha : (scope.names.any fun (n, k) => n == y && (k == .local || k == .cell)) = false) : swapsWith (.DictComp kx vx gs scope pos) (some (.Name y py)) l env = pure true := by
  have k1 : env.kindOf y = some .local := hy
  have k2 : env.blockKind = .function := by unfold Env.blockKind; rw [hk]; rfl
  unfold swapsWith
  simp only [k1, k2, ha, Expr.pos, hl]
  rfl
/-- a dict comprehension over what walks -/
theorem dc_it {J : It} {n : Nat} {G : Hp → Prop} {Y : Nat → Hp → V → Hp → Prop} (w : Walk J n G Y) {g : TG} {tt : TT} {tk tv : TE} {vs : List Nat} {σ : St} {H1 : Hp} {D : Addr} {Qd : Hp → Prop} (Pv : Nat → Hp → Prop) (h0 : Pv 0 (upd H1 D (.dK []))) (hG : ∀ i H, i ≤ n → Pv i H → G H)
    (hs : ∀ i x H H', i < n → Pv i H → Y i H x H' → g x (wipe σ vs) H' fun σ2 H2 => wipe σ2 vs = wipe σ vs ∧ tt σ2 H2 fun b H3 =>
      if b = true then tk σ2 H3 fun y H4 => tv σ2 H4 fun z H5 => ∃ kvs k, y = kV k ∧ H5 D = some (.dK kvs) ∧ kvs.length < sizeLine ∧ Pv (i + 1) (upd H5 D (.dK (putK kvs k z))) else Pv (i + 1) H3) (hd : ∀ H, Pv n H → Qd H) :
    ∃ W : Nat → Nat → Hp → Prop, (∃ m, W 0 m (upd H1 D (.dK []))) ∧ ∀ i m H, W i m H →
      (J.stop i H ∧ Qd H) ∨ (J.go i H ∧ ∃ Nx : Hp → Prop, (∀ H', Nx H' → ∃ m', m' < m ∧ W (i + 1) m' H') ∧ ∀ x H', J.yld i H x H' → g x (wipe σ vs) H' fun σ2 H2 => wipe σ2 vs = wipe σ vs ∧ tt σ2 H2 fun b H3 =>
        if b = true then tk σ2 H3 fun y H4 => tv σ2 H4 fun z H5 => ∃ kvs k, y = kV k ∧ H5 D = some (.dK kvs) ∧ kvs.length < sizeLine ∧ Nx (upd H5 D (.dK (putK kvs k z))) else Nx H3) := by
  refine ⟨fun i m H => m = n - i ∧ i ≤ n ∧ Pv i H, ⟨n, by simp, Nat.zero_le _, h0⟩, ?_⟩
  rintro i m H ⟨rfl, le, p⟩
  have q := hG i H le p
  by_cases lt : i < n
  · exact .inr ⟨w.goes i H lt q, Pv (i + 1), fun H' p' => ⟨n - (i + 1), by omega, rfl, lt, p'⟩, fun x H' y => hs i x H H' lt p (w.yields i H x H' lt q y)⟩
  · obtain rfl : i = n := by omega
    exact .inl ⟨w.stops H q, hd H p⟩
end
end Ts

set_option maxRecDepth 100000
set_option maxHeartbeats 4000000
namespace Ts
open PySem L2
/-! ### == and != of dicts of one and the same keys, with flat values -/
def kvX (f : Str → V) (l : List Str) : List (Key × V) := l.map fun z => ((.inr z : Key), f z)
theorem valV_kvX (f : Str → V) {z : Str} : ∀ {l : List Str}, z ∈ l → valV (kvX f l) (.inr z : Key) = some (f z)
  | x :: l, hz => by
    show ((((((.inr x : Key), f x) :: kvX f l).find? fun kv => decide (kv.1 = (.inr z : Key))).map (·.2)) : Option V) = some (f z)
    by_cases e : x = z
    · subst e
      rw [List.find?_cons_of_pos (by simp)]; rfl
    · rw [List.find?_cons_of_neg (by simpa using e)]
      exact valV_kvX f ((List.mem_cons.mp hz).resolve_left fun q => e q.symm)
def allE (f g : Str → V) (l : List Str) : Bool := l.all fun z => eqV (f z) (g z)
theorem hitsX {A : Around} {s : Shared} {f g : Str → V} {L : List Str} {vb : List (Key × Value)} (rb : KV (kvX g L) vb) : ∀ {l : List Str} {va : List (Key × Value)}, KV (kvX f l) va → (∀ z ∈ l, z ∈ L ∧ flatV (f z) = true ∧ flatV (g z) = true) → PySem.W.KeqHits A s vb va (allE f g l)
  | [], va, ra, _ => by
    unfold KV kvX at ra
    cases ra
    exact .nil
  | z :: l, va, ra, h => by
    have ra' : Paired _ (((.inr z : Key), f z) :: kvX f l) va := ra
    cases ra' with
    | cons h1 t =>
      rename_i q qs
      obtain ⟨e1, e2⟩ := h1
      obtain ⟨hz, f1, f2⟩ := h z (List.mem_cons_self ..)
      have rr : RelO (some (g z)) (valueAt vb (.inr z : Key)) := by rw [← valV_kvX g hz]; exact rb.val _
      obtain ⟨y, hy, ry⟩ := rr.some_of
      obtain ⟨key, v⟩ := q
      have e1' : (Sum.inr z : Key) = key := e1
      rw [e1'] at hy
      exact .hit hy (eqAt_V e2 ry f1 f2) (hitsX rb t fun x hx => h x (List.mem_cons_of_mem _ hx))
section
variable {X : Cx}
def rEqX : R2 := fun x y H Q => ∃ (a b : Addr) (f g : Str → V) (l : List Str), x = .ref a ∧ y = .ref b ∧ H a = some (.dK (kvX f l)) ∧ H b = some (.dK (kvX g l)) ∧ (∀ z ∈ l, flatV (f z) = true ∧ flatV (g z) = true) ∧ Q (.bl (allE f g l)) H
def rNeX : R2 := fun x y H Q => ∃ (a b : Addr) (f g : Str → V) (l : List Str), x = .ref a ∧ y = .ref b ∧ H a = some (.dK (kvX f l)) ∧ H b = some (.dK (kvX g l)) ∧ (∀ z ∈ l, flatV (f z) = true ∧ flatV (g z) = true) ∧ Q (.bl (!allE f g l)) H
theorem op_eqX (hu : X.A.units < cLine) : OpR X (compareOp .Eq) rEqX := by
  intro pins s σ H x y v u Q I rx ry h
  obtain ⟨a, b, f, g, l, rfl, rfl, ea, eb, hf, q⟩ := h
  obtain rfl : v = Value.ref a := rx
  obtain rfl : u = Value.ref b := ry
  obtain ⟨_, ya, va, ra, da⟩ := (show ObjOk X.prog X.w H s.heap a (.dK (kvX f l)) from I.hok a _ ea)
  obtain ⟨_, yb, vb, rb, db⟩ := (show ObjOk X.prog X.w H s.heap b (.dK (kvX g l)) from I.hok b _ eb)
  have hl : va.length = vb.length := by rw [← ra.length, ← rb.length]; unfold kvX; rw [List.length_map, List.length_map]
  refine PySem.W.keq_eq (knd := mixKind X.prog X.w) (r := allE f g l) ya yb da db hu (fun _ => hitsX rb ra fun z hz => ⟨hz, hf z hz⟩) ?_
  rw [show (va.length == vb.length && allE f g l) = allE f g l from by rw [hl]; simp]
  exact ⟨.bl _, H, I, rfl, q⟩
theorem op_neX (hu : X.A.units < cLine) : OpR X (compareOp .NotEq) rNeX := by
  intro pins s σ H x y v u Q I rx ry h
  obtain ⟨a, b, f, g, l, rfl, rfl, ea, eb, hf, q⟩ := h
  obtain rfl : v = Value.ref a := rx
  obtain rfl : u = Value.ref b := ry
  obtain ⟨_, ya, va, ra, da⟩ := (show ObjOk X.prog X.w H s.heap a (.dK (kvX f l)) from I.hok a _ ea)
  obtain ⟨_, yb, vb, rb, db⟩ := (show ObjOk X.prog X.w H s.heap b (.dK (kvX g l)) from I.hok b _ eb)
  have hl : va.length = vb.length := by rw [← ra.length, ← rb.length]; unfold kvX; rw [List.length_map, List.length_map]
  refine PySem.W.keq_ne (knd := mixKind X.prog X.w) (r := allE f g l) ya yb da db hu (fun _ => hitsX rb ra fun z hz => ⟨hz, hf z hz⟩) ?_
  rw [show (va.length == vb.length && allE f g l) = allE f g l from by rw [hl]; simp]
  exact ⟨.bl _, H, I, rfl, q⟩
theorem hitsP {P : Program} {w : World} {A : Around} {s : Shared} {vb : List (Key × Value)} : ∀ {va : List (Key × Value)} {r : Bool}, PySem.W.KeqHits A s vb va r → PySem.W.KeqHitsP P w A s vb va r := fun h => by
  induction h with
  | nil => exact .nil
  | miss h => exact .miss h
  | hit h e _ k => exact .hit h e.eqP k
theorem eqP_dicts {pins : List (Addr × Obj)} {σ : St} {H : Hp} {s : Shared} (I : Inv X pins σ H s) {A : Around} (hu : A.units < cLine) {a b : Addr} {f g : Str → V} {l : List Str} (ea : H a = some (.dK (kvX f l))) (eb : H b = some (.dK (kvX g l))) (hf : ∀ z ∈ l, flatV (f z) = true ∧ flatV (g z) = true)
    (same : a = b → allE f g l = true) : SeqAt.EqP X.prog X.w A s (.ref a) (.ref b) (allE f g l) := by
  by_cases e : a = b
  · rw [same e]
    subst e
    exact (SeqAt.EqAt.same _).eqP
  · refine SeqAt.eqP_refs e fun E Q q => ?_
    obtain ⟨_, ya, va, ra, da⟩ := (show ObjOk X.prog X.w H s.heap a (.dK (kvX f l)) from I.hok a _ ea)
    obtain ⟨_, yb, vb, rb, db⟩ := (show ObjOk X.prog X.w H s.heap b (.dK (kvX g l)) from I.hok b _ eb)
    have hl : va.length = vb.length := by rw [← ra.length, ← rb.length]; unfold kvX; rw [List.length_map, List.length_map]
    refine PySem.W.rcP_dicts (knd := mixKind X.prog X.w) (r := allE f g l) ya yb da db hu (fun _ => hitsP (hitsX rb ra fun z hz => ⟨hz, hf z hz⟩)) E Q ?_
    rw [show (va.length == vb.length && allE f g l) = allE f g l from by rw [hl]; simp]
    exact q
/-- two lists of two such dicts each -/
def rEq2X : R2 := fun x y H Q => ∃ (a b d1 d2 e1 e2 : Addr) (f1 f2 g1 g2 : Str → V) (l : List Str), x = .ref a ∧ y = .ref b ∧ H a = some (.lst [.ref d1, .ref d2]) ∧ H b = some (.lst [.ref e1, .ref e2]) ∧ H d1 = some (.dK (kvX f1 l)) ∧ H d2 = some (.dK (kvX f2 l)) ∧ H e1 = some (.dK (kvX g1 l)) ∧ H e2 = some (.dK (kvX g2 l)) ∧
  (∀ z ∈ l, flatV (f1 z) = true ∧ flatV (g1 z) = true) ∧ (∀ z ∈ l, flatV (f2 z) = true ∧ flatV (g2 z) = true) ∧ d1 ≠ e1 ∧ d2 ≠ e2 ∧ Q (.bl (allE f1 g1 l && allE f2 g2 l)) H
theorem op_eq2X (hu : X.A.units + 64 < cLine) : OpR X (compareOp .Eq) rEq2X := by
  intro pins s σ H x y v u Q I rx ry h
  obtain ⟨a, b, d1, d2, e1, e2, f1, f2, g1, g2, l, rfl, rfl, ha, hb, hd1, hd2, he1, he2, hf1, hf2, n1, n2, q⟩ := h
  obtain rfl : v = Value.ref a := rx
  obtain rfl : u = Value.ref b := ry
  obtain ⟨us, r1, p1, _⟩ := I.list (show SqL X.K H a _ from SqL.of ha)
  obtain ⟨ws, r2, p2, _⟩ := I.list (show SqL X.K H b _ from SqL.of hb)
  have hin : X.A.in1.units < cLine := by show X.A.units + 1 < cLine; omega
  obtain rfl : us = [.ref d1, .ref d2] := by
    cases r1 with
    | cons x1 t => cases t with
      | cons x2 t => cases t; cases x1; cases x2; rfl
  obtain rfl : ws = [.ref e1, .ref e2] := by
    cases r2 with
    | cons x1 t => cases t with
      | cons x2 t => cases t; cases x1; cases x2; rfl
  refine SeqAt.rcP_lists (e := fun j => if j = 0 then allE f1 g1 l else allE f2 g2 l) p1.isList p2.isList rfl (by omega) (fun j h1 h2 => ?_) _ _ ?_
  · match j, h1 with
    | 0, _ => exact eqP_dicts I hin hd1 he1 hf1 fun e => absurd e n1
    | 1, _ => exact eqP_dicts I hin hd2 he2 hf2 fun e => absurd e n2
  · refine ⟨.bl _, H, I, rfl, ?_⟩
    have e : ((List.range #[Value.ref d1, Value.ref d2].size).all fun j => if j = 0 then allE f1 g1 l else allE f2 g2 l) = (allE f1 g1 l && allE f2 g2 l) := by
      show ((List.range 2).all fun j => if j = 0 then allE f1 g1 l else allE f2 g2 l) = _
      simp [List.range, List.range.loop]
    show Q (.bl ((List.range #[Value.ref d1, Value.ref d2].size).all fun j => if j = 0 then allE f1 g1 l else allE f2 g2 l)) H
    rw [e]
    exact q
theorem pt_weak {e : Expr} {t : TT} (h : PT X e t) : PT X e (fun σ H Q => ∃ R : Bool → Hp → Prop, t σ H R ∧ ∀ b H', R b H' → Q b H') := ⟨fun pins s σ H Q I ⟨R, h1, h2⟩ => thn (h.run pins s σ H R I h1) fun u s1 ⟨H1, I1, q⟩ => ⟨H1, I1, h2 _ _ q⟩⟩
theorem pe_weak {e : Expr} {te : TE} (h : PE X e te) : PE X e (fun σ H Q => ∃ R : VK, te σ H R ∧ ∀ v H', R v H' → Q v H') := ⟨fun pins s σ H Q I ⟨R, h1, h2⟩ => thn (h.run pins s σ H R I h1) fun u s1 ⟨x, H1, I1, rx, q⟩ => ⟨x, H1, I1, rx, h2 _ _ q⟩⟩
end
end Ts

set_option maxRecDepth 100000
namespace Ts
open PySem L2
def top (i : Nat) : Stmt := PySem.Challenge.pw_turnsets_k21_calls_by_names.main.body.getD i (.Pass ⟨0, 0, 0, 0⟩)
abbrev s__wall : Stmt := top 0
abbrev s_BadRow_init : Stmt := inClass (top 3) 0
abbrev s_NoBox_init : Stmt := inClass (top 4) 0
abbrev s_BadMove_init : Stmt := inClass (top 5) 0
abbrev s_NotShut_init : Stmt := inClass (top 6) 0
abbrev s_Locked_init : Stmt := inClass (top 8) 0
abbrev s_BadDeed_init : Stmt := inClass (top 11) 0
abbrev s_Clash_init : Stmt := inClass (top 12) 0
abbrev s_BadRule_init : Stmt := inClass (top 13) 0
abbrev s_is_name : Stmt := top 20
abbrev s_is_number : Stmt := top 21
abbrev s_is_price : Stmt := top 22
abbrev s_is_row : Stmt := top 23
abbrev s_check_rows : Stmt := top 24
abbrev s_check_box : Stmt := top 25
abbrev s_is_place : Stmt := top 26
abbrev s_check_place : Stmt := top 27
abbrev s_Tree_init : Stmt := inClass (top 28) 0
abbrev s_Tree_eq : Stmt := inClass (top 28) 1
abbrev s_Tree_len : Stmt := inClass (top 28) 2
abbrev s_Tree_contains : Stmt := inClass (top 28) 3
abbrev s_Tree_rows : Stmt := inClass (top 28) 4
abbrev s_Tree_folder : Stmt := inClass (top 28) 5
abbrev s_Tree_kind : Stmt := inClass (top 28) 6
abbrev s_Tree_price : Stmt := inClass (top 28) 7
abbrev s_Tree_inside : Stmt := inClass (top 28) 8
abbrev s_Tree_below : Stmt := inClass (top 28) 9
abbrev s_Tree_way : Stmt := inClass (top 28) 10
abbrev s_Tree_steps : Stmt := inClass (top 28) 11
abbrev s_Tree_more : Stmt := inClass (top 28) 12
abbrev s_Tree_less : Stmt := inClass (top 28) 13
abbrev s_Tree_moved : Stmt := inClass (top 28) 14
abbrev s_Tree_opened : Stmt := inClass (top 28) 15
abbrev s_check_turns : Stmt := top 30
abbrev s_check_trees : Stmt := top 31
abbrev s_values_of : Stmt := top 32
abbrev s_with_values : Stmt := top 33
abbrev s_Meaning_init : Stmt := inClass (top 34) 0
abbrev s_Meaning_eq : Stmt := inClass (top 34) 1
abbrev s_Meaning_len : Stmt := inClass (top 34) 2
abbrev s_Meaning_iter : Stmt := inClass (top 34) 3
abbrev s_Meaning_contains : Stmt := inClass (top 34) 4
abbrev s_Meaning_xor : Stmt := inClass (top 34) 5
abbrev s_Meaning_and : Stmt := inClass (top 34) 6
abbrev s_Meaning_or : Stmt := inClass (top 34) 7
abbrev s_Meaning_sub : Stmt := inClass (top 34) 8
abbrev s_Meaning_invert : Stmt := inClass (top 34) 9
abbrev s_Meaning_value : Stmt := inClass (top 34) 10
abbrev s_Meaning_states : Stmt := inClass (top 34) 11
abbrev s_Meaning_price : Stmt := inClass (top 34) 12
abbrev s_parting : Stmt := top 35
abbrev s_middle : Stmt := top 36
abbrev s_check_unlocked : Stmt := top 45
abbrev s_is_deed : Stmt := top 46
abbrev s_check_deeds : Stmt := top 47
abbrev s_effects_of : Stmt := top 48
abbrev s_effect_around : Stmt := top 49
abbrev s_entries_of : Stmt := top 50
abbrev s_row_of : Stmt := top 51
abbrev s_value_behind : Stmt := top 52
abbrev s_Row_init : Stmt := inClass (top 53) 0
abbrev s_Row_eq : Stmt := inClass (top 53) 1
abbrev s_Row_len : Stmt := inClass (top 53) 2
abbrev s_Row_add : Stmt := inClass (top 53) 3
abbrev s_Row_call : Stmt := inClass (top 53) 4
abbrev s_Row_deeds : Stmt := inClass (top 53) 5
abbrev s_Row_maps : Stmt := inClass (top 53) 6
abbrev s_Row_entries : Stmt := inClass (top 53) 7
abbrev s_Row_least : Stmt := inClass (top 53) 8
abbrev s_Row_undo : Stmt := inClass (top 53) 9
abbrev s_idle : Stmt := top 54
abbrev s_clash : Stmt := top 55
abbrev s_unlike : Stmt := top 56
abbrev s_entry_counts : Stmt := top 57
abbrev s_fewest_effects : Stmt := top 58
abbrev s_fewest_deeds : Stmt := top 59
abbrev s_told_values : Stmt := top 60
abbrev s_join : Stmt := top 61
abbrev s_check_rule : Stmt := top 66
abbrev s_turns_behind : Stmt := top 67
abbrev s_moved : Stmt := top 68
abbrev s_back : Stmt := top 69
abbrev s_goals : Stmt := top 70
abbrev s_unlike_moves : Stmt := top 71
abbrev s_L_stream : Stmt := top 73
abbrev s_L_draw : Stmt := top 74
abbrev s_L_written : Stmt := top 75
abbrev s_L_trees : Stmt := top 76
abbrev s_L_meanings : Stmt := top 77
abbrev s_L_by_names : Stmt := top 78
abbrev s_law : Stmt := top 79
end Ts

set_option maxRecDepth 100000
set_option maxHeartbeats 4000000
namespace Ts
open PySem L2
/-! ### how a def stands -/
structure DefAt (K : PySem.W.Frag) (mg : Str → Option Value) (x : Str) (st : Stmt) (ps : List Str) where
  f : Addr
  fd : FuncData
  F : Fun K x x st f fd
  b : Binds K fd ps []
  g : mg x = some (.ref f)
structure MethAt (K : PySem.W.Frag) (C : Addr) (x q : Str) (st : Stmt) (ps : List Str) where
  f : Addr
  fd : FuncData
  F : Fun K x q st f fd
  b : Binds K fd ps []
  m : Meth K C x f
structure TxB (mg : Str → Option Value) : Prop where
  len : mg "len" = none
  abs : mg "abs" = none
  int : mg "int" = none
  str : mg "str" = none
  bool : mg "bool" = none
  list : mg "list" = none
  tuple : mg "tuple" = none
  dict : mg "dict" = none
  range : mg "range" = none
  enumerate : mg "enumerate" = none
  isinstance : mg "isinstance" = none
  all : mg "all" = none
theorem lk {l : List (Option V)} {i : Nat} {v : V} (h : l[i]? = some (some v)) : l[i]? = some (some v) := h
/-! ### the draws -/
/-- all but a is kept -/
def SB (a : Addr) (H H' : Hp) : Prop := ∀ b o, b ≠ a → H b = some o → H' b = some o
theorem SB.refl (a : Addr) (H : Hp) : SB a H H := fun _ _ _ h => h
theorem SB.trans {a : Addr} {H H1 H2 : Hp} (x : SB a H H1) (y : SB a H1 H2) : SB a H H2 := fun b o n h => y b o n (x b o n h)
theorem SB.of {a : Addr} {H H' : Hp} (x : Same H H') : SB a H H' := fun b o _ h => x b o h
theorem Same.new {H : Hp} {p : Addr} {o : HO} (h : H p = none) : Same H (upd H p o) := fun b u e => by rw [upd_ne (ne_of_none e h)]; exact e
theorem SB.upd {a p : Addr} {H : Hp} {o : HO} (h : H p = none) : SB a H (L2.upd H p o) := SB.of (Same.new h)
theorem SB.seqL {K : PySem.W.Frag} {a l : Addr} {H H' : Hp} {xs : List V} (x : SB a H H') (n : l ≠ a) (h : SqL K H l xs) : SqL K H' l xs := by
  rcases h with (h | ⟨o, h⟩) | h
  · exact .inl (.inl (x _ _ n h))
  · exact .inl (.inr ⟨o, x _ _ n h⟩)
  · exact .inr h
theorem SB.free {a b : Addr} {H H' : Hp} (x : SB a H H') (n : b ≠ a) (h : H' b = none) : H b = none := by
  cases q : H b with
  | none => rfl
  | some o =>
    rw [x b o n q] at h
    cases h
/-- at a a stream of draws of which at most n are mixed numbers -/
def Stm (H : Hp) (a : Addr) (n : Int) : Prop := ∃ x y z : Int, H a = some (.lst [.int x, .int y, .int z]) ∧ 0 ≤ x ∧ 0 ≤ y ∧ y < 1099511627776 ∧ 0 ≤ z ∧ z ≤ n
theorem Stm.mono {H : Hp} {a : Addr} {n m : Int} (h : Stm H a n) (k : n ≤ m) : Stm H a m := by
  obtain ⟨x, y, z, e, h1, h2, h3, h4, h5⟩ := h
  exact ⟨x, y, z, e, h1, h2, h3, h4, Int.le_trans h5 k⟩
theorem Stm.ne {H : Hp} {a p : Addr} {n : Int} (h : Stm H a n) (hp : H p = none) : a ≠ p := by
  obtain ⟨x, y, z, e, _⟩ := h
  exact ne_of_none e hp
theorem Stm.same {H H' : Hp} {a : Addr} {n : Int} (h : Stm H a n) (s : Same H H') : Stm H' a n := by
  obtain ⟨x, y, z, e, r⟩ := h
  exact ⟨x, y, z, s _ _ e, r⟩
theorem Stm.upd {H : Hp} {a p : Addr} {o : HO} {n : Int} (h : Stm H a n) (hp : H p = none) : Stm (upd H p o) a n := h.same (Same.new hp)
theorem ne_lit {i : Int} (h : i ≠ 0) : i ≠ 0 := h
theorem fm_in (q : Int) {m : Int} (h : 1 ≤ m) : 0 ≤ q.fmod m ∧ q.fmod m < m := by
  rw [Int.fmod_eq_emod_of_nonneg q (by omega)]
  exact ⟨Int.emod_nonneg _ (by omega), Int.emod_lt_of_pos _ (by omega)⟩
def spStream (K : PySem.W.Frag) : Sp := fun vs H Q _ => ∃ (a : Addr) (ns : List Int) (k : Int), vs = [.ref a, .int k] ∧ SqL K H a (ns.map V.int) ∧ 0 ≤ k ∧ k ≤ 1000 ∧
  ∀ (p : Addr) (x y : Int), H p = none → 0 ≤ x → 0 ≤ y → y < 1099511627776 → Q (.ref p) (upd H p (.lst [.int x, .int y, .int 0]))
def spDraw : Sp := fun vs H Q _ => ∃ (a : Addr) (m n : Int), vs = [.ref a, .int m] ∧ Stm H a n ∧ n ≤ 1099511627776 ∧ 1 ≤ m ∧ m ≤ 1000000 ∧
  ∀ (r : Int) (H' : Hp), 0 ≤ r → r < m → Stm H' a (n + 1) → (∀ b, b ≠ a → H' b = H b) → Q (.int r) H'
section
variable {P : Program} {w : World} {K : PySem.W.Frag} {mg : Str → Option Value} {base : Heap}
theorem sc_stream : FnScope ["_law_script", "_law_k", "_law_cell"] ["_law_script", "_law_k"] (defScope s_L_stream) := ⟨rfl, rfl, rfl, by decide +kernel, rfl, by decide +kernel, by decide +kernel⟩
theorem ok_stream (D : DefAt K mg "_law_stream" s_L_stream ["_law_script", "_law_k"]) (B : TxB mg) : FnOk P w K mg base CX0 2 D.f D.fd ["_law_script", "_law_k"] (spStream K) := by
  refine D.F.ok sc_stream (fun vs H Q E h => ?_) (fun cdv A outer s H vs Q E hr h => ?_)
  · obtain ⟨a, ns, k, rfl, _⟩ := h
    rfl
  · obtain ⟨a, ns, k, rfl, hS, h0, h1, hq⟩ := h
    refine ⟨_, pss_cons (ps_set (i := 2) sc_stream.nd rfl (.inl rfl) (pe_ifExp (pt_cmpR op_lt (pv 1) (pe_callB call_len_seq (by rfl) B.len PySem.boot_len (pa_cons (pv 0) pa_nil)) (nomark _)) (pe_callB call_abs (by rfl) B.abs (by decide +kernel) (pa_cons (pe_ix ix_list (pv 0) (pv 1) (fun _ _ => rfl)) pa_nil)) pe_int))
      (pss_one (ps_ret (pe_lst (pa_cons (pe_ifExp (pt_cmpR op_ge (pv 2) (pe_op op_pow pe_int pe_int) (nomark _)) (pv 2) pe_int) (pa_cons (pe_op op_add (pe_op op_modN (pe_callTy call_int1 (by rfl) B.int (by decide +kernel) (pa_cons (pv 2) pa_nil)) pe_int) (pe_op op_mul pe_int (pv 1))) (pa_cons pe_int pa_nil)))))), ?_⟩
    refine ⟨_, rfl, _, rfl, a, _, rfl, .inl hS, _, _, rfl, rfl, _, rfl, ?_⟩
    have fin : ∀ c : Int, 0 ≤ c → 0 ≤ c.fmod 2147483647 + 31 * k ∧ c.fmod 2147483647 + 31 * k < 1099511627776 := fun c hc => by
      have e := Int.fmod_eq_emod_of_nonneg c (show (0 : Int) ≤ 2147483647 by decide)
      omega
    refine ite2 (fun h => ?_) (fun h => ?_)
    · have hlt := of_decide_eq_true h
      rw [List.length_map] at hlt
      obtain ⟨v, hv⟩ : ∃ v, ns[k.toNat]? = some v := ⟨ns[k.toNat]'(by omega), List.getElem?_eq_getElem (by omega)⟩
      refine ⟨_, rfl, _, rfl, a, _, _, .int v, rfl, rfl, hS, at_of (j := k.toNat) (by omega) (by rw [List.getElem?_map, hv]; rfl), _, rfl, ?_⟩
      have hc : (0 : Int) ≤ if v < 0 then -v else v := by split <;> omega
      generalize (if v < 0 then -v else v) = c at hc
      refine ⟨_, rfl, _, _, rfl, rfl, ⟨by decide, by decide, by decide⟩, _, _, rfl, rfl, _, rfl, ?_⟩
      refine ite2 (fun h => ?_) (fun h => ?_)
      · exact ⟨_, rfl, _, rfl, .inl ⟨_, rfl, _, _, rfl, rfl, ne_lit (by decide), _, rfl, _, _, rfl, rfl, .inl ⟨by decide, by decide⟩, _, _, rfl, rfl, (by show 3 ≤ sizeLine; decide), fun p hp => hq p _ _ hp hc (fin c hc).1 (fin c hc).2⟩⟩
      · exact ⟨_, rfl, .inl ⟨_, rfl, _, _, rfl, rfl, ne_lit (by decide), _, rfl, _, _, rfl, rfl, .inl ⟨by decide, by decide⟩, _, _, rfl, rfl, (by show 3 ≤ sizeLine; decide), fun p hp => hq p _ _ hp (by decide) (fin c hc).1 (fin c hc).2⟩⟩
    · have hc : (0 : Int) ≤ 0 := Int.le_refl 0
      refine ⟨_, rfl, _, _, rfl, rfl, ⟨by decide, by decide, by decide⟩, _, _, rfl, rfl, _, rfl, ?_⟩
      refine ite2 (fun h => ?_) (fun h => ?_)
      · exact ⟨_, rfl, _, rfl, .inl ⟨_, rfl, _, _, rfl, rfl, ne_lit (by decide), _, rfl, _, _, rfl, rfl, .inl ⟨by decide, by decide⟩, _, _, rfl, rfl, (by show 3 ≤ sizeLine; decide), fun p hp => hq p _ _ hp hc (fin 0 hc).1 (fin 0 hc).2⟩⟩
      · exact ⟨_, rfl, .inl ⟨_, rfl, _, _, rfl, rfl, ne_lit (by decide), _, rfl, _, _, rfl, rfl, .inl ⟨by decide, by decide⟩, _, _, rfl, rfl, (by show 3 ≤ sizeLine; decide), fun p hp => hq p _ _ hp (by decide) (fin 0 hc).1 (fin 0 hc).2⟩⟩
theorem sc_draw : FnScope ["_law_stream_here", "_law_many", "_law_digit", "_law_spread"] ["_law_stream_here", "_law_many"] (defScope s_L_draw) := ⟨rfl, rfl, rfl, by decide +kernel, rfl, by decide +kernel, by decide +kernel⟩
theorem ok_draw (D : DefAt K mg "_law_draw" s_L_draw ["_law_stream_here", "_law_many"]) (B : TxB mg) : FnOk P w K mg base CX0 2 D.f D.fd ["_law_stream_here", "_law_many"] spDraw := by
  refine D.F.ok sc_draw (fun vs H Q E h => ?_) (fun cdv A outer s H vs Q E hr h => ?_)
  · obtain ⟨a, m, n, rfl, _⟩ := h
    rfl
  · obtain ⟨a, m, n, rfl, ⟨x, y, z, e, hx, hy, hy1, hz, hzn⟩, hn, hm, hm1, hq⟩ := h
    have eS := SqL.of (K := K) e
    refine ⟨_, pss_cons (ps_if (pt_cmpR op_gt (pe_ix ix_list (pv 0) pe_int (fun _ _ => rfl)) pe_int (nomark _))
        (pss_cons (ps_set (i := 2) sc_draw.nd rfl (.inl rfl) (pe_op op_modN (pe_callTy call_int1 (by rfl) B.int (by decide +kernel) (pa_cons (pe_ix ix_list (pv 0) pe_int (fun _ _ => rfl)) pa_nil)) (pv 1)))
        (pss_cons (ps_asg (pe_op op_fdivN (pe_ix ix_list (pv 0) pe_int (fun _ _ => rfl)) (pv 1)) (pg_sub (pv 0) pe_int set_list))
        (pss_one (ps_ret (pv 2))))) pss_nil)
      (pss_cons (ps_asg (pe_op op_add (pe_ix ix_list (pv 0) pe_int (fun _ _ => rfl)) pe_int) (pg_sub (pv 0) pe_int set_list))
      (pss_cons (ps_set (i := 3) sc_draw.nd rfl (.inl rfl) (pe_op op_modN (pe_op op_pow (pe_callTy call_int1 (by rfl) B.int (by decide +kernel) (pa_cons (pe_op op_add (pe_op op_add (pe_ix ix_list (pv 0) pe_int (fun _ _ => rfl)) (pe_op op_mul pe_int (pe_ix ix_list (pv 0) pe_int (fun _ _ => rfl)))) pe_int) pa_nil)) pe_int) pe_int))
      (pss_one (ps_ret (pe_op op_modN (pe_op op_fdivN (pe_op op_modN (pe_callTy call_int1 (by rfl) B.int (by decide +kernel) (pa_cons (pe_op op_mul (pe_op op_add (pv 3) (pe_ix ix_list (pv 0) pe_int (fun _ _ => rfl))) pe_int) pa_nil)) pe_int) pe_int) (pv 1)))))), ?_⟩
    have g0 : ∀ x y z : Int, atI [V.int x, .int y, .int z] 0 = some (.int x) := fun _ _ _ => rfl
    have g1 : ∀ x y z : Int, atI [V.int x, .int y, .int z] 1 = some (.int y) := fun _ _ _ => rfl
    have g2 : ∀ x y z : Int, atI [V.int x, .int y, .int z] 2 = some (.int z) := fun _ _ _ => rfl
    refine ⟨_, rfl, a, _, _, _, rfl, rfl, eS, g0 _ _ _, _, _, rfl, rfl, _, rfl, ?_⟩
    refine ite2 (fun h => ?_) (fun h => ?_)
    · have hx0 := of_decide_eq_true h
      refine ⟨_, rfl, a, _, _, _, rfl, rfl, eS, g0 _ _ _, .inl ⟨_, rfl, _, rfl, _, _, rfl, rfl, (by omega), ?_⟩⟩
      refine ⟨_, rfl, a, _, _, _, rfl, rfl, eS, g0 _ _ _, _, rfl, _, _, rfl, rfl, ⟨by omega, by omega⟩, _, rfl, a, _, _, 0, rfl, rfl, e, rfl, _, rfl, ?_⟩
      have e2 := Int.fdiv_eq_ediv_of_nonneg x (show (0 : Int) ≤ m by omega)
      exact hq _ _ (fm_in _ hm).1 (fm_in _ hm).2 ⟨x.fdiv m, y, z, upd_same, by rw [e2]; exact Int.ediv_nonneg hx (by omega), hy, hy1, hz, by omega⟩ fun b hb => upd_ne hb
    · refine ⟨_, rfl, a, _, _, _, rfl, rfl, eS, g2 _ _ _, _, _, rfl, rfl, _, rfl, a, _, _, 2, rfl, rfl, e, rfl, ?_⟩
      have e' : (upd H a (.lst [V.int x, .int y, .int (z + 1)])) a = some (.lst [V.int x, .int y, .int (z + 1)]) := upd_same
      have eS' := SqL.of (K := K) e'
      refine ⟨_, rfl, a, _, _, _, rfl, rfl, eS', g1 _ _ _, _, rfl, a, _, _, _, rfl, rfl, eS', g2 _ _ _, _, _, rfl, rfl, .inl ⟨by decide, by decide⟩, _, _, rfl, rfl, _, _, rfl, rfl, .inl ⟨_, rfl, _, _, rfl, rfl, ⟨by decide, by decide, by omega⟩, _, _, rfl, rfl, ne_lit (by decide), ?_⟩⟩
      have e3 := Int.fmod_eq_emod_of_nonneg ((y + 7919 * (z + 1) + 104729) ^ (5 : Int).toNat) (show (0 : Int) ≤ 2147483647 by decide)
      generalize (y + 7919 * (z + 1) + 104729) ^ (5 : Int).toNat = g at e3
      have b1 := Int.emod_nonneg g (show (2147483647 : Int) ≠ 0 by decide)
      have b2 := Int.emod_lt_of_pos g (show (0 : Int) < 2147483647 by decide)
      rw [← e3] at b1 b2
      generalize g.fmod 2147483647 = u at b1 b2
      refine ⟨_, rfl, _, rfl, a, _, _, _, rfl, rfl, eS', g2 _ _ _, _, _, rfl, rfl, _, _, rfl, rfl, .inl ⟨by omega, by omega⟩, .inl ⟨_, rfl, _, _, rfl, rfl, ne_lit (by decide), _, _, rfl, rfl, ⟨by decide, by decide⟩, _, rfl, _, _, rfl, rfl, by omega, ?_⟩⟩
      exact hq _ _ (fm_in _ hm).1 (fm_in _ hm).2 ⟨x, y, z + 1, upd_same, hx, hy, hy1, by omega, by omega⟩ fun b hb => upd_ne hb
end
end Ts

set_option maxRecDepth 100000
set_option maxHeartbeats 4000000
namespace Ts
open PySem L2
/-- an item of a list, or a sign of a text, that is drawn -/
def spPick (K : PySem.W.Frag) : Sp := fun vs H Q _ =>
  (∃ (a l : Addr) (n : Int) (xs : List V), vs = [.ref a, .ref l] ∧ Stm H a n ∧ n ≤ 1099511627776 ∧ l ≠ a ∧ SqL K H l xs ∧ 1 ≤ xs.length ∧ xs.length ≤ 1000000 ∧
    ∀ (v : V) (H' : Hp), v ∈ xs → Stm H' a (n + 1) → SB a H H' → (∀ b, H b = none → H' b = none) → Q v H') ∨
  (∃ (a : Addr) (z : Str) (n : Int), vs = [.ref a, .str z] ∧ Stm H a n ∧ n ≤ 1099511627776 ∧ 1 ≤ z.length ∧ z.length ≤ 1000000 ∧
    ∀ (c : Nat) (H' : Hp), c ∈ z.cps.toList → Stm H' a (n + 1) → SB a H H' → (∀ b, H b = none → H' b = none) → Q (.str ⟨#[c]⟩) H')
theorem sb_eq {a : Addr} {H H' : Hp} (h : ∀ b, b ≠ a → H' b = H b) : SB a H H' := fun b o n e => by rw [h b n]; exact e
theorem free_eq {a : Addr} {n : Int} {H H' : Hp} (s : Stm H a n) (h : ∀ b, b ≠ a → H' b = H b) (b : Addr) (hb : H b = none) : H' b = none := by rw [h b (s.ne hb).symm]; exact hb
/-- a name as it is drawn: 1, 2, 3 or 8 letters -/
def Low (z : Str) : Prop := ∀ c ∈ z.cps.toList, 97 ≤ c ∧ c ≤ 122
def Drawn (z : Str) : Prop := (z.length = 1 ∨ z.length = 2 ∨ z.length = 3 ∨ z.length = 8) ∧ Low z
def NameShape (z : Str) : Prop := ((z.length = 1 ∨ z.length = 2 ∨ z.length = 3 ∨ z.length = 8) ∨ z.length = 4) ∧ Low z
theorem Drawn.shape {z : Str} (h : Drawn z) : NameShape z := ⟨.inl h.1, h.2⟩
def spName : Sp := fun vs H Q _ => ∃ (a : Addr) (n : Int), vs = [.ref a] ∧ Stm H a n ∧ n ≤ 549755813888 ∧
  ∀ (z : Str) (H' : Hp), Drawn z → Stm H' a (n + 9) → SB a H H' → Q (.str z) H'
theorem abc_low : ∀ c ∈ ("abcdefghijklmnopqrstuvwxyz" : Str).cps.toList, 97 ≤ c ∧ c ≤ 122 := by decide +kernel
theorem abc_len : ("abcdefghijklmnopqrstuvwxyz" : Str).length = 26 := by decide +kernel
theorem join_empty : ∀ (ys : List Str), (Str.join ("" : Str) ys).cps.toList = (ys.map fun y => y.cps.toList).flatten
  | [] => rfl
  | [x] => by simp [Str.join]
  | x :: y :: r => by
    have ih := join_empty (y :: r)
    have e : ("" : Str).cps.toList = [] := by decide +kernel
    show ((x.cps ++ ("" : Str).cps) ++ (Str.join "" (y :: r)).cps).toList = _
    rw [Array.toList_append, Array.toList_append, ih, e]
    simp
theorem tYes_if {σ : St} {H : Hp} {A B : Hp → Prop} (h : A H) : tYes σ H (fun b H3 => if b = true then A H3 else B H3) := by
  show if true = true then A H else B H
  rw [if_pos rfl]
  exact h
/-- signs put together -/
def signs (cs : List Nat) : List Str := cs.map fun c => ⟨#[c]⟩
theorem join_signs (cs : List Nat) : (Txt.join ("" : Str) (signs cs)).cps.toList = cs := by
  rw [TL.join_eq, join_empty]
  unfold signs
  induction cs with
  | nil => rfl
  | cons c r ih =>
    simp only [List.map_cons, List.flatten_cons] at ih ⊢
    rw [ih]
    rfl
theorem len_toList (z : Str) : z.length = z.cps.toList.length := by simp [Str.length]
section
variable {P : Program} {w : World} {K : PySem.W.Frag} {mg : Str → Option Value} {base : Heap}
end
end Ts

set_option maxRecDepth 100000
set_option maxHeartbeats 4000000
namespace Ts
open PySem L2
/-! ### rows of trees -/
structure Row where
  nm : Str
  fo : Str
  ki : Str
  pr : Option Int
  deriving DecidableEq
def prV : Option Int → V
  | none => .non
  | some i => .int i
def rowVs (r : Row) : List V := [.str r.nm, .str r.fo, .str r.ki, prV r.pr]
structure RowsAt (H : Hp) (as : List Addr) (rs : List Row) : Prop where
  len : as.length = rs.length
  at_ : ∀ (i : Nat) (a : Addr) (r : Row), as[i]? = some a → rs[i]? = some r → H a = some (.tup (rowVs r))
theorem RowsAt.same {H H' : Hp} {as : List Addr} {rs : List Row} (h : RowsAt H as rs) (s : Same H H') : RowsAt H' as rs := ⟨h.len, fun i a r ha hr => s _ _ (h.at_ i a r ha hr)⟩
theorem RowsAt.sb {H H' : Hp} {as : List Addr} {rs : List Row} {p : Addr} {xs : List V} (h : RowsAt H as rs) (hp : H p = some (.lst xs)) (s : SB p H H') : RowsAt H' as rs :=
  ⟨h.len, fun i a r ha hr => s _ _ (fun q => by have e := h.at_ i a r ha hr; rw [q, hp] at e; cases e) (h.at_ i a r ha hr)⟩
theorem RowsAt.nil {H : Hp} : RowsAt H [] [] := ⟨rfl, fun i a r ha => by simp at ha⟩
theorem RowsAt.snoc {H : Hp} {as : List Addr} {rs : List Row} {a : Addr} {r : Row} (h : RowsAt H as rs) (ha : H a = some (.tup (rowVs r))) : RowsAt H (as ++ [a]) (rs ++ [r]) := by
  refine ⟨by simp [h.len], fun i b q hb hq => ?_⟩
  rcases Nat.lt_or_ge i as.length with hi | hi
  · rw [List.getElem?_append_left hi] at hb
    rw [List.getElem?_append_left (h.len ▸ hi)] at hq
    exact h.at_ i b q hb hq
  · rw [List.getElem?_append_right hi] at hb
    rw [List.getElem?_append_right (h.len ▸ hi)] at hq
    have e0 : i - as.length = 0 := by
      have := (List.getElem?_eq_some_iff.mp hb).1
      simp at this
      omega
    have e1 : i - rs.length = 0 := by rw [← h.len]; exact e0
    rw [e0] at hb
    rw [e1] at hq
    simp at hb hq
    subst hb; subst hq
    exact ha
def kinds3 : List Str := ["folder", "item", "shut"]
def PriceOk : Option Int → Prop
  | none => True
  | some i => 1 ≤ i
/-- what a row must be behind others -/
structure Fits (pre : List Row) (r : Row) : Prop where
  shape : NameShape r.nm
  top : r.nm ≠ ("top" : Str)
  new : r.nm ∉ pre.map (·.nm)
  home : r.fo = ("top" : Str) ∨ ∃ q ∈ pre, q.nm = r.fo ∧ q.ki = ("folder" : Str)
  kind : r.ki ∈ kinds3
  price : PriceOk r.pr
def Valid (rs : List Row) : Prop := ∀ i r, rs[i]? = some r → Fits (rs.take i) r
theorem Valid.nil : Valid [] := fun i r h => by simp at h
theorem Valid.snoc {rs : List Row} {r : Row} (h : Valid rs) (f : Fits rs r) : Valid (rs ++ [r]) := by
  intro i q hq
  rcases Nat.lt_or_ge i rs.length with hi | hi
  · rw [List.getElem?_append_left hi] at hq
    rw [List.take_append_of_le_length (Nat.le_of_lt hi)]
    exact h i q hq
  · rw [List.getElem?_append_right hi] at hq
    have e0 : i - rs.length = 0 := by
      have := (List.getElem?_eq_some_iff.mp hq).1
      simp at this
      omega
    rw [e0] at hq
    simp at hq
    subst hq
    have e : i = rs.length := by omega
    rw [e, List.take_append_of_le_length (Nat.le_refl _), List.take_length]
    exact f
/-! ### looking for texts in lists -/
theorem eqV_str (x y : Str) : eqV (.str x) (.str y) = decide (x = y) := by
  by_cases h : x = y
  · subst h
    simp [eqV]
  · simp [eqV, h]
theorem inV_strs (z : Str) : ∀ l : List Str, inV (.str z) (l.map V.str) = decide (z ∈ l)
  | [] => by simp [inV]
  | x :: l => by
    have ih := inV_strs z l
    unfold inV at ih ⊢
    rw [List.map_cons, List.any_cons, ih, eqV_str]
    by_cases h : x = z
    · subst h; simp
    · have h' : ¬ z = x := fun e => h e.symm
      simp [h, h']
theorem flat_strs (l : List Str) : (l.map V.str).all flatV = true := by
  rw [List.all_eq_true]
  intro v hv
  obtain ⟨z, _, rfl⟩ := List.mem_map.mp hv
  rfl
theorem low_cat {x y : Str} (hx : Low x) (hy : Low y) : Low (x ++ y) := by
  intro c hc
  have e : (x ++ y).cps.toList = x.cps.toList ++ y.cps.toList := by
    show (x.cps ++ y.cps).toList = _
    simp
  rw [e] at hc
  rcases List.mem_append.mp hc with h | h
  · exact hx c h
  · exact hy c h
theorem len_cat (x y : Str) : (x ++ y).length = x.length + y.length := by
  show (x.cps ++ y.cps).size = _
  simp [Str.length]
end Ts
namespace Ts
open PySem L2
/-! ### dicts by what they have -/
structure MemD (H : Hp) (d : Addr) (l : List Str) : Prop where
  ex : ∃ kv : List (Key × V), H d = some (.dK kv) ∧ (∀ z : Str, (valV kv (.inr z : Key)).isSome = decide (z ∈ l)) ∧ kv.length ≤ l.length
theorem MemD.same {H H' : Hp} {d : Addr} {l : List Str} (m : MemD H d l) (e : H' d = H d) : MemD H' d l := by
  obtain ⟨kv, h⟩ := m.ex
  exact ⟨kv, by rw [e]; exact h⟩
theorem putK_le (kv : List (Key × V)) (k : Key) (v : V) : (putK kv k v).length ≤ kv.length + 1 := by
  unfold putK
  split
  · rw [List.length_map]; exact Nat.le_succ _
  · rw [List.length_append, List.length_singleton]; exact Nat.le_refl _
theorem mem_put {kv : List (Key × V)} {l : List Str} (h : ∀ z : Str, (valV kv (.inr z : Key)).isSome = decide (z ∈ l)) (x : Str) (v : V) (z : Str) : (valV (putK kv (.inr x) v) (.inr z : Key)).isSome = decide (z ∈ l ++ [x]) := by
  rw [valV_put]
  by_cases e : z = x
  · subst e
    simp
  · have e' : ¬ (Sum.inr z : Key) = Sum.inr x := fun q => e (Sum.inr.inj q)
    rw [if_neg e', h z]
    simp [e]
theorem MemD.put {H : Hp} {d : Addr} {l : List Str} {kv : List (Key × V)} (hk : ∀ z : Str, (valV kv (.inr z : Key)).isSome = decide (z ∈ l)) (hl : kv.length ≤ l.length) (x : Str) (v : V) : MemD (upd H d (.dK (putK kv (.inr x) v))) d (l ++ [x]) :=
  ⟨_, upd_same, mem_put hk x v, by have := putK_le kv (.inr x) v; rw [List.length_append, List.length_singleton]; omega⟩
/-- rows as tuples or lists -/
structure SeqRows (H : Hp) (as : List Addr) (rs : List Row) : Prop where
  len : as.length = rs.length
  at_ : ∀ (i : Nat) (a : Addr) (r : Row), as[i]? = some a → rs[i]? = some r → H a = some (.tup (rowVs r)) ∨ H a = some (.lst (rowVs r))
theorem SeqRows.same {H H' : Hp} {as : List Addr} {rs : List Row} (h : SeqRows H as rs) (s : Same H H') : SeqRows H' as rs := ⟨h.len, fun i a r ha hr => (h.at_ i a r ha hr).imp (s _ _) (s _ _)⟩
theorem RowsAt.seq {H : Hp} {as : List Addr} {rs : List Row} (h : RowsAt H as rs) : SeqRows H as rs := ⟨h.len, fun i a r ha hr => .inl (h.at_ i a r ha hr)⟩
/-- what a row must be behind others, names and folders that stand already -/
structure FitsB (ns hs : List Str) (pre : List Row) (r : Row) : Prop where
  shape : NameShape r.nm
  top : r.nm ≠ ("top" : Str)
  new : r.nm ∉ ns ++ pre.map (·.nm)
  home : r.fo ∈ hs ++ (pre.filter fun q => decide (q.ki = ("folder" : Str))).map (·.nm)
  kind : r.ki ∈ kinds3
  price : PriceOk r.pr
theorem Fits.b {pre : List Row} {r : Row} (f : Fits pre r) : FitsB [] [("top" : Str)] pre r :=
  ⟨f.shape, f.top, by simpa using f.new, by
    rcases f.home with h | ⟨q, hq, h1, h2⟩
    · rw [h]; simp
    · refine List.mem_append.mpr (.inr (List.mem_map.mpr ⟨q, List.mem_filter.mpr ⟨hq, decide_eq_true h2⟩, h1⟩)), f.kind, f.price⟩
end Ts

set_option maxRecDepth 100000
set_option maxHeartbeats 4000000
namespace Ts
open PySem L2
def kindsL : List Str := ["folder", "folder", "item", "item", "item", "shut"]
def pricesL : List (Option Int) := [some 1, some 1, some 1, some 2, some 3, some 7, none]
def spKinds : Sp := fun vs H Q _ => vs = [] ∧ ∀ p, H p = none → Q (.ref p) (upd H p (.lst (kindsL.map V.str)))
def spPrices : Sp := fun vs H Q _ => vs = [] ∧ ∀ p, H p = none → Q (.ref p) (upd H p (.lst (pricesL.map prV)))
/-- the rows of a drawn tree: n mixed draws before, at most 13 more a row -/
def spRows (K : PySem.W.Frag) : Sp := fun vs H Q _ => ∃ (a kl pl : Addr) (many n : Int) (ks : List Str) (ps : List (Option Int)), vs = [.ref a, .int many, .ref kl, .ref pl] ∧ Stm H a n ∧ n ≤ 549755800000 ∧ 0 ≤ many ∧ many ≤ 40 ∧ kl ≠ a ∧ pl ≠ a ∧
  SqL K H kl (ks.map V.str) ∧ SqL K H pl (ps.map prV) ∧ 1 ≤ ks.length ∧ ks.length ≤ 1000 ∧ 1 ≤ ps.length ∧ ps.length ≤ 1000 ∧ (∀ k ∈ ks, k ∈ kinds3) ∧ (∀ q ∈ ps, PriceOk q) ∧
  ∀ (p : Addr) (as : List Addr) (rs : List Row) (H' : Hp), H p = none → p ≠ a → H' p = some (.lst (as.map V.ref)) → RowsAt H' as rs → Valid rs → (rs.length : Int) ≤ many → (∀ r ∈ rs, r.ki ∈ ks ∧ r.pr ∈ ps) → SB a H H' → Stm H' a (n + 13 * many) → Q (.ref p) H'
def folderNames (rs : List Row) : List Str := (rs.filter fun r => decide (r.ki = ("folder" : Str))).map (·.nm)
theorem top_len : ("top" : Str).length = 3 := by decide +kernel
theorem mem_cutV {xs : List V} {lo hi : Option Int} {v : V} (h : v ∈ cutV xs lo hi) : v ∈ xs := List.mem_of_mem_drop (List.mem_of_mem_take h)
theorem seq_ref {K : PySem.W.Frag} {H H' : Hp} {l : Addr} {xs : List V} (e : H' l = H l) (h : SqL K H l xs) : SqL K H' l xs := by
  rcases h with (h | ⟨o, h⟩) | h
  · exact .inl (.inl (by rw [e]; exact h))
  · exact .inl (.inr ⟨o, by rw [e]; exact h⟩)
  · exact .inr h
section
variable {P : Program} {w : World} {K : PySem.W.Frag} {mg : Str → Option Value} {base : Heap}
/-- what stands between two turns -/
theorem sign_at {z : Str} (h : Low z) {r : Int} (h0 : 0 ≤ r) (h1 : r < (z.length : Int)) : ∃ c, z.cps[r.toNat]? = some c ∧ Low ⟨#[c]⟩ := by
  have hk : r.toNat < z.cps.size := by
    have : z.length = z.cps.size := rfl
    omega
  refine ⟨z.cps[r.toNat], Array.getElem?_eq_getElem hk, fun c hc => ?_⟩
  have e : c = z.cps[r.toNat] := by simpa using hc
  rw [e]
  exact h _ (by simp)
theorem low_q : Low ("q" : Str) := by unfold Low; decide +kernel
theorem low_aj : Low ("abcdefghij" : Str) := by unfold Low; decide +kernel
theorem low_kp : Low ("klmnop" : Str) := by unfold Low; decide +kernel
theorem len_q : ("q" : Str).length = 1 := by decide +kernel
theorem len_aj : ("abcdefghij" : Str).length = 10 := by decide +kernel
theorem len_kp : ("klmnop" : Str).length = 6 := by decide +kernel
theorem szl {n : Nat} (h : n ≤ 1000) : n ≤ sizeLine := Nat.le_of_lt (small1000 h)
theorem folders_le (rs : List Row) : (folderNames rs).length ≤ rs.length := by
  unfold folderNames
  rw [List.length_map]
  exact List.length_filter_le _ _
theorem mem_folders {rs : List Row} {z : Str} (h : z ∈ folderNames rs) : ∃ q ∈ rs, q.nm = z ∧ q.ki = ("folder" : Str) := by
  obtain ⟨q, hq, e⟩ := List.mem_map.mp h
  obtain ⟨h1, h2⟩ := List.mem_filter.mp hq
  exact ⟨q, h1, e, of_decide_eq_true h2⟩
theorem folders_snoc (rs : List Row) (r : Row) : folderNames (rs ++ [r]) = folderNames rs ++ (if r.ki = ("folder" : Str) then [r.nm] else []) := by
  unfold folderNames
  rw [List.filter_append, List.map_append]
  by_cases h : r.ki = ("folder" : Str)
  · rw [if_pos h]; simp [h]
  · rw [if_neg h]; simp [h]
end
end Ts

set_option maxRecDepth 100000
set_option maxHeartbeats 4000000
namespace Ts
open PySem L2
theorem abc_uni : ∀ c ∈ List.range' 97 26, Unicode.isAlpha c = true ∧ Unicode.isLower c = true ∧ Unicode.isUpper c = false ∧ Unicode.isTitle c = false := by decide +kernel
theorem uni {c : Nat} (h : 97 ≤ c ∧ c ≤ 122) : Unicode.isAlpha c = true ∧ Unicode.isLower c = true ∧ Unicode.isUpper c = false ∧ Unicode.isTitle c = false :=
  abc_uni c (List.mem_range'_1.mpr ⟨h.1, by omega⟩)
theorem low_ascii {z : Str} (h : Low z) : Txt.isascii z = true := by
  unfold Txt.isascii
  rw [← Array.all_toList, List.all_eq_true]
  intro c hc
  have := h c hc
  simp; omega
theorem low_alpha {z : Str} (h : Low z) (h1 : 1 ≤ z.length) : Txt.isalpha z = true := by
  unfold Txt.isalpha
  rw [← Array.all_toList, Bool.and_eq_true, List.all_eq_true]
  exact ⟨decide_eq_true (by omega), fun c hc => (uni (h c hc)).1⟩
theorem low_lower {z : Str} (h : Low z) (h1 : 1 ≤ z.length) : Txt.islower z = true := by
  unfold Txt.islower
  rw [← Array.any_toList, ← Array.any_toList, Bool.and_eq_true]
  refine ⟨?_, ?_⟩
  · rw [List.any_eq_true]
    have hl : 0 < z.cps.toList.length := by rw [← len_toList]; omega
    exact ⟨z.cps.toList[0], List.getElem_mem hl, (uni (h _ (List.getElem_mem hl))).2.1⟩
  · rw [Bool.not_eq_true', List.any_eq_false]
    intro c hc
    have := uni (h c hc)
    simp [this.2.2.1, this.2.2.2]
theorem NameShape.pos {z : Str} (h : NameShape z) : 1 ≤ z.length ∧ z.length ≤ 8 := by have := h.1; omega
structure TxC (K : PySem.W.Frag) (mg : Str → Option Value) where
  top : ∃ t, mg "TOP" = some (.str "top" t)
  folder : ∃ t, mg "FOLDER" = some (.str "folder" t)
  long : ∃ t, mg "LONGEST_NAME" = some (.int 8 t)
  kindsA : Addr
  kinds : mg "KINDS" = some (.ref kindsA)
  num : DefAt K mg "is_number" s_is_number ["thing", "least"]
  kindsT : ∃ (o : Obj) (its : Array Value) (n : Nat), K.lookup kindsA = some o ∧ o.cls = .type "tuple" ∧ o.data = .seq its n ∧ its.size ≤ sizeLine ∧ Vals (kinds3.map V.str) its.toList
def spIsName : Sp := fun vs H Q _ => ∃ z, vs = [.str z] ∧ NameShape z ∧ z ≠ ("top" : Str) ∧ Q (.bl true) H
def spIsNumber : Sp := fun vs H Q _ => ∃ i n : Int, vs = [.int i, .int n] ∧ Q (.bl (decide (n ≤ i))) H
def spIsPrice : Sp := fun vs H Q _ => ∃ o, vs = [prV o] ∧ PriceOk o ∧ Q (.bl true) H
section
variable {P : Program} {w : World} {K : PySem.W.Frag} {mg : Str → Option Value} {base : Heap}
theorem sc_is_name : FnScope ["thing"] ["thing"] (defScope s_is_name) := ⟨rfl, rfl, rfl, by decide +kernel, rfl, by decide +kernel, by decide +kernel⟩
theorem ok_is_name (D : DefAt K mg "is_name" s_is_name ["thing"]) (B : TxB mg) (C : TxC K mg) : FnOk P w K mg base CX0 2 D.f D.fd ["thing"] spIsName := by
  obtain ⟨t1, gT⟩ := C.top
  obtain ⟨t2, gL⟩ := C.long
  refine D.F.ok sc_is_name (fun vs H Q E h => ?_) (fun cdv A outer s H vs Q E hr h => ?_)
  · obtain ⟨z, rfl, _⟩ := h
    rfl
  · obtain ⟨z, rfl, hz, ht, hq⟩ := h
    refine ⟨_, pss_cons (ps_if (PW.pt (pw_or (pt_not (pt_val (pe_callB call_isi (by rfl) B.isinstance (by decide +kernel) (pa_cons (pv 0) (pa_cons (pe_bltn (by rfl) B.str (by decide +kernel) (v := .ty "str") rfl) pa_nil)))))
        (pw_or (pt_cmpR op_eq (pv 0) (pe_glob (by rfl) gT (v := .str ("top" : Str)) ⟨_, rfl⟩) (nomark _)) (pw_or1 (pt_cmpR op_gt (pe_callB call_len (by rfl) B.len PySem.boot_len (pa_cons (pv 0) pa_nil)) (pe_glob (by rfl) gL (v := .int 8) ⟨_, rfl⟩) (nomark _)))))) (pss_one (ps_ret pe_bl)) pss_nil)
      (pss_one (ps_ret (pe_and (pe_m0 PySem.F.slot_str_isascii PySem.F.type_str_isascii mt_isascii (pv 0)) (pe_and (pe_m0 PySem.F.slot_str_isalpha PySem.F.type_str_isalpha mt_isalpha (pv 0)) (pe_one (pe_m0 PySem.F.slot_str_islower PySem.F.type_str_islower mt_islower (pv 0))))))), ?_⟩
    have hp := hz.pos
    refine ⟨_, rfl, _, _, _, _, true, rfl, .ty "str", .base (.str z), kit_ty (by decide +kernel), _, rfl, iteF ?_⟩
    refine ⟨_, rfl, rfl, _, rfl, ?_⟩
    rw [decide_eq_false (fun q => ht (V.str.inj q))]
    refine iteF ?_
    refine ⟨_, rfl, _, z.length, rfl, ⟨szl (by omega), rfl⟩, _, _, rfl, rfl, _, rfl, ?_⟩
    rw [decide_eq_false (by omega)]
    refine iteF ?_
    refine ⟨_, rfl, ⟨_, rfl⟩, _, rfl, rfl, trivial, _, rfl, ?_⟩
    rw [low_ascii hz.2]
    refine iteT ⟨_, rfl, ⟨_, rfl⟩, _, rfl, rfl, trivial, _, rfl, ?_⟩
    rw [low_alpha hz.2 hp.1]
    refine iteT ⟨_, rfl, ⟨_, rfl⟩, _, rfl, rfl, trivial, ?_⟩
    rw [low_lower hz.2 hp.1]
    exact hq
theorem sc_is_number : FnScope ["thing", "least"] ["thing", "least"] (defScope s_is_number) := ⟨rfl, rfl, rfl, by decide +kernel, rfl, by decide +kernel, by decide +kernel⟩
theorem ok_is_number (D : DefAt K mg "is_number" s_is_number ["thing", "least"]) (B : TxB mg) : FnOk P w K mg base CX0 1 D.f D.fd ["thing", "least"] spIsNumber := by
  refine D.F.ok sc_is_number (fun vs H Q E h => ?_) (fun cdv A outer s H vs Q E hr h => ?_)
  · obtain ⟨z, n, rfl, _⟩ := h
    rfl
  · obtain ⟨i, n, rfl, hq⟩ := h
    refine ⟨_, (pss_one (ps_ret (pe_and (pe_callB call_isi (by rfl) B.isinstance (by decide +kernel) (pa_cons (pv 0) (pa_cons (pe_bltn (by rfl) B.int (by decide +kernel) (v := .ty "int") rfl) pa_nil)))
        (pe_and (pe_not (pe_callB call_isi (by rfl) B.isinstance (by decide +kernel) (pa_cons (pv 0) (pa_cons (pe_bltn (by rfl) B.bool (by decide +kernel) (v := .ty "bool") rfl) pa_nil)))) (pe_one (pe_cmpR op_ge (pv 0) (pv 1) (nomark _))))))), ?_⟩
    refine ⟨_, rfl, _, _, _, _, true, rfl, .ty "int", .base (.int i), kit_ty (by decide +kernel), _, rfl, iteT ?_⟩
    refine ⟨_, rfl, _, _, _, _, false, rfl, .ty "bool", .base (.int i), kit_ty (by decide +kernel), _, rfl, _, rfl, iteT ?_⟩
    exact ⟨_, rfl, _, rfl, _, _, rfl, rfl, hq⟩
theorem sc_is_price : FnScope ["thing"] ["thing"] (defScope s_is_price) := ⟨rfl, rfl, rfl, by decide +kernel, rfl, by decide +kernel, by decide +kernel⟩
theorem ok_is_price (D : DefAt K mg "is_price" s_is_price ["thing"]) (B : TxB mg) (C : TxC K mg) : FnOk P w K mg base CX0 2 D.f D.fd ["thing"] spIsPrice := by
  have Gn : FnOk P w K mg base CX0 1 C.num.f C.num.fd ["thing", "least"] spIsNumber := ok_is_number C.num B
  refine D.F.ok sc_is_price (fun vs H Q E h => ?_) (fun cdv A outer s H vs Q E hr h => ?_)
  · obtain ⟨z, rfl, _⟩ := h
    rfl
  · obtain ⟨o, rfl, ho, hq⟩ := h
    refine ⟨_, (pss_one (ps_ret (pe_or (pe_cmpR op_isN (pv 0) pe_non (nomark _)) (pe_one (pe_call Gn hr rfl C.num.g C.num.F.kp C.num.b .nil pass0 (pa_cons (pv 0) (pa_cons pe_int pa_nil))))))), ?_⟩
    cases o with
    | none =>
      refine ⟨_, rfl, rfl, _, rfl, ?_⟩
      exact iteT hq
    | some i =>
      refine ⟨_, rfl, rfl, _, rfl, ?_⟩
      refine iteF ⟨_, rfl, i, 1, rfl, ?_⟩
      have hi : 1 ≤ i := ho
      rw [decide_eq_true hi]
      exact hq
end
end Ts

set_option maxRecDepth 100000
set_option maxHeartbeats 4000000
namespace Ts
open PySem L2
theorem kit_seqL {K : PySem.W.Frag} : PySem.W.kitAny K (.type "list") [.type "list", .type "tuple"] = some true := kitAny_cons (b := true) (kit_ty (by decide +kernel)) (fun e => nomatch e) fun _ => rfl
theorem kit_seqT {K : PySem.W.Frag} : PySem.W.kitAny K (.type "tuple") [.type "list", .type "tuple"] = some true := kitAny_cons (b := false) (kit_ty (by decide +kernel)) (fun _ => kitAny_cons (b := true) (kit_ty (by decide +kernel)) (fun e => nomatch e) fun _ => rfl) fun e => nomatch e
/-- a list or a tuple, made at run time -/
def Seq (H : Hp) (a : Addr) (xs : List V) : Prop := H a = some (.tup xs) ∨ H a = some (.lst xs)
theorem Seq.same {H H' : Hp} {a : Addr} {xs : List V} (h : Seq H a xs) (s : Same H H') : Seq H' a xs := h.imp (s _ _) (s _ _)
theorem Seq.ty {K : PySem.W.Frag} {H : Hp} {a : Addr} {xs : List V} (h : Seq H a xs) : ∃ t, TyX K H (.ref a) t ∧ PySem.W.kitAny K t [.type "list", .type "tuple"] = some true := by
  rcases h with h | h
  · exact ⟨_, .base (.tup h), kit_seqT⟩
  · exact ⟨_, .base (.lst h), kit_seqL⟩
theorem Seq.or {K : PySem.W.Frag} {H : Hp} {a : Addr} {xs : List V} (h : Seq H a xs) : SqL K H a xs ∨ SqT K H a xs := by
  rcases h with h | h
  · exact .inr (.inl (.inl h))
  · exact .inl (SqL.of h)
theorem sqT {K : PySem.W.Frag} {H : Hp} {a : Addr} {xs : List V} (h : H a = some (.tup xs)) : SqT K H a xs := .inl (.inl h)
/-- enumerate(x), x a list or a tuple in slot i -/
def iEnumS (i : Nat) : TI := fun σ H R => ∃ (a : Addr) (xs : List V), σ[i]? = some (some (.ref a)) ∧ Seq H a xs ∧ ∀ J, Walk J xs.length (fun H' => H' a = H a) (YPair (fun j => some (.int (j : Nat))) (fun j => xs[j]?)) → R J H
theorem pi_enumS {X : Cx} {x : Str} {px : Pos} {i : Nat} {p pos tpos : Pos} {elts : List Expr} {kk : Nat} (hg : Gl X "enumerate") (hm : X.mg "enumerate" = none) (he : PE X (.Name x px) (tVar i)) :
    PI X (.Tuple elts kk tpos) (.Call (.Name "enumerate" p) [.Name x px] [] pos) (iEnumS i) := by
  refine ⟨fun pins s σ H R I h => ?_⟩
  obtain ⟨a, xs, e1, hq, k⟩ := h
  rcases hq with hq | hq
  · exact (pi_enumT hg hm (pa_cons he pa_nil)).run pins s σ H R I ⟨_, e1, a, xs, rfl, sqT hq, k _ (walk_enumT.mono (fun H' e => sqT (e.trans hq)) fun _ _ _ _ _ _ y => y)⟩
  · exact (pi_enum hg hm (pa_cons he pa_nil)).run pins s σ H R I ⟨_, e1, a, xs, rfl, SqL.of hq, k _ (walk_enum.mono (fun H' e => SqL.of (e.trans hq)) fun _ _ _ _ _ _ y => y)⟩
/-- x itself, a list or a tuple in slot i -/
def iSeqS (i : Nat) : TI := fun σ H R => ∃ (a : Addr) (xs : List V), σ[i]? = some (some (.ref a)) ∧ Seq H a xs ∧ ∀ J, Walk J xs.length (fun H' => H' a = H a) (YAt xs) → R J H
theorem pi_seqS {X : Cx} {e tg : Expr} {i : Nat} (he : PE X e (tVar i)) : PI X tg e (iSeqS i) := by
  refine ⟨fun pins s σ H R I h => ?_⟩
  obtain ⟨a, xs, e1, hq, k⟩ := h
  rcases hq with hq | hq
  · exact (pi_tup he).run pins s σ H R I ⟨_, e1, a, rfl, ⟨_, sqT hq⟩, k _ (walk_tup.mono (fun H' e => sqT (e.trans hq)) fun _ _ _ _ _ _ y => y)⟩
  · exact (pi_list he).run pins s σ H R I ⟨_, e1, a, rfl, ⟨_, SqL.of hq⟩, k _ (walk_list.mono (fun H' e => SqL.of (e.trans hq)) fun _ _ _ _ _ _ y => y)⟩
theorem take_more {α : Type} : ∀ {l : List α} {i : Nat} {x : α}, l[i]? = some x → l.take (i + 1) = l.take i ++ [x]
  | [], i, x, h => by simp at h
  | a :: l, 0, x, h => by
    have e : a = x := Option.some.inj h
    subst e
    rfl
  | a :: l, i + 1, x, h => by
    have ih := take_more (l := l) (i := i) (x := x) (by simpa using h)
    rw [List.take_succ_cons, ih]
    rfl
theorem fold_take {rs : List Row} {i : Nat} {r : Row} (h : rs[i]? = some r) : folderNames (rs.take (i + 1)) = folderNames (rs.take i) ++ (if r.ki = ("folder" : Str) then [r.nm] else []) := by
  rw [take_more h, folders_snoc]
def spIsRow : Sp := fun vs H Q _ => ∃ (a d1 d2 : Addr) (r : Row) (kv1 kv2 : List (Key × V)), vs = [.ref a, .ref d1, .ref d2] ∧ Seq H a (rowVs r) ∧ H d1 = some (.dK kv1) ∧ valV kv1 (.inr r.nm : Key) = none ∧ H d2 = some (.dK kv2) ∧ (valV kv2 (.inr r.fo : Key)).isSome = true ∧
  NameShape r.nm ∧ r.nm ≠ ("top" : Str) ∧ r.ki ∈ kinds3 ∧ PriceOk r.pr ∧ ∀ H', Same H H' → Q (.bl true) H'
def spCheckRows (K : PySem.W.Frag) : Sp := fun vs H Q _ => ∃ (rw nm fo : Addr) (ns hs : List Str) (as : List Addr) (rs : List Row), vs = [.ref rw, .ref nm, .ref fo] ∧ Seq H rw (as.map V.ref) ∧ SeqRows H as rs ∧ SqT K H nm (ns.map V.str) ∧ SqT K H fo (hs.map V.str) ∧ rs.length ≤ 100 ∧ ns.length ≤ 100 ∧ hs.length ≤ 100 ∧
  (∀ i r, rs[i]? = some r → FitsB ns hs (rs.take i) r) ∧ ∀ H', Same H H' → Q .non H'
section
variable {P : Program} {w : World} {K : PySem.W.Frag} {mg : Str → Option Value} {base : Heap}
abbrev nIsRow : List Str := ["thing", "taken", "homes", "name", "folder", "kind", "price"]
theorem sc_is_row : FnScope nIsRow ["thing", "taken", "homes"] (defScope s_is_row) := ⟨rfl, rfl, rfl, by decide +kernel, rfl, by decide +kernel, by decide +kernel⟩
theorem ok_is_row (D : DefAt K mg "is_row" s_is_row ["thing", "taken", "homes"]) (Dn : DefAt K mg "is_name" s_is_name ["thing"]) (Dp : DefAt K mg "is_price" s_is_price ["thing"]) (B : TxB mg) (C : TxC K mg) : FnOk P w K mg base CX0 3 D.f D.fd ["thing", "taken", "homes"] spIsRow := by
  have Gn : FnOk P w K mg base CX0 2 Dn.f Dn.fd ["thing"] spIsName := ok_is_name Dn B C
  have Gp : FnOk P w K mg base CX0 2 Dp.f Dp.fd ["thing"] spIsPrice := ok_is_price Dp B C
  refine D.F.ok sc_is_row (fun vs H Q E h => ?_) (fun cdv A outer s H vs Q E hr h => ?_)
  · obtain ⟨a, d1, d2, r, kv1, kv2, rfl, _⟩ := h
    rfl
  · obtain ⟨a, d1, d2, r, kv1, kv2, rfl, ha, h1, v1, h2, v2, hn, ht, hk, hp, hq⟩ := h
    have hu := hu_of hr
    refine ⟨_, pss_cons (ps_if (PW.pt (pw_or (pt_not (pt_val (pe_callB call_isiT (by rfl) B.isinstance (by decide +kernel) (pa_cons (pv 0) (pa_cons (pe_tup (pa_cons (pe_bltn (by rfl) B.list (by decide +kernel) (v := .ty "list") rfl) (pa_cons (pe_bltn (by rfl) B.tuple (by decide +kernel) (v := .ty "tuple") rfl) pa_nil))) pa_nil)))))
        (pw_or1 (pt_cmpR op_ne (pe_callB call_len_seq (by rfl) B.len PySem.boot_len (pa_cons (pv 0) pa_nil)) pe_int (nomark _))))) (pss_one (ps_ret pe_bl)) pss_nil)
      (C8.pss_cut (ps_asg (pv 0) (pg_or (pg_tup rfl (pgs_cons (pg_name (i := 3) sc_is_row.nd rfl (.inl rfl)) (pgs_cons (pg_name (i := 4) sc_is_row.nd rfl (.inl rfl)) (pgs_cons (pg_name (i := 5) sc_is_row.nd rfl (.inl rfl)) (pgs_cons (pg_name (i := 6) sc_is_row.nd rfl (.inl rfl)) pgs_nil)))))
          (pg_unl rfl (pgs_cons (pg_name (i := 3) sc_is_row.nd rfl (.inl rfl)) (pgs_cons (pg_name (i := 4) sc_is_row.nd rfl (.inl rfl)) (pgs_cons (pg_name (i := 5) sc_is_row.nd rfl (.inl rfl)) (pgs_cons (pg_name (i := 6) sc_is_row.nd rfl (.inl rfl)) pgs_nil)))))))
      (pss_cons (ps_if (PW.pt (pw_or (pt_not (pt_val (pe_call Gn hr rfl Dn.g Dn.F.kp Dn.b .nil pass0 (pa_cons (pv 3) pa_nil)))) (pw_or1 (pt_cmp (pc_din hu (pv 3) (pv 1)))))) (pss_one (ps_ret pe_bl)) pss_nil)
      (pss_cons (ps_if (PW.pt (pw_or (pt_not (pt_val (pe_callB call_isi (by rfl) B.isinstance (by decide +kernel) (pa_cons (pv 4) (pa_cons (pe_bltn (by rfl) B.str (by decide +kernel) (v := .ty "str") rfl) pa_nil))))) (pw_or1 (pt_cmp (pc_dnotin hu (pv 4) (pv 2)))))) (pss_one (ps_ret pe_bl)) pss_nil)
      (pss_one (ps_ret (pe_and (pe_cmpR op_in_seq (pv 5) (pe_glob (by rfl) C.kinds (v := .ref C.kindsA) rfl) (by rfl)) (pe_one (pe_call Gp hr rfl Dp.g Dp.F.kp Dp.b .nil pass0 (pa_cons (pv 6) pa_nil)))))))))
      , ?_⟩
    refine ⟨_, rfl, (by show 2 ≤ sizeLine; decide), fun tp htp => ?_⟩
    have s1 : Same H (upd H tp (.tup [.ty "list", .ty "tuple"])) := Same.new htp
    obtain ⟨t, ty, kk⟩ := (ha.same s1).ty (K := K)
    refine ⟨_, tp, _, t, _, true, rfl, upd_same, .cons (.ty "list") (.cons (.ty "tuple") .nil), ty, kk, _, rfl, iteF ?_⟩
    refine ⟨_, rfl, a, _, rfl, (ha.same s1).or, rfl, _, rfl, ?_⟩
    refine iteF ?_
    have un : SqT K (upd H tp (.tup [.ty "list", .ty "tuple"])) a (rowVs r) ∨ SqL K (upd H tp (.tup [.ty "list", .ty "tuple"])) a (rowVs r) := (ha.same s1).or.symm
    refine ⟨fun σ' H' => σ' = [some (.ref a), some (.ref d1), some (.ref d2), some (.str r.nm), some (.str r.fo), some (.str r.ki), some (prV r.pr)] ∧ H' = upd H tp (.tup [.ty "list", .ty "tuple"]), ?_, ?_⟩
    · refine ⟨_, rfl, ?_⟩
      rcases un with un | un
      · exact .inl ⟨a, _, rfl, un, rfl, _, _, rfl, _, _, rfl, _, _, rfl, _, _, rfl, rfl, rfl, rfl⟩
      · exact .inr ⟨a, _, rfl, un, rfl, _, _, rfl, _, _, rfl, _, _, rfl, _, _, rfl, rfl, rfl, rfl⟩
    rintro σ' H' ⟨rfl, rfl⟩
    refine ⟨_, rfl, r.nm, rfl, hn, ht, _, rfl, iteF ?_⟩
    refine ⟨_, rfl, _, rfl, d1, _, rfl, DGet.k (k := Sum.inr r.nm) (s1 _ _ h1), _, rfl, ?_⟩
    rw [v1]
    refine iteF ?_
    refine ⟨_, rfl, _, _, _, _, true, rfl, .ty "str", .base (.str r.fo), kit_ty (by decide +kernel), _, rfl, iteF ?_⟩
    refine ⟨_, rfl, _, rfl, d2, _, rfl, DGet.k (k := Sum.inr r.fo) (s1 _ _ h2), _, rfl, ?_⟩
    rw [v2]
    refine iteF ?_
    refine ⟨_, rfl, C.kindsA, _, rfl, .inr (.inr C.kindsT), rfl, flat_strs _, _, rfl, ?_⟩
    have e : (if false = true then !inV (.str r.ki) (kinds3.map V.str) else inV (.str r.ki) (kinds3.map V.str)) = true := by
      rw [if_neg Bool.false_ne_true, inV_strs]
      exact decide_eq_true hk
    rw [e]
    exact iteT ⟨_, rfl, r.pr, rfl, hp, hq _ s1⟩
abbrev nCheckRows : List Str := ["rows", "names", "folders", "taken", "homes", "index", "row", "name", "folder", "kind", "price"]
theorem sc_check_rows : FnScope nCheckRows ["rows", "names", "folders"] (defScope s_check_rows) := ⟨rfl, rfl, rfl, by decide +kernel, rfl, by decide +kernel, by decide +kernel⟩
theorem ok_check_rows (D : DefAt K mg "check_rows" s_check_rows ["rows", "names", "folders"]) (Dr : DefAt K mg "is_row" s_is_row ["thing", "taken", "homes"]) (Dn : DefAt K mg "is_name" s_is_name ["thing"]) (Dp : DefAt K mg "is_price" s_is_price ["thing"]) (B : TxB mg) (C : TxC K mg) :
    FnOk P w K mg base CX0 4 D.f D.fd ["rows", "names", "folders"] (spCheckRows K) := by
  have Gr : FnOk P w K mg base CX0 3 Dr.f Dr.fd ["thing", "taken", "homes"] spIsRow := ok_is_row Dr Dn Dp B C
  obtain ⟨t1, gF⟩ := C.folder
  refine D.F.ok sc_check_rows (fun vs H Q E h => ?_) (fun cdv A outer s H vs Q E hr h => ?_)
  · obtain ⟨rw, nm, fo, ns, hs, as, rs, rfl, _⟩ := h
    rfl
  · obtain ⟨rw, nm, fo, ns, hs, as, rs, rfl, hrw, hrows, hnm, hfo, hl, hln, hlh, hfit, hq⟩ := h
    have hu := hu_of hr
    refine ⟨_, pss_cons (ps_if (pt_not (pt_val (pe_callB call_isiT (by rfl) B.isinstance (by decide +kernel) (pa_cons (pv 0) (pa_cons (pe_tup (pa_cons (pe_bltn (by rfl) B.list (by decide +kernel) (v := .ty "list") rfl) (pa_cons (pe_bltn (by rfl) B.tuple (by decide +kernel) (v := .ty "tuple") rfl) pa_nil))) pa_nil))))) (pss_one ps_never) pss_nil)
      (pss_cons (ps_setDc (i := 3) (own := [("name", 7)]) (g := gName 7) (tt := tYes) rfl sc_check_rows.nd rfl rfl (swd_true rfl rfl rfl (by decide +kernel)) (pi_tup (pv 1)) (blkOk_by (N := nCheckRows) (sc := defScope s_check_rows) (by decide +kernel))
        (fun _ _ _ _ _ => pg_name (i := 7) sc_check_rows.nd rfl (Or.inl rfl)) (fun _ _ _ _ _ => pts_nil) (fun _ _ _ _ _ => pv 7) (fun _ _ _ _ _ => pe_bl))
      (pss_cons (ps_setDc (i := 4) (own := [("folder", 8)]) (g := gName 8) (tt := tYes) rfl sc_check_rows.nd rfl rfl (swd_true rfl rfl rfl (by decide +kernel)) (pi_tup (pv 2)) (blkOk_by (N := nCheckRows) (sc := defScope s_check_rows) (by decide +kernel))
        (fun _ _ _ _ _ => pg_name (i := 8) sc_check_rows.nd rfl (Or.inl rfl)) (fun _ _ _ _ _ => pts_nil) (fun _ _ _ _ _ => pv 8) (fun _ _ _ _ _ => pe_bl))
      (pss_one (ps_for PassesOwn.never rfl (pi_enumS (by rfl) B.enumerate (pv 0)) (pg_tup rfl (pgs_cons (pg_name (i := 5) sc_check_rows.nd rfl (.inl rfl)) (pgs_cons (pg_name (i := 6) sc_check_rows.nd rfl (.inl rfl)) pgs_nil)))
        (pss_cons (ps_if (pt_not (pt_val (pe_call Gr hr rfl Dr.g Dr.F.kp Dr.b .nil pass0 (pa_cons (pv 6) (pa_cons (pv 3) (pa_cons (pv 4) pa_nil)))))) (pss_one ps_never) pss_nil)
        (C8.pss_cut (ps_asg (pv 6) (pg_or (pg_tup rfl (pgs_cons (pg_name (i := 7) sc_check_rows.nd rfl (.inl rfl)) (pgs_cons (pg_name (i := 8) sc_check_rows.nd rfl (.inl rfl)) (pgs_cons (pg_name (i := 9) sc_check_rows.nd rfl (.inl rfl)) (pgs_cons (pg_name (i := 10) sc_check_rows.nd rfl (.inl rfl)) pgs_nil)))))
          (pg_unl rfl (pgs_cons (pg_name (i := 7) sc_check_rows.nd rfl (.inl rfl)) (pgs_cons (pg_name (i := 8) sc_check_rows.nd rfl (.inl rfl)) (pgs_cons (pg_name (i := 9) sc_check_rows.nd rfl (.inl rfl)) (pgs_cons (pg_name (i := 10) sc_check_rows.nd rfl (.inl rfl)) pgs_nil)))))))
        (pss_cons (ps_dput hu (pv 3) (pv 7) pe_bl rfl)
        (pss_one (ps_if (pt_cmpR op_eq (pv 9) (pe_glob (by rfl) gF (v := .str ("folder" : Str)) ⟨_, rfl⟩) (nomark _)) (pss_one (ps_dput hu (pv 4) (pv 7) pe_bl rfl)) pss_nil)))))))))
      , ?_⟩
    refine ⟨_, rfl, (by show 2 ≤ sizeLine; decide), fun tp htp => ?_⟩
    have s1 : Same H (upd H tp (.tup [.ty "list", .ty "tuple"])) := Same.new htp
    obtain ⟨t, ty, kk⟩ := (hrw.same s1).ty (K := K)
    refine ⟨_, tp, _, t, _, true, rfl, upd_same, .cons (.ty "list") (.cons (.ty "tuple") .nil), ty, kk, _, rfl, iteF ?_⟩
    generalize upd H tp (.tup [.ty "list", .ty "tuple"]) = H1 at s1 ty
    have dict : ∀ (l : List Str) (td : Addr) (H1 H' : Hp) (i : Nat) (x : V), (l.map V.str)[i]? = some x → MemD H' td (l.take i) → ∃ (z : Str) (kv : List (Key × V)), x = .str z ∧ l[i]? = some z ∧ H' td = some (.dK kv) ∧ (∀ z : Str, (valV kv (.inr z : Key)).isSome = decide (z ∈ l.take i)) ∧ kv.length ≤ (l.take i).length := by
      intro l td H1 H' i x hx m
      rw [List.getElem?_map] at hx
      obtain ⟨z, hz, rfl⟩ := Option.map_eq_some_iff.mp hx
      obtain ⟨kv, e1, e2, e3⟩ := m.ex
      exact ⟨z, kv, rfl, hz, e1, e2, e3⟩
    refine ⟨_, rfl, nm, rfl, ⟨_, hnm.ext s1⟩, fun td htd => ?_⟩
    refine dc_tup (K := K) (a := nm) (xs := ns.map V.str) (fun i H' => Same H1 H' ∧ MemD H' td (ns.take i)) ⟨Same.new htd, [], upd_same, fun z => rfl, Nat.le_refl _⟩ (fun i H' _ m => hnm.ext (s1.trans m.1)) ?_ ?_
    · rintro i x H' hx ⟨sm, m⟩
      obtain ⟨z, kv, rfl, hz, e1, e2, e3⟩ := dict ns td H1 H' i x hx m
      refine ⟨rfl, tYes_if ⟨_, rfl, kv, .inr z, rfl, e1, small1000 (by rw [List.length_take] at e3; omega), fun b o e => ?_, ?_⟩⟩
      · rw [upd_ne (fun q => by rw [q, htd] at e; cases e)]
        exact sm b o e
      · rw [take_more hz]
        exact MemD.put e2 e3 z _
    · rintro H2 ⟨sm, m⟩
      rw [List.length_map, List.take_length] at m
      have s2 := s1.trans sm
      refine ⟨_, rfl, fo, rfl, ⟨_, hfo.ext s2⟩, fun hd hhd => ?_⟩
      have nth : td ≠ hd := by obtain ⟨kv, e1, _⟩ := m.ex; exact ne_of_none e1 hhd
      refine dc_tup (K := K) (a := fo) (xs := hs.map V.str) (fun i H' => Same H2 H' ∧ MemD H' hd (hs.take i)) ⟨Same.new hhd, [], upd_same, fun z => rfl, Nat.le_refl _⟩ (fun i H' _ m => hfo.ext (s2.trans m.1)) ?_ ?_
      · rintro i x H' hx ⟨sm, m⟩
        obtain ⟨z, kv, rfl, hz, e1, e2, e3⟩ := dict hs hd H2 H' i x hx m
        refine ⟨rfl, tYes_if ⟨_, rfl, kv, .inr z, rfl, e1, small1000 (by rw [List.length_take] at e3; omega), fun b o e => ?_, ?_⟩⟩
        · rw [upd_ne (fun q => by rw [q, hhd] at e; cases e)]
          exact sm b o e
        · rw [take_more hz]
          exact MemD.put e2 e3 z _
      · rintro H3 ⟨sm3, m3⟩
        rw [List.length_map, List.take_length] at m3
        have s3 := s2.trans sm3
        have mt : MemD H3 td ns := by
          obtain ⟨kv, e1, e⟩ := m.ex
          exact ⟨kv, sm3 _ _ e1, e⟩
        have ftd : H td = none := s1.free htd
        have fhd : H hd = none := s2.free hhd
        refine ⟨rw, _, rfl, hrw.same s3, fun J W => ?_⟩
        refine for_it W (fun i σ H' => ∃ (v5 v6 v7 v8 v9 v10 : Option V), σ = [some (.ref rw), some (.ref nm), some (.ref fo), some (.ref td), some (.ref hd), v5, v6, v7, v8, v9, v10] ∧ Same H H' ∧ H' rw = H3 rw ∧ MemD H' td (ns ++ (rs.take i).map (·.nm)) ∧ MemD H' hd (hs ++ folderNames (rs.take i))) ⟨none, none, none, none, none, none, rfl, s3, rfl, by simpa using mt, by simpa [folderNames] using m3⟩ (fun i σ H' _ ⟨_, _, _, _, _, _, _, _, e, _⟩ => e) ?_ ?_
        · rintro i x σ H4 H5 hi ⟨v5, v6, v7, v8, v9, v10, rfl, s4, e4, mt, mh⟩ ⟨T, xi, xr, rfl, hT, rfl, exi, exr⟩
          rw [List.length_map] at hi
          have exr' : (as.map V.ref)[i]? = some xr := exr
          rw [List.getElem?_map] at exr'
          obtain ⟨ra, hra, rfl⟩ := Option.map_eq_some_iff.mp exr'
          obtain ⟨r, hr'⟩ : ∃ r, rs[i]? = some r := ⟨rs[i]'(by rw [← hrows.len]; exact hi), List.getElem?_eq_getElem _⟩
          have fit := hfit i r hr'
          obtain rfl := Option.some.inj exi
          have s5 : Same H (upd H4 T (.tup [.int (i : Nat), .ref ra])) := s4.trans (Same.new hT)
          have rr : Seq (upd H4 T (.tup [.int (i : Nat), .ref ra])) ra (rowVs r) := Seq.same (hrows.at_ i ra r hra hr') s5
          obtain ⟨kt, et, pt, lt⟩ := mt.ex
          obtain ⟨kh, eh, ph, lh⟩ := mh.ex
          have nt : td ≠ T := ne_of_none et hT
          have nh : hd ≠ T := ne_of_none eh hT
          have i100 : i < 100 := by rw [← hrows.len] at hl; omega
          refine ⟨T, _, rfl, sqT upd_same, rfl, _, _, rfl, _, _, rfl, rfl, ?_⟩
          refine ⟨_, rfl, _, rfl, _, rfl, ra, td, hd, r, kt, kh, rfl, rr, by rw [upd_ne nt]; exact et, ?_, by rw [upd_ne nh]; exact eh, ?_, fit.shape, fit.top, fit.kind, fit.price, fun H6 s6 => ?_⟩
          · have q := pt r.nm
            rw [decide_eq_false fit.new] at q
            simpa using q
          · rw [ph r.fo]
            exact decide_eq_true fit.home
          refine ⟨_, rfl, iteF ?_⟩
          refine ⟨fun σ' H' => σ' = [some (.ref rw), some (.ref nm), some (.ref fo), some (.ref td), some (.ref hd), some (.int (i : Nat)), some (.ref ra), some (.str r.nm), some (.str r.fo), some (.str r.ki), some (prV r.pr)] ∧ H' = H6, ?_, ?_⟩
          · refine ⟨_, rfl, ?_⟩
            rcases rr.same s6 with un | un
            · exact .inl ⟨ra, _, rfl, sqT un, rfl, _, _, rfl, _, _, rfl, _, _, rfl, _, _, rfl, rfl, rfl, rfl⟩
            · exact .inr ⟨ra, _, rfl, SqL.of un, rfl, _, _, rfl, _, _, rfl, _, _, rfl, _, _, rfl, rfl, rfl, rfl⟩
          rintro σ' H' ⟨rfl, rfl⟩
          have et6 : H' td = some (.dK kt) := s6 _ _ (by rw [upd_ne nt]; exact et)
          have eh6 : H' hd = some (.dK kh) := s6 _ _ (by rw [upd_ne nh]; exact eh)
          have lt' : kt.length ≤ 300 := by
            rw [List.length_append, List.length_map, List.length_take] at lt; omega
          have lh' : kh.length ≤ 300 := by
            have := folders_le (rs.take i)
            rw [List.length_take] at this
            rw [List.length_append] at lh; omega
          refine ⟨_, rfl, _, rfl, td, _, rfl, DPut.k (k := Sum.inr r.nm) et6 (small1000 (by omega)), ?_⟩
          have s7 : Same H (upd H' td (.dK (putK kt (.inr r.nm) (.bl true)))) := fun b o e => by
            rw [upd_ne (fun q => by rw [q, ftd] at e; cases e)]
            exact s6 _ _ (s5 b o e)
          have mt7 : ns ++ (rs.take (i + 1)).map (·.nm) = ns ++ (rs.take i).map (·.nm) ++ [r.nm] := by rw [take_more hr', List.map_append, List.append_assoc]; rfl
          have mT : MemD (upd H' td (.dK (putK kt (.inr r.nm) (.bl true)))) td (ns ++ (rs.take (i + 1)).map (·.nm)) := by rw [mt7]; exact MemD.put pt lt _ _
          have rw4 : H4 rw = some (.tup (as.map V.ref)) ∨ H4 rw = some (.lst (as.map V.ref)) := hrw.same s4
          have keep : ∀ {b : Addr} {o : HO}, H4 b = some o → b ≠ td → (upd H' td (.dK (putK kt (.inr r.nm) (.bl true)))) b = some o := fun {b o} e nb => by
            rw [upd_ne nb]
            exact s6 _ _ (by rw [upd_ne (ne_of_none e hT)]; exact e)
          have ert : rw ≠ td := fun q => by rcases rw4 with z | z <;> (rw [q, et] at z; cases z)
          have erh : rw ≠ hd := fun q => by rcases rw4 with z | z <;> (rw [q, eh] at z; cases z)
          have erw : (upd H' td (.dK (putK kt (.inr r.nm) (.bl true)))) rw = H3 rw := by
            rw [← e4]
            rcases rw4 with z | z <;> (rw [z]; exact keep z ert)
          refine ⟨_, rfl, rfl, _, rfl, ?_⟩
          refine ite2 (fun hk => ?_) (fun hk => ?_)
          · have hk' : r.ki = ("folder" : Str) := V.str.inj (of_decide_eq_true hk)
            refine ⟨_, rfl, _, rfl, hd, _, rfl, DPut.k (k := Sum.inr r.nm) (Eq.trans (upd_ne nth.symm) eh6) (small1000 (by omega)), ?_⟩
            refine ⟨_, _, _, _, _, _, rfl, fun b o e => ?_, ?_, mT.same (upd_ne nth), ?_⟩
            · rw [upd_ne (fun q => by rw [q, fhd] at e; cases e)]
              exact s7 b o e
            · rw [upd_ne erh]; exact erw
            · rw [fold_take hr', if_pos hk', ← List.append_assoc]
              exact MemD.put ph lh _ _
          · have hk' : ¬ r.ki = ("folder" : Str) := fun q => hk (decide_eq_true (by rw [q]))
            refine ⟨_, _, _, _, _, _, rfl, s7, erw, mT, ?_⟩
            rw [fold_take hr', if_neg hk', List.append_nil]
            exact ⟨kh, Eq.trans (upd_ne nth.symm) eh6, ph, lh⟩
        · rintro σ H4 ⟨v5, v6, v7, v8, v9, v10, rfl, s4, _⟩
          exact hq _ s4
end
end Ts

set_option maxRecDepth 100000
set_option maxHeartbeats 4000000
namespace Ts
open PySem L2
/-! ### a tree as it stands -/
theorem qf_ : ¬ (("quads" : Str) = "folders") := by decide +kernel
theorem qk_ : ¬ (("quads" : Str) = "kinds") := by decide +kernel
theorem qp_ : ¬ (("quads" : Str) = "prices") := by decide +kernel
theorem fk_ : ¬ (("folders" : Str) = "kinds") := by decide +kernel
theorem fp_ : ¬ (("folders" : Str) = "prices") := by decide +kernel
theorem kp_ : ¬ (("kinds" : Str) = "prices") := by decide +kernel
def tf (q f k p : Addr) : List (Str × V) := putF "prices" (.ref p) (putF "kinds" (.ref k) (putF "folders" (.ref f) (putF "quads" (.ref q) [])))
theorem tf_q (q f k p : Addr) : (tf q f k p).lookup ("quads" : Str) = some (.ref q) := by
  unfold tf
  rw [lookup_putF, if_neg qp_, lookup_putF, if_neg qk_, lookup_putF, if_neg qf_, lookup_putF, if_pos rfl]
theorem tf_f (q f k p : Addr) : (tf q f k p).lookup ("folders" : Str) = some (.ref f) := by
  unfold tf
  rw [lookup_putF, if_neg fp_, lookup_putF, if_neg fk_, lookup_putF, if_pos rfl]
theorem tf_k (q f k p : Addr) : (tf q f k p).lookup ("kinds" : Str) = some (.ref k) := by
  unfold tf
  rw [lookup_putF, if_neg kp_, lookup_putF, if_pos rfl]
theorem tf_p (q f k p : Addr) : (tf q f k p).lookup ("prices" : Str) = some (.ref p) := by
  unfold tf
  rw [lookup_putF, if_pos rfl]
theorem tf_no (q f k p : Addr) {m : Str} (h1 : ¬ m = "quads") (h2 : ¬ m = "folders") (h3 : ¬ m = "kinds") (h4 : ¬ m = "prices") : (tf q f k p).lookup m = none := by
  unfold tf
  rw [lookup_putF, if_neg h4, lookup_putF, if_neg h3, lookup_putF, if_neg h2, lookup_putF, if_neg h1]
  rfl
theorem putF_len (n : Str) (v : V) : ∀ l : List (Str × V), (putF n v l).length ≤ l.length + 1
  | [] => Nat.le_refl _
  | p :: r => by
    have ih := putF_len n v r
    show (if p.1 = n then (p.1, v) :: r else p :: putF n v r).length ≤ _
    split
    · exact Nat.le_succ _
    · rw [List.length_cons, List.length_cons]; omega
def kvF (g : Row → V) (l : List Row) : List (Key × V) := l.map fun r => (.inr r.nm, g r)
theorem valV_kvF (g : Row → V) (z : Str) : ∀ l : List Row, valV (kvF g l) (.inr z : Key) = (l.find? fun r => decide (r.nm = z)).map g
  | [] => rfl
  | r :: l => by
    have ih := valV_kvF g z l
    by_cases e : r.nm = z
    · show valV ((.inr r.nm, g r) :: kvF g l) (.inr z : Key) = _
      rw [valV_pos (by rw [e]), List.find?_cons_of_pos (by simpa using e)]
      rfl
    · show valV ((.inr r.nm, g r) :: kvF g l) (.inr z : Key) = _
      rw [valV_neg (fun q => e (Sum.inr.inj q)), List.find?_cons_of_neg (by simpa using e)]
      exact ih
theorem find_none {l : List Row} {z : Str} (h : z ∉ l.map (·.nm)) : (l.find? fun r => decide (r.nm = z)) = none := by
  rw [List.find?_eq_none]
  intro r hr
  simp only [decide_eq_true_eq]
  exact fun q => h (List.mem_map.mpr ⟨r, hr, q⟩)
theorem kvF_more {g : Row → V} {rs : List Row} {i : Nat} {r : Row} (h : rs[i]? = some r) (hn : r.nm ∉ (rs.take i).map (·.nm)) : putK (kvF g (rs.take i)) (.inr r.nm) (g r) = kvF g (rs.take (i + 1)) := by
  rw [putK_new _ (by rw [valV_kvF, find_none hn]; rfl), take_more h]
  unfold kvF
  rw [List.map_append]
  rfl
structure TreeAt (C : Addr) (H : Hp) (t : Addr) (rs : List Row) : Prop where
  ex : ∃ (dx q f k p : Addr) (qs : List Addr), H t = some (.ins C dx (tf q f k p)) ∧ H q = some (.tup (qs.map V.ref)) ∧ RowsAt H qs rs ∧ H f = some (.dK (kvF (fun r => .str r.fo) rs)) ∧ H k = some (.dK (kvF (fun r => .str r.ki) rs)) ∧ H p = some (.dK (kvF (fun r => prV r.pr) rs))
  val : Valid rs
  len : rs.length ≤ 100
theorem TreeAt.same {C : Addr} {H H' : Hp} {t : Addr} {rs : List Row} (h : TreeAt C H t rs) (s : Same H H') : TreeAt C H' t rs := by
  obtain ⟨dx, q, f, k, p, qs, h1, h2, h3, h4, h5, h6⟩ := h.ex
  exact ⟨⟨dx, q, f, k, p, qs, s _ _ h1, s _ _ h2, h3.same s, s _ _ h4, s _ _ h5, s _ _ h6⟩, h.val, h.len⟩
structure TxT (K : PySem.W.Frag) (mg : Str → Option Value) (C : Addr) : Prop where
  cl : Cls K C
  nq : NoAttr K C "quads"
  nf : NoAttr K C "folders"
  nk : NoAttr K C "kinds"
  np : NoAttr K C "prices"
  g : mg "Tree" = some (.ref C)
def rTupOf (K : PySem.W.Frag) : List V → Hp → VK → Prop := fun xs H Q => ∃ p ys, xs = [V.ref p] ∧ ((SqL K H p ys ∧ ∀ l, H l = none → Q (V.ref l) (upd H l (.tup ys))) ∨ (SqT K H p ys ∧ Q (V.ref p) H))
def spTreeInit (C : Addr) : Sp := fun vs H Q _ => ∃ (t dx rw : Addr) (as : List Addr) (rs : List Row), vs = [.ref t, .ref rw] ∧ H t = some (.ins C dx []) ∧ Seq H rw (as.map V.ref) ∧ SeqRows H as rs ∧ rs.length ≤ 100 ∧ Valid rs ∧
  ∀ H', SB t H H' → TreeAt C H' t rs → Q .non H'
section
variable {P : Program} {w : World} {K : PySem.W.Frag} {mg : Str → Option Value} {base : Heap} {C : Addr}
abbrev nTreeInit : List Str := ["self", "rows", "row", "name", "folder", "kind", "price"]
theorem sc_Tree_init : FnScope nTreeInit ["self", "rows"] (defScope s_Tree_init) := ⟨rfl, rfl, rfl, by decide +kernel, rfl, by decide +kernel, by decide +kernel⟩
theorem ok_Tree_init {f : Addr} {fd : FuncData} (F : Fun K "__init__" "Tree.__init__" s_Tree_init f fd) (Dc : DefAt K mg "check_rows" s_check_rows ["rows", "names", "folders"]) (Gc : FnOk P w K mg base CX0 4 Dc.f Dc.fd ["rows", "names", "folders"] (spCheckRows K)) (B : TxB mg) (TC : TxC K mg) (T : TxT K mg C) :
    FnOk P w K mg base CX0 5 f fd ["self", "rows"] (spTreeInit C) := by
  obtain ⟨t1, gT⟩ := TC.top
  refine F.ok sc_Tree_init (fun vs H Q E h => ?_) (fun cdv A outer s H vs Q E hr h => ?_)
  · obtain ⟨t, dx, rw, as, rs, rfl, _⟩ := h
    rfl
  · obtain ⟨t, dx, rw, as, rs, rfl, ht, hrw, hrows, hl, hv, hq⟩ := h
    refine ⟨_, pss_cons (ps_expr (pe_call Gc hr rfl Dc.g Dc.F.kp Dc.b .nil pass0 (pa_cons (pv 1) (pa_cons (pe_tup pa_nil) (pa_cons (pe_tup (pa_cons (pe_glob (by rfl) gT (v := .str ("top" : Str)) ⟨_, rfl⟩) pa_nil)) pa_nil)))))
      (pss_cons (ps_fld (pv 0) (pe_callTy call_tuple_of (by rfl) B.tuple (by decide +kernel) (pa_cons (pe_lc (own := [("row", 2)]) (g := gName 2) (tt := tYes) (te := tCB (rTupOf K) (tCons (tVar 2) tNil)) rfl sc_Tree_init.nd (pi_seqS (i := 1) (pv 1)) (blkOk_by (N := nTreeInit) (sc := defScope s_Tree_init) (by decide +kernel))
          (fun _ _ _ _ _ => pg_name (i := 2) sc_Tree_init.nd rfl (Or.inl rfl)) (fun _ _ _ _ _ => pts_nil) (fun _ _ _ _ _ => by exact pe_callTy (T := "tuple") call_tuple_of (by rfl) B.tuple (by decide +kernel) (pa_cons (pv 2) pa_nil))) pa_nil)) rfl)
      (pss_cons (ps_fld (pv 0) (pe_dc (own := [("name", 3), ("folder", 4), ("kind", 5), ("price", 6)]) (g := gTup K 4 (gCons (gName 3) (gCons (gName 4) (gCons (gName 5) (gCons (gName 6) gNil))))) (tt := tYes) rfl sc_Tree_init.nd (pi_tup (pe_fld (pv 0) rfl)) (blkOk_by (N := nTreeInit) (sc := defScope s_Tree_init) (by decide +kernel))
          (fun _ _ _ _ _ => by exact pg_tup rfl (pgs_cons (pg_name (i := 3) sc_Tree_init.nd rfl (.inl rfl)) (pgs_cons (pg_name (i := 4) sc_Tree_init.nd rfl (.inl rfl)) (pgs_cons (pg_name (i := 5) sc_Tree_init.nd rfl (.inl rfl)) (pgs_cons (pg_name (i := 6) sc_Tree_init.nd rfl (.inl rfl)) pgs_nil))))) (fun _ _ _ _ _ => pts_nil) (fun _ _ _ _ _ => pv 3) (fun _ _ _ _ _ => pv 4)) rfl)
      (pss_cons (ps_fld (pv 0) (pe_dc (own := [("name", 3), ("folder", 4), ("kind", 5), ("price", 6)]) (g := gTup K 4 (gCons (gName 3) (gCons (gName 4) (gCons (gName 5) (gCons (gName 6) gNil))))) (tt := tYes) rfl sc_Tree_init.nd (pi_tup (pe_fld (pv 0) rfl)) (blkOk_by (N := nTreeInit) (sc := defScope s_Tree_init) (by decide +kernel))
          (fun _ _ _ _ _ => by exact pg_tup rfl (pgs_cons (pg_name (i := 3) sc_Tree_init.nd rfl (.inl rfl)) (pgs_cons (pg_name (i := 4) sc_Tree_init.nd rfl (.inl rfl)) (pgs_cons (pg_name (i := 5) sc_Tree_init.nd rfl (.inl rfl)) (pgs_cons (pg_name (i := 6) sc_Tree_init.nd rfl (.inl rfl)) pgs_nil))))) (fun _ _ _ _ _ => pts_nil) (fun _ _ _ _ _ => pv 3) (fun _ _ _ _ _ => pv 5)) rfl)
      (pss_one (ps_fld (pv 0) (pe_dc (own := [("name", 3), ("folder", 4), ("kind", 5), ("price", 6)]) (g := gTup K 4 (gCons (gName 3) (gCons (gName 4) (gCons (gName 5) (gCons (gName 6) gNil))))) (tt := tYes) rfl sc_Tree_init.nd (pi_tup (pe_fld (pv 0) rfl)) (blkOk_by (N := nTreeInit) (sc := defScope s_Tree_init) (by decide +kernel))
          (fun _ _ _ _ _ => by exact pg_tup rfl (pgs_cons (pg_name (i := 3) sc_Tree_init.nd rfl (.inl rfl)) (pgs_cons (pg_name (i := 4) sc_Tree_init.nd rfl (.inl rfl)) (pgs_cons (pg_name (i := 5) sc_Tree_init.nd rfl (.inl rfl)) (pgs_cons (pg_name (i := 6) sc_Tree_init.nd rfl (.inl rfl)) pgs_nil))))) (fun _ _ _ _ _ => pts_nil) (fun _ _ _ _ _ => pv 3) (fun _ _ _ _ _ => pv 6)) rfl))))), ?_⟩
    refine ⟨_, rfl, Nat.zero_le _, fun u1 hu1 => ⟨(by show 1 ≤ sizeLine; decide), fun u2 hu2 => ?_⟩⟩
    have s0 : Same H (upd (upd H u1 (.tup [])) u2 (.tup [V.str ("top" : Str)])) := (Same.new hu1).trans (Same.new hu2)
    have n12 : u1 ≠ u2 := fun q => by rw [← q, upd_same] at hu2; cases hu2
    refine ⟨rw, u1, u2, [], [("top" : Str)], as, rs, rfl, hrw.same s0, hrows.same s0, sqT (by rw [upd_ne n12]; exact upd_same), sqT upd_same, hl, Nat.zero_le _, (by decide), fun i r h => (hv i r h).b, fun H1 s1 => ?_⟩
    have s01 := s0.trans s1
    have hq1 := hrw.same s01
    refine ⟨rw, _, rfl, hq1, fun J W => fun D hD => ?_⟩
    refine lc_it W (fun i H' => ∃ qs : List Addr, Same H1 H' ∧ RowsAt H' qs (rs.take i) ∧ H' D = some (.lst (qs.map V.ref))) ⟨[], Same.new hD, RowsAt.nil, upd_same⟩ (fun i H' _ ⟨_, sm, _, _⟩ => ?_) ?_ ?_
    · rcases hq1 with z | z <;> rw [z] <;> exact sm _ _ z
    · rintro i x H2 H2' hi ⟨qs, sm, rq, hD2⟩ ⟨rfl, hx⟩
      rw [List.length_map] at hi
      rw [List.getElem?_map] at hx
      obtain ⟨ra, hra, rfl⟩ := Option.map_eq_some_iff.mp hx
      obtain ⟨r, hr'⟩ : ∃ r, rs[i]? = some r := ⟨rs[i]'(by rw [← hrows.len]; exact hi), List.getElem?_eq_getElem _⟩
      have rr : Seq H2' ra (rowVs r) := Seq.same (hrows.at_ i ra r hra hr') (s01.trans sm)
      have sz : (qs.map V.ref).length < sizeLine := small1000 (by rw [List.length_map, rq.len, List.length_take]; omega)
      have fin : ∀ (l : Addr) (H3 : Hp), H3 l = some (.tup (rowVs r)) → Same H2' H3 → ∃ qs' : List Addr, Same H1 (upd H3 D (.lst (qs.map V.ref ++ [V.ref l]))) ∧ RowsAt (upd H3 D (.lst (qs.map V.ref ++ [V.ref l]))) qs' (rs.take (i + 1)) ∧ (upd H3 D (.lst (qs.map V.ref ++ [V.ref l]))) D = some (.lst (qs'.map V.ref)) := by
        intro l H3 hl3 s3
        have kt : ∀ {b : Addr} {xs : List V}, H3 b = some (.tup xs) → (upd H3 D (.lst (qs.map V.ref ++ [V.ref l]))) b = some (.tup xs) := fun {b xs} h => by
          rw [upd_ne (fun q => by rw [q, s3 _ _ hD2] at h; cases h)]
          exact h
        refine ⟨qs ++ [l], fun b o e => ?_, ?_, ?_⟩
        · rw [upd_ne (fun q => by rw [q, hD] at e; cases e)]
          exact s3 _ _ (sm _ _ e)
        · rw [take_more hr']
          exact RowsAt.snoc ⟨rq.len, fun j b q hb hq' => kt (s3 _ _ (rq.at_ j b q hb hq'))⟩ (kt hl3)
        · rw [upd_same, List.map_append]; rfl
      refine ⟨rfl, tYes_if ⟨_, rfl, ra, rowVs r, rfl, ?_⟩⟩
      rcases rr with z | z
      · exact .inr ⟨sqT z, qs.map V.ref, hD2, sz, fin ra _ z (Same.refl _)⟩
      · exact .inl ⟨SqL.of z, fun l hl' => ⟨qs.map V.ref, (Same.new hl') _ _ hD2, sz, fin l _ upd_same (Same.new hl')⟩⟩
    · rintro H2 ⟨qs, sm, rq, hD2⟩
      rw [List.length_map, hrows.len, List.take_length] at rq
      refine ⟨D, _, rfl, .inl ⟨SqL.of hD2, fun q hq' => ?_⟩⟩
      have fresh_t : ∀ {b : Addr} {o : HO}, H t = some o → H2 t = some o := fun {b o} e => sm _ _ (s01 _ _ e)
      have ht2 : H2 t = some (.ins C dx []) := sm _ _ (s01 _ _ ht)
      have tq : t ≠ q := ne_of_none ht2 hq'
      refine ⟨_, rfl, t, C, dx, _, rfl, Eq.trans (upd_ne tq) ht2, T.cl, T.nq, (by show 0 < 1000; decide), ?_⟩
      obtain ⟨aH, aE⟩ : ∃ Hx, Hx = upd (upd H2 q (.tup (qs.map V.ref))) t (.ins C dx (putF "quads" (.ref q) [])) := ⟨_, rfl⟩
      have at_ : aH t = some (.ins C dx (putF "quads" (.ref q) [])) := by rw [aE]; exact upd_same
      have aq : aH q = some (.tup (qs.map V.ref)) := by rw [aE, upd_ne tq.symm]; exact upd_same
      have keepA : ∀ b o, b ≠ t → H2 b = some o → aH b = some o := fun b o nb e => by rw [aE, upd_ne nb, upd_ne (ne_of_none e hq')]; exact e
      have nt : ∀ {b : Addr} {xs : List V}, H2 b = some (.tup xs) → b ≠ t := fun {b xs} e y => by rw [y, ht2] at e; cases e
      have ar : RowsAt aH qs rs := ⟨rq.len, fun j b r hb hr => keepA _ _ (nt (rq.at_ j b r hb hr)) (rq.at_ j b r hb hr)⟩
      have asb : SB t H aH := fun b o nb e => keepA b o nb (sm b o (s01 b o e))
      rw [← aE]
      clear aE keepA

      refine ⟨_, rfl, t, C, dx, _, _, rfl, at_, T.cl, T.nq, (by rw [lookup_putF, if_pos rfl]), q, rfl, ⟨_, sqT aq⟩, fun DF hDF => ?_⟩
      refine dc_tup (K := K) (a := q) (xs := qs.map V.ref) (fun i H' => Same aH H' ∧ H' DF = some (.dK (kvF (fun r => V.str r.fo) (rs.take i)))) ⟨Same.new hDF, upd_same⟩ (fun i H' _ m => sqT (m.1 _ _ aq)) ?_ ?_
      · rintro i x H' hx ⟨sm, hDi⟩
        rw [List.getElem?_map] at hx
        obtain ⟨qa, hqa, rfl⟩ := Option.map_eq_some_iff.mp hx
        obtain ⟨r, hr'⟩ : ∃ r, rs[i]? = some r := ⟨rs[i]'(by rw [← rq.len]; exact (List.getElem?_eq_some_iff.mp hqa).1), List.getElem?_eq_getElem _⟩
        have e := sm _ _ (ar.at_ i qa r hqa hr')
        refine ⟨qa, _, rfl, sqT e, rfl, _, _, rfl, _, _, rfl, _, _, rfl, _, _, rfl, rfl, rfl, tYes_if ⟨_, rfl, _, rfl, _, .inr r.nm, rfl, hDi, small1000 (by unfold kvF; rw [List.length_map, List.length_take]; omega), fun b o e => ?_, ?_⟩⟩
        · rw [upd_ne (fun y => by rw [y, hDF] at e; cases e)]
          exact sm b o e
        · rw [upd_same]
          exact congrArg (fun l => some (HO.dK l)) (kvF_more (g := (fun r => V.str r.fo)) hr' (hv i r hr').new)
      rintro H5 ⟨sm, hDD⟩
      rw [List.length_map, rq.len, List.take_length] at hDD
      refine ⟨_, rfl, t, C, dx, _, rfl, sm _ _ at_, T.cl, T.nf, ?_, ?_⟩
      · exact Nat.lt_of_le_of_lt (putF_len _ _ _) (by decide)
      obtain ⟨cH, cE⟩ : ∃ Hx, Hx = upd H5 t (.ins C dx (putF "folders" (.ref DF) (putF "quads" (.ref q) []))) := ⟨_, rfl⟩
      have ct : cH t = some (.ins C dx (putF "folders" (.ref DF) (putF "quads" (.ref q) []))) := by rw [cE]; exact upd_same
      have keepX : ∀ b o, b ≠ t → aH b = some o → cH b = some o := fun b o nb e => by rw [cE, upd_ne nb]; exact sm b o e
      have cq : cH q = some (.tup (qs.map V.ref)) := keepX _ _ tq.symm aq
      have cr : RowsAt cH qs rs := ⟨rq.len, fun j b r hb hr => keepX _ _ (nt (rq.at_ j b r hb hr)) (ar.at_ j b r hb hr)⟩
      have csb : SB t H cH := fun b o nb e => keepX b o nb (asb b o nb e)
      have nDF : DF ≠ t := fun y => by rw [y, at_] at hDF; cases hDF
      have cF : cH DF = some (.dK (kvF (fun r => V.str r.fo) rs)) := by rw [cE, upd_ne nDF]; exact hDD
      rw [← cE]
      clear cE keepX sm hDD H5

      refine ⟨_, rfl, t, C, dx, _, _, rfl, ct, T.cl, T.nq, (by rw [lookup_putF, if_neg qf_, lookup_putF, if_pos rfl]), q, rfl, ⟨_, sqT cq⟩, fun DK hDK => ?_⟩
      refine dc_tup (K := K) (a := q) (xs := qs.map V.ref) (fun i H' => Same cH H' ∧ H' DK = some (.dK (kvF (fun r => V.str r.ki) (rs.take i)))) ⟨Same.new hDK, upd_same⟩ (fun i H' _ m => sqT (m.1 _ _ cq)) ?_ ?_
      · rintro i x H' hx ⟨sm, hDi⟩
        rw [List.getElem?_map] at hx
        obtain ⟨qa, hqa, rfl⟩ := Option.map_eq_some_iff.mp hx
        obtain ⟨r, hr'⟩ : ∃ r, rs[i]? = some r := ⟨rs[i]'(by rw [← rq.len]; exact (List.getElem?_eq_some_iff.mp hqa).1), List.getElem?_eq_getElem _⟩
        have e := sm _ _ (cr.at_ i qa r hqa hr')
        refine ⟨qa, _, rfl, sqT e, rfl, _, _, rfl, _, _, rfl, _, _, rfl, _, _, rfl, rfl, rfl, tYes_if ⟨_, rfl, _, rfl, _, .inr r.nm, rfl, hDi, small1000 (by unfold kvF; rw [List.length_map, List.length_take]; omega), fun b o e => ?_, ?_⟩⟩
        · rw [upd_ne (fun y => by rw [y, hDK] at e; cases e)]
          exact sm b o e
        · rw [upd_same]
          exact congrArg (fun l => some (HO.dK l)) (kvF_more (g := (fun r => V.str r.ki)) hr' (hv i r hr').new)
      rintro H5 ⟨sm, hDD⟩
      rw [List.length_map, rq.len, List.take_length] at hDD
      refine ⟨_, rfl, t, C, dx, _, rfl, sm _ _ ct, T.cl, T.nk, ?_, ?_⟩
      · exact Nat.lt_of_le_of_lt (Nat.le_trans (putF_len _ _ _) (Nat.succ_le_succ (putF_len _ _ _))) (by decide)
      obtain ⟨dH, dE⟩ : ∃ Hx, Hx = upd H5 t (.ins C dx (putF "kinds" (.ref DK) (putF "folders" (.ref DF) (putF "quads" (.ref q) [])))) := ⟨_, rfl⟩
      have dt : dH t = some (.ins C dx (putF "kinds" (.ref DK) (putF "folders" (.ref DF) (putF "quads" (.ref q) [])))) := by rw [dE]; exact upd_same
      have keepX : ∀ b o, b ≠ t → cH b = some o → dH b = some o := fun b o nb e => by rw [dE, upd_ne nb]; exact sm b o e
      have dq : dH q = some (.tup (qs.map V.ref)) := keepX _ _ tq.symm cq
      have dr : RowsAt dH qs rs := ⟨rq.len, fun j b r hb hr => keepX _ _ (nt (rq.at_ j b r hb hr)) (cr.at_ j b r hb hr)⟩
      have dsb : SB t H dH := fun b o nb e => keepX b o nb (csb b o nb e)
      have nDK : DK ≠ t := fun y => by rw [y, ct] at hDK; cases hDK
      have dK : dH DK = some (.dK (kvF (fun r => V.str r.ki) rs)) := by rw [dE, upd_ne nDK]; exact hDD
      have dF : dH DF = some (.dK (kvF (fun r => V.str r.fo) rs)) := keepX _ _ nDF cF
      rw [← dE]
      clear dE keepX sm hDD H5

      refine ⟨_, rfl, t, C, dx, _, _, rfl, dt, T.cl, T.nq, (by rw [lookup_putF, if_neg qk_, lookup_putF, if_neg qf_, lookup_putF, if_pos rfl]), q, rfl, ⟨_, sqT dq⟩, fun DP hDP => ?_⟩
      refine dc_tup (K := K) (a := q) (xs := qs.map V.ref) (fun i H' => Same dH H' ∧ H' DP = some (.dK (kvF (fun r => prV r.pr) (rs.take i)))) ⟨Same.new hDP, upd_same⟩ (fun i H' _ m => sqT (m.1 _ _ dq)) ?_ ?_
      · rintro i x H' hx ⟨sm, hDi⟩
        rw [List.getElem?_map] at hx
        obtain ⟨qa, hqa, rfl⟩ := Option.map_eq_some_iff.mp hx
        obtain ⟨r, hr'⟩ : ∃ r, rs[i]? = some r := ⟨rs[i]'(by rw [← rq.len]; exact (List.getElem?_eq_some_iff.mp hqa).1), List.getElem?_eq_getElem _⟩
        have e := sm _ _ (dr.at_ i qa r hqa hr')
        refine ⟨qa, _, rfl, sqT e, rfl, _, _, rfl, _, _, rfl, _, _, rfl, _, _, rfl, rfl, rfl, tYes_if ⟨_, rfl, _, rfl, _, .inr r.nm, rfl, hDi, small1000 (by unfold kvF; rw [List.length_map, List.length_take]; omega), fun b o e => ?_, ?_⟩⟩
        · rw [upd_ne (fun y => by rw [y, hDP] at e; cases e)]
          exact sm b o e
        · rw [upd_same]
          exact congrArg (fun l => some (HO.dK l)) (kvF_more (g := (fun r => prV r.pr)) hr' (hv i r hr').new)
      rintro H5 ⟨sm, hDD⟩
      rw [List.length_map, rq.len, List.take_length] at hDD
      refine ⟨_, rfl, t, C, dx, _, rfl, sm _ _ dt, T.cl, T.np, ?_, ?_⟩
      · exact Nat.lt_of_le_of_lt (Nat.le_trans (putF_len _ _ _) (Nat.succ_le_succ (Nat.le_trans (putF_len _ _ _) (Nat.succ_le_succ (putF_len _ _ _))))) (by decide)
      obtain ⟨eH, eE⟩ : ∃ Hx, Hx = upd H5 t (.ins C dx (putF "prices" (.ref DP) (putF "kinds" (.ref DK) (putF "folders" (.ref DF) (putF "quads" (.ref q) []))))) := ⟨_, rfl⟩
      have et : eH t = some (.ins C dx (putF "prices" (.ref DP) (putF "kinds" (.ref DK) (putF "folders" (.ref DF) (putF "quads" (.ref q) []))))) := by rw [eE]; exact upd_same
      have keepX : ∀ b o, b ≠ t → dH b = some o → eH b = some o := fun b o nb e => by rw [eE, upd_ne nb]; exact sm b o e
      have eq : eH q = some (.tup (qs.map V.ref)) := keepX _ _ tq.symm dq
      have er : RowsAt eH qs rs := ⟨rq.len, fun j b r hb hr => keepX _ _ (nt (rq.at_ j b r hb hr)) (dr.at_ j b r hb hr)⟩
      have esb : SB t H eH := fun b o nb e => keepX b o nb (dsb b o nb e)
      have nDP : DP ≠ t := fun y => by rw [y, dt] at hDP; cases hDP
      have eP : eH DP = some (.dK (kvF (fun r => prV r.pr) rs)) := by rw [eE, upd_ne nDP]; exact hDD
      have eF : eH DF = some (.dK (kvF (fun r => V.str r.fo) rs)) := keepX _ _ nDF dF
      have eK : eH DK = some (.dK (kvF (fun r => V.str r.ki) rs)) := keepX _ _ nDK dK
      rw [← eE]
      clear eE keepX sm hDD H5
      exact hq eH esb ⟨⟨dx, q, DF, DK, DP, qs, et, eq, er, eF, eK, eP⟩, hv, hl⟩
end
end Ts

set_option maxRecDepth 100000
set_option maxHeartbeats 4000000
namespace Ts
open PySem L2
/-! ### rows as data -/
def prD : Option Int → PyData
  | none => .none
  | some i => .int i
def rowD (r : Row) : PyData := .tuple [.str r.nm, .str r.fo, .str r.ki, prD r.pr]
theorem prD_ok {K : PySem.W.Frag} {H : Hp} (o : Option Int) : Dp K H (prV o) (prD o) := by
  cases o with
  | none => exact .non
  | some i => exact .int i
theorem row_dp {K : PySem.W.Frag} {H : Hp} {a : Addr} {r : Row} (h : H a = some (.tup (rowVs r))) : Dp K H (.ref a) (rowD r) :=
  .tup (sqT h) (.cons (.str _) (.cons (.str _) (.cons (.str _) (.cons (prD_ok _) .nil))))
theorem rows_dp {K : PySem.W.Frag} {H : Hp} : ∀ {as : List Addr} {rs : List Row}, RowsAt H as rs → DpAll K H (as.map V.ref) (rs.map rowD)
  | [], [], _ => .nil
  | [], _ :: _, h => by have := h.len; simp at this
  | _ :: _, [], h => by have := h.len; simp at this
  | a :: as, r :: rs, h => .cons (row_dp (h.at_ 0 a r rfl rfl)) (rows_dp ⟨by simpa using h.len, fun i b q hb hq => h.at_ (i + 1) b q (by simpa using hb) (by simpa using hq)⟩)
theorem str_beq (x y : Str) : (x == y) = decide (x = y) := by
  by_cases h : x = y
  · subst h; simp
  · rw [decide_eq_false h]; exact beq_eq_false_iff_ne.mpr h
theorem prD_eqv (a b : Option Int) : PyData.eqv (prD a) (prD b) = decide (a = b) := by
  cases a <;> cases b <;> simp [prD, PyData.eqv]
  rename_i i j
  by_cases h : i = j <;> simp [h]
theorem row_eqv (a b : Row) : PyData.eqv (rowD a) (rowD b) = decide (a = b) := by
  obtain ⟨n1, f1, k1, p1⟩ := a
  obtain ⟨n2, f2, k2, p2⟩ := b
  unfold rowD
  simp only [PyData.eqv, PyData.eqvAll, prD_eqv, str_beq, Bool.and_true]
  by_cases h1 : n1 = n2 <;> by_cases h2 : f1 = f2 <;> by_cases h3 : k1 = k2 <;> by_cases h4 : p1 = p2 <;> simp [h1, h2, h3, h4]
theorem rows_eqv : ∀ (a b : List Row), PyData.eqvAll (a.map rowD) (b.map rowD) = decide (a = b)
  | [], [] => by simp [PyData.eqvAll]
  | [], _ :: _ => by simp [PyData.eqvAll]
  | _ :: _, [] => by simp [PyData.eqvAll]
  | x :: a, y :: b => by
    simp only [List.map_cons, PyData.eqvAll, row_eqv, rows_eqv a b]
    by_cases h1 : x = y <;> by_cases h2 : a = b <;> simp [h1, h2]
theorem low_ok {z : Str} (h : ∀ c ∈ z.cps.toList, c ≤ 122) : PyData.strOk z = true := by
  unfold PyData.strOk
  rw [← Array.all_toList, List.all_eq_true]
  intro c hc
  have := h c hc
  exact decide_eq_true (by omega)
theorem top_ok : PyData.strOk ("top" : Str) = true := by decide +kernel
theorem kinds_ok : ∀ k ∈ kinds3, PyData.strOk k = true := by decide +kernel
structure RowOk (r : Row) : Prop where
  n : PyData.strOk r.nm = true
  f : PyData.strOk r.fo = true
  k : PyData.strOk r.ki = true
theorem rowD_lay {r : Row} (h : RowOk r) : (rowD r).canLay0 = true := by
  obtain ⟨h1, h2, h3⟩ := h
  obtain ⟨n, f, k, p⟩ := r
  cases p <;> simp_all [rowD, prD, PyData.canLay0, PyData.canLayAll0]
theorem rowD_depth (r : Row) : (rowD r).depth = 1 := by
  obtain ⟨n, f, k, p⟩ := r
  cases p <;> simp [rowD, prD, PyData.depth, PyData.depthAll]
theorem rows_lay : ∀ (rs : List Row), (∀ r ∈ rs, RowOk r) → PyData.canLayAll0 (rs.map rowD) = true
  | [], _ => by simp [PyData.canLayAll0]
  | r :: rs, h => by
    simp only [List.map_cons, PyData.canLayAll0, rowD_lay (h r (List.mem_cons_self ..)), rows_lay rs (fun q hq => h q (List.mem_cons_of_mem _ hq)), Bool.and_self]
theorem rows_depth : ∀ (rs : List Row), PyData.depthAll (rs.map rowD) ≤ 1
  | [] => by simp [PyData.depthAll]
  | r :: rs => by
    have ih := rows_depth rs
    simp only [List.map_cons, PyData.depthAll, rowD_depth]
    omega
theorem shaped_tup {rs : List Row} (h : ∀ r ∈ rs, RowOk r) : SeqAt.shaped (.tuple (rs.map rowD)) = true := by
  have q := rows_depth rs
  unfold SeqAt.shaped
  rw [Bool.and_eq_true]
  refine ⟨by simp only [PyData.canLay0]; exact rows_lay rs h, decide_eq_true ?_⟩
  simp only [PyData.depth]
  omega
theorem shaped_lst {rs : List Row} (h : ∀ r ∈ rs, RowOk r) : SeqAt.shaped (.list (rs.map rowD)) = true := by
  have q := rows_depth rs
  unfold SeqAt.shaped
  rw [Bool.and_eq_true]
  refine ⟨by simp only [PyData.canLay0]; exact rows_lay rs h, decide_eq_true ?_⟩
  simp only [PyData.depth]
  omega
theorem shaped_row {r : Row} (h : RowOk r) : SeqAt.shaped (rowD r) = true := by
  simp only [SeqAt.shaped, rowD_lay h, rowD_depth, Bool.true_and]
  decide
theorem low_sok {z : Str} (h : Low z) : PyData.strOk z = true := low_ok fun c hc => (h c hc).2
theorem Valid.ok {rs : List Row} (h : Valid rs) : ∀ r ∈ rs, RowOk r := by
  intro r hr
  obtain ⟨i, hi, rfl⟩ := List.mem_iff_getElem.mp hr
  have f := h i rs[i] (List.getElem?_eq_getElem hi)
  refine ⟨low_sok f.shape.2, ?_, kinds_ok _ f.kind⟩
  rcases f.home with e | ⟨q, hq, e, _⟩
  · rw [e]; exact top_ok
  · obtain ⟨j, hj, rfl⟩ := List.mem_iff_getElem.mp (List.mem_of_mem_take hq)
    rw [← e]
    exact low_sok (h j rs[j] (List.getElem?_eq_getElem hj)).shape.2
/-! ### promises of the methods -/
def names (rs : List Row) : List Str := rs.map (·.nm)
def rowOf (rs : List Row) (z : Str) : Option Row := rs.find? fun r => decide (r.nm = z)
theorem rowOf_some {rs : List Row} {z : Str} (h : z ∈ names rs) : ∃ r, rowOf rs z = some r ∧ r ∈ rs ∧ r.nm = z := by
  unfold rowOf
  obtain ⟨q, hq, e⟩ := List.mem_map.mp h
  cases e1 : rs.find? fun r => decide (r.nm = z) with
  | none =>
    rw [List.find?_eq_none] at e1
    exact absurd (decide_eq_true e) (e1 q hq)
  | some r => exact ⟨r, rfl, List.mem_of_find?_eq_some e1, of_decide_eq_true (List.find?_some (p := fun (r : Row) => decide (r.nm = z)) e1)⟩
def spLen (C : Addr) : Sp := fun vs H Q _ => ∃ (t : Addr) (rs : List Row), vs = [.ref t] ∧ TreeAt C H t rs ∧ Q (.int rs.length) H
def Other (K : PySem.W.Frag) (H : Hp) (x : V) (c : Value) : Prop := ∃ ty, TyX K H x ty ∧ PySem.W.kitOne K ty c = some false
def spContains (K : PySem.W.Frag) (C : Addr) : Sp := fun vs H Q _ => ∃ (t : Addr) (x : V) (rs : List Row), vs = [.ref t, x] ∧ TreeAt C H t rs ∧
  ((∃ z, x = .str z ∧ Q (.bl (decide (z ∈ names rs))) H) ∨ (Other K H x (.type "str") ∧ Q (.bl false) H))
def spEqT (K : PySem.W.Frag) (C : Addr) : Sp := fun vs H Q _ => ∃ (t : Addr) (x : V) (rs : List Row), vs = [.ref t, x] ∧ TreeAt C H t rs ∧
  ((∃ (u : Addr) (qs : List Row), x = .ref u ∧ TreeAt C H u qs ∧ Q (.bl (decide (rs = qs))) H) ∨ (Other K H x (.ref C) ∧ Q (.bl false) H))
def spRowsM (C : Addr) : Sp := fun vs H Q _ => ∃ (t : Addr) (rs : List Row), vs = [.ref t] ∧ TreeAt C H t rs ∧ ∀ p (qs : List Addr), H p = none → RowsAt H qs rs → Q (.ref p) (upd H p (.lst (qs.map V.ref)))
def spBox (C : Addr) : Sp := fun vs H Q _ => ∃ (t : Addr) (z : Str) (rs : List Row), vs = [.ref t, .str z] ∧ TreeAt C H t rs ∧ z ∈ names rs ∧ Q .non H
def spIsPlace (C : Addr) : Sp := fun vs H Q _ => ∃ (t : Addr) (z : Str) (rs : List Row), vs = [.ref t, .str z] ∧ TreeAt C H t rs ∧ Q (.bl (decide (z = ("top" : Str) ∨ z ∈ names rs))) H
def spPlace (C : Addr) : Sp := fun vs H Q _ => ∃ (t : Addr) (z : Str) (rs : List Row), vs = [.ref t, .str z] ∧ TreeAt C H t rs ∧ (z = ("top" : Str) ∨ z ∈ names rs) ∧ Q .non H
def spGet (C : Addr) (g : Row → V) : Sp := fun vs H Q _ => ∃ (t : Addr) (z : Str) (rs : List Row) (r : Row), vs = [.ref t, .str z] ∧ TreeAt C H t rs ∧ rowOf rs z = some r ∧ Q (g r) H
section
variable {P : Program} {w : World} {K : PySem.W.Frag} {mg : Str → Option Value} {base : Heap} {C : Addr}
theorem sc_Tree_len : FnScope ["self"] ["self"] (defScope s_Tree_len) := ⟨rfl, rfl, rfl, by decide +kernel, rfl, by decide +kernel, by decide +kernel⟩
theorem ok_Tree_len {f : Addr} {fd : FuncData} (F : Fun K "__len__" "Tree.__len__" s_Tree_len f fd) (B : TxB mg) (T : TxT K mg C) : FnOk P w K mg base CX0 2 f fd ["self"] (spLen C) := by
  refine F.ok sc_Tree_len (fun vs H Q E h => ?_) (fun cdv A outer s H vs Q E hr h => ?_)
  · obtain ⟨t, rs, rfl, _⟩ := h
    rfl
  · obtain ⟨t, rs, rfl, ht, hq⟩ := h
    obtain ⟨dx, q, f, k, p, qs, h1, h2, h3, h4, h5, h6⟩ := ht.ex
    refine ⟨_, pss_one (ps_ret (pe_callB call_len_seq (by rfl) B.len PySem.boot_len (pa_cons (pe_fld (pv 0) rfl) pa_nil))), ?_⟩
    refine ⟨_, rfl, t, C, dx, _, _, rfl, h1, T.cl, T.nq, tf_q _ _ _ _, q, _, rfl, .inr (sqT h2), ?_⟩
    rw [List.length_map, h3.len]
    exact hq
theorem sc_Tree_contains : FnScope ["self", "x"] ["self", "x"] (defScope s_Tree_contains) := ⟨rfl, rfl, rfl, by decide +kernel, rfl, by decide +kernel, by decide +kernel⟩
theorem ok_Tree_contains {f : Addr} {fd : FuncData} (F : Fun K "__contains__" "Tree.__contains__" s_Tree_contains f fd) (B : TxB mg) (T : TxT K mg C) : FnOk P w K mg base CX0 2 f fd ["self", "x"] (spContains K C) := by
  refine F.ok sc_Tree_contains (fun vs H Q E h => ?_) (fun cdv A outer s H vs Q E hr h => ?_)
  · obtain ⟨t, x, rs, rfl, _⟩ := h
    rfl
  · obtain ⟨t, x, rs, rfl, ht, h⟩ := h
    have hu := hu_of hr
    obtain ⟨dx, q, f, k, p, qs, h1, h2, h3, h4, h5, h6⟩ := ht.ex
    refine ⟨_, pss_one (ps_ret (pe_and (pe_callB call_isi (by rfl) B.isinstance (by decide +kernel) (pa_cons (pv 1) (pa_cons (pe_bltn (by rfl) B.str (by decide +kernel) (v := .ty "str") rfl) pa_nil))) (pe_one (pe_cmp (pc_din hu (pv 1) (pe_fld (pv 0) rfl)) rfl)))), ?_⟩
    rcases h with ⟨z, rfl, hq⟩ | ⟨⟨ty, hty, hk⟩, hq⟩
    · refine ⟨_, rfl, _, _, _, _, true, rfl, .ty "str", .base (.str z), kit_ty (by decide +kernel), _, rfl, iteT ?_⟩
      refine ⟨_, rfl, _, rfl, t, C, dx, _, _, rfl, h1, T.cl, T.nk, tf_k _ _ _ _, k, _, rfl, DGet.k (k := Sum.inr z) h5, ?_⟩
      rw [valV_kvF]
      have e : ((rs.find? fun r => decide (r.nm = z)).map fun r => V.str r.ki).isSome = decide (z ∈ names rs) := by
        by_cases hz : z ∈ names rs
        · obtain ⟨r, e1, _⟩ := rowOf_some hz
          unfold rowOf at e1
          rw [e1, decide_eq_true hz]; rfl
        · rw [find_none hz, decide_eq_false hz]; rfl
      rw [e]
      exact hq
    · exact ⟨_, rfl, _, _, _, _, false, rfl, .ty "str", hty, hk, _, rfl, iteF hq⟩
theorem sc_Tree_eq : FnScope ["self", "other"] ["self", "other"] (defScope s_Tree_eq) := ⟨rfl, rfl, rfl, by decide +kernel, rfl, by decide +kernel, by decide +kernel⟩
theorem ok_Tree_eq {f : Addr} {fd : FuncData} (F : Fun K "__eq__" "Tree.__eq__" s_Tree_eq f fd) (B : TxB mg) (T : TxT K mg C) (I : C8.InsC K C) : FnOk P w K mg base CX0 2 f fd ["self", "other"] (spEqT K C) := by
  refine F.ok sc_Tree_eq (fun vs H Q E h => ?_) (fun cdv A outer s H vs Q E hr h => ?_)
  · obtain ⟨t, x, rs, rfl, _⟩ := h
    rfl
  · obtain ⟨t, x, rs, rfl, ht, h⟩ := h
    obtain ⟨dx, q, f, k, p, qs, h1, h2, h3, h4, h5, h6⟩ := ht.ex
    refine ⟨_, pss_one (ps_ret (pe_and (pe_callB call_isi (by rfl) B.isinstance (by decide +kernel) (pa_cons (pv 1) (pa_cons (pe_glob (by rfl) T.g (v := .ref C) rfl) pa_nil))) (pe_one (pe_cmpR (op_eqD (by have := hr.units; exact this)) (pe_fld (pv 0) rfl) (pe_fld (pv 1) rfl) (nomark _))))), ?_⟩
    rcases h with ⟨u, ys, rfl, hu, hq⟩ | ⟨⟨ty, hty, hk⟩, hq⟩
    · obtain ⟨dx', q', f', k', p', qs', g1, g2, g3, g4, g5, g6⟩ := hu.ex
      refine ⟨_, rfl, _, _, _, _, true, rfl, .own C, .base (.ins g1 I.cl I.ha I.hn I.htk I.hm), I.me, _, rfl, iteT ?_⟩
      refine ⟨_, rfl, t, C, dx, _, _, rfl, h1, T.cl, T.nq, tf_q _ _ _ _, _, rfl, u, C, dx', _, _, rfl, g1, T.cl, T.nq, tf_q _ _ _ _, _, _, .tup (sqT h2) (rows_dp h3), .tup (sqT g2) (rows_dp g3), shaped_tup ht.val.ok, shaped_tup hu.val.ok, ?_⟩
      have e : PyData.eqv (.tuple (rs.map rowD)) (.tuple (ys.map rowD)) = decide (rs = ys) := by
        simp only [PyData.eqv]
        exact rows_eqv rs ys
      rw [e]
      exact hq
    · exact ⟨_, rfl, _, _, _, _, false, rfl, .own C, hty, hk, _, rfl, iteF hq⟩
theorem sc_Tree_rows : FnScope ["self"] ["self"] (defScope s_Tree_rows) := ⟨rfl, rfl, rfl, by decide +kernel, rfl, by decide +kernel, by decide +kernel⟩
theorem ok_Tree_rows {f : Addr} {fd : FuncData} (F : Fun K "rows" "Tree.rows" s_Tree_rows f fd) (B : TxB mg) (T : TxT K mg C) : FnOk P w K mg base CX0 2 f fd ["self"] (spRowsM C) := by
  refine F.ok sc_Tree_rows (fun vs H Q E h => ?_) (fun cdv A outer s H vs Q E hr h => ?_)
  · obtain ⟨t, rs, rfl, _⟩ := h
    rfl
  · obtain ⟨t, rs, rfl, ht, hq⟩ := h
    obtain ⟨dx, q, f, k, p, qs, h1, h2, h3, h4, h5, h6⟩ := ht.ex
    refine ⟨_, pss_one (ps_ret (pe_callTy call_list_of (by rfl) B.list (by decide +kernel) (pa_cons (pe_fld (pv 0) rfl) pa_nil))), ?_⟩
    exact ⟨_, rfl, t, C, dx, _, _, rfl, h1, T.cl, T.nq, tf_q _ _ _ _, q, _, rfl, .inr (sqT h2), fun l hl => hq l qs hl h3⟩
theorem sc_check_box : FnScope ["tree", "thing"] ["tree", "thing"] (defScope s_check_box) := ⟨rfl, rfl, rfl, by decide +kernel, rfl, by decide +kernel, by decide +kernel⟩
theorem ok_check_box (D : DefAt K mg "check_box" s_check_box ["tree", "thing"]) (M : MethAt K C "__contains__" "Tree.__contains__" s_Tree_contains ["self", "x"]) (B : TxB mg) (T : TxT K mg C) : FnOk P w K mg base CX0 3 D.f D.fd ["tree", "thing"] (spBox C) := by
  have G : FnOk P w K mg base CX0 2 M.f M.fd ["self", "x"] (spContains K C) := ok_Tree_contains M.F B T
  refine D.F.ok sc_check_box (fun vs H Q E h => ?_) (fun cdv A outer s H vs Q E hr h => ?_)
  · obtain ⟨t, z, rs, rfl, _⟩ := h
    rfl
  · obtain ⟨t, z, rs, rfl, ht, hz, hq⟩ := h
    obtain ⟨dx, q, f, k, p, qs, h1, h2⟩ := ht.ex
    refine ⟨_, pss_one (ps_if (pt_cmpR (op_notinC G M.m hr M.b pass0) (pv 1) (pv 0) (by rfl)) (pss_one ps_never) pss_nil), ?_⟩
    refine ⟨_, rfl, _, rfl, t, dx, _, rfl, h1, t, _, rs, rfl, ht, .inl ⟨z, rfl, _, rfl, _, rfl, ?_⟩⟩
    rw [decide_eq_true hz]
    exact iteF hq
theorem sc_is_place : FnScope ["tree", "thing"] ["tree", "thing"] (defScope s_is_place) := ⟨rfl, rfl, rfl, by decide +kernel, rfl, by decide +kernel, by decide +kernel⟩
theorem ok_is_place (D : DefAt K mg "is_place" s_is_place ["tree", "thing"]) (M : MethAt K C "__contains__" "Tree.__contains__" s_Tree_contains ["self", "x"]) (B : TxB mg) (TC : TxC K mg) (T : TxT K mg C) : FnOk P w K mg base CX0 3 D.f D.fd ["tree", "thing"] (spIsPlace C) := by
  have G : FnOk P w K mg base CX0 2 M.f M.fd ["self", "x"] (spContains K C) := ok_Tree_contains M.F B T
  obtain ⟨t1, gT⟩ := TC.top
  refine D.F.ok sc_is_place (fun vs H Q E h => ?_) (fun cdv A outer s H vs Q E hr h => ?_)
  · obtain ⟨t, z, rs, rfl, _⟩ := h
    rfl
  · obtain ⟨t, z, rs, rfl, ht, hq⟩ := h
    obtain ⟨dx, q, f, k, p, qs, h1, h2⟩ := ht.ex
    refine ⟨_, pss_one (ps_ret (pe_or (pe_cmpR op_eq (pv 1) (pe_glob (by rfl) gT (v := .str ("top" : Str)) ⟨_, rfl⟩) (nomark _)) (pe_one (pe_cmpR (op_inC G M.m hr M.b pass0) (pv 1) (pv 0) (by rfl))))), ?_⟩
    refine ⟨_, rfl, rfl, _, rfl, ?_⟩
    have e0 : decide (V.str z = V.str ("top" : Str)) = decide (z = ("top" : Str)) := decide_eq_decide.mpr ⟨fun h => V.str.inj h, fun h => congrArg _ h⟩
    rw [e0]
    refine ite2 (fun hc => ?_) (fun hc => ?_)
    · have hc' : z = ("top" : Str) := of_decide_eq_true hc
      rw [decide_eq_true (Or.inl hc')] at hq
      exact hq
    · have hc' : ¬ z = ("top" : Str) := fun e => hc (decide_eq_true e)
      refine ⟨_, rfl, _, rfl, t, dx, _, rfl, h1, t, _, rs, rfl, ht, .inl ⟨z, rfl, _, rfl, ?_⟩⟩
      have e1 : decide (z = ("top" : Str) ∨ z ∈ names rs) = decide (z ∈ names rs) := decide_eq_decide.mpr ⟨fun h => h.resolve_left hc', Or.inr⟩
      rw [e1] at hq
      exact hq
theorem sc_check_place : FnScope ["tree", "thing"] ["tree", "thing"] (defScope s_check_place) := ⟨rfl, rfl, rfl, by decide +kernel, rfl, by decide +kernel, by decide +kernel⟩
theorem ok_check_place (D : DefAt K mg "check_place" s_check_place ["tree", "thing"]) (Db : DefAt K mg "is_place" s_is_place ["tree", "thing"]) (Gb : FnOk P w K mg base CX0 3 Db.f Db.fd ["tree", "thing"] (spIsPlace C)) : FnOk P w K mg base CX0 4 D.f D.fd ["tree", "thing"] (spPlace C) := by
  refine D.F.ok sc_check_place (fun vs H Q E h => ?_) (fun cdv A outer s H vs Q E hr h => ?_)
  · obtain ⟨t, z, rs, rfl, _⟩ := h
    rfl
  · obtain ⟨t, z, rs, rfl, ht, hz, hq⟩ := h
    refine ⟨_, pss_one (ps_if (pt_not (pt_val (pe_call Gb hr rfl Db.g Db.F.kp Db.b .nil pass0 (pa_cons (pv 0) (pa_cons (pv 1) pa_nil))))) (pss_one ps_never) pss_nil), ?_⟩
    refine ⟨_, rfl, _, rfl, t, z, rs, rfl, ht, _, rfl, ?_⟩
    rw [decide_eq_true hz]
    exact iteF hq
theorem sc_Tree_folder : FnScope ["self", "box"] ["self", "box"] (defScope s_Tree_folder) := ⟨rfl, rfl, rfl, by decide +kernel, rfl, by decide +kernel, by decide +kernel⟩
theorem ok_Tree_folder {f : Addr} {fd : FuncData} (F : Fun K "folder" "Tree.folder" s_Tree_folder f fd) (Db : DefAt K mg "check_box" s_check_box ["tree", "thing"]) (Gb : FnOk P w K mg base CX0 3 Db.f Db.fd ["tree", "thing"] (spBox C)) (T : TxT K mg C) : FnOk P w K mg base CX0 4 f fd ["self", "box"] (spGet C (fun r => V.str r.fo)) := by
  refine F.ok sc_Tree_folder (fun vs H Q E h => ?_) (fun cdv A outer s H vs Q E hr h => ?_)
  · obtain ⟨t, z, rs, r, rfl, _⟩ := h
    rfl
  · obtain ⟨t, z, rs, r, rfl, ht, hz, hq⟩ := h
    have hu := hu_of hr
    obtain ⟨dx, q, f, k, p, qs, h1, h2, h3, h4, h5, h6⟩ := ht.ex
    refine ⟨_, pss_cons (ps_expr (pe_call Gb hr rfl Db.g Db.F.kp Db.b .nil pass0 (pa_cons (pv 0) (pa_cons (pv 1) pa_nil)))) (pss_one (ps_ret (pe_dget hu (pe_fld (pv 0) rfl) (pv 1) (fun _ _ => rfl)))), ?_⟩
    have hin : z ∈ names rs := List.mem_map.mpr ⟨r, List.mem_of_find?_eq_some hz, of_decide_eq_true (List.find?_some (p := fun (r : Row) => decide (r.nm = z)) (show rs.find? (fun (r : Row) => decide (r.nm = z)) = some r from hz))⟩
    refine ⟨_, rfl, _, rfl, t, z, rs, rfl, ht, hin, _, rfl, t, C, dx, _, _, rfl, h1, T.cl, T.nf, tf_f _ _ _ _, _, rfl, f, _, rfl, ?_, hq⟩
    have e := DGet.k (k := Sum.inr z) h4
    rw [valV_kvF, show (rs.find? fun r => decide (r.nm = z)) = some r from hz] at e
    exact e
theorem sc_Tree_kind : FnScope ["self", "box"] ["self", "box"] (defScope s_Tree_kind) := ⟨rfl, rfl, rfl, by decide +kernel, rfl, by decide +kernel, by decide +kernel⟩
theorem ok_Tree_kind {f : Addr} {fd : FuncData} (F : Fun K "kind" "Tree.kind" s_Tree_kind f fd) (Db : DefAt K mg "check_box" s_check_box ["tree", "thing"]) (Gb : FnOk P w K mg base CX0 3 Db.f Db.fd ["tree", "thing"] (spBox C)) (T : TxT K mg C) : FnOk P w K mg base CX0 4 f fd ["self", "box"] (spGet C (fun r => V.str r.ki)) := by
  refine F.ok sc_Tree_kind (fun vs H Q E h => ?_) (fun cdv A outer s H vs Q E hr h => ?_)
  · obtain ⟨t, z, rs, r, rfl, _⟩ := h
    rfl
  · obtain ⟨t, z, rs, r, rfl, ht, hz, hq⟩ := h
    have hu := hu_of hr
    obtain ⟨dx, q, f, k, p, qs, h1, h2, h3, h4, h5, h6⟩ := ht.ex
    refine ⟨_, pss_cons (ps_expr (pe_call Gb hr rfl Db.g Db.F.kp Db.b .nil pass0 (pa_cons (pv 0) (pa_cons (pv 1) pa_nil)))) (pss_one (ps_ret (pe_dget hu (pe_fld (pv 0) rfl) (pv 1) (fun _ _ => rfl)))), ?_⟩
    have hin : z ∈ names rs := List.mem_map.mpr ⟨r, List.mem_of_find?_eq_some hz, of_decide_eq_true (List.find?_some (p := fun (r : Row) => decide (r.nm = z)) (show rs.find? (fun (r : Row) => decide (r.nm = z)) = some r from hz))⟩
    refine ⟨_, rfl, _, rfl, t, z, rs, rfl, ht, hin, _, rfl, t, C, dx, _, _, rfl, h1, T.cl, T.nk, tf_k _ _ _ _, _, rfl, k, _, rfl, ?_, hq⟩
    have e := DGet.k (k := Sum.inr z) h5
    rw [valV_kvF, show (rs.find? fun r => decide (r.nm = z)) = some r from hz] at e
    exact e
theorem sc_Tree_price : FnScope ["self", "box"] ["self", "box"] (defScope s_Tree_price) := ⟨rfl, rfl, rfl, by decide +kernel, rfl, by decide +kernel, by decide +kernel⟩
theorem ok_Tree_price {f : Addr} {fd : FuncData} (F : Fun K "price" "Tree.price" s_Tree_price f fd) (Db : DefAt K mg "check_box" s_check_box ["tree", "thing"]) (Gb : FnOk P w K mg base CX0 3 Db.f Db.fd ["tree", "thing"] (spBox C)) (T : TxT K mg C) : FnOk P w K mg base CX0 4 f fd ["self", "box"] (spGet C (fun r => prV r.pr)) := by
  refine F.ok sc_Tree_price (fun vs H Q E h => ?_) (fun cdv A outer s H vs Q E hr h => ?_)
  · obtain ⟨t, z, rs, r, rfl, _⟩ := h
    rfl
  · obtain ⟨t, z, rs, r, rfl, ht, hz, hq⟩ := h
    have hu := hu_of hr
    obtain ⟨dx, q, f, k, p, qs, h1, h2, h3, h4, h5, h6⟩ := ht.ex
    refine ⟨_, pss_cons (ps_expr (pe_call Gb hr rfl Db.g Db.F.kp Db.b .nil pass0 (pa_cons (pv 0) (pa_cons (pv 1) pa_nil)))) (pss_one (ps_ret (pe_dget hu (pe_fld (pv 0) rfl) (pv 1) (fun _ _ => rfl)))), ?_⟩
    have hin : z ∈ names rs := List.mem_map.mpr ⟨r, List.mem_of_find?_eq_some hz, of_decide_eq_true (List.find?_some (p := fun (r : Row) => decide (r.nm = z)) (show rs.find? (fun (r : Row) => decide (r.nm = z)) = some r from hz))⟩
    refine ⟨_, rfl, _, rfl, t, z, rs, rfl, ht, hin, _, rfl, t, C, dx, _, _, rfl, h1, T.cl, T.np, tf_p _ _ _ _, _, rfl, p, _, rfl, ?_, hq⟩
    have e := DGet.k (k := Sum.inr z) h6
    rw [valV_kvF, show (rs.find? fun r => decide (r.nm = z)) = some r from hz] at e
    exact e
end
end Ts

set_option maxRecDepth 100000
set_option maxHeartbeats 4000000
namespace Ts
open PySem L2
/-! ### ways -/
def wayR : List Row → Str → List Str
  | [], _ => []
  | r :: rest, z => if r.nm = z then wayR rest r.fo ++ [z] else wayR rest z
def wayOf (rs : List Row) (z : Str) : List Str := wayR rs.reverse z
structure FitR (rest : List Row) (r : Row) : Prop where
  top : r.nm ≠ ("top" : Str)
  new : r.nm ∉ rest.map (·.nm)
  home : r.fo = ("top" : Str) ∨ r.fo ∈ rest.map (·.nm)
def ValidR : List Row → Prop
  | [] => True
  | r :: rest => FitR rest r ∧ ValidR rest
theorem Valid.init {rs : List Row} {r : Row} (h : Valid (rs ++ [r])) : Valid rs := fun i q hq => by
  have hi : i < rs.length := (List.getElem?_eq_some_iff.mp hq).1
  have f := h i q (by rw [List.getElem?_append_left hi]; exact hq)
  rw [List.take_append_of_le_length (Nat.le_of_lt hi)] at f
  exact f
theorem Valid.last {rs : List Row} {r : Row} (h : Valid (rs ++ [r])) : Fits rs r := by
  have f := h rs.length r (by simp)
  rw [List.take_append_of_le_length (Nat.le_refl _), List.take_length] at f
  exact f
theorem validR : ∀ l : List Row, Valid l.reverse → ValidR l
  | [], _ => trivial
  | r :: l, h => by
    rw [List.reverse_cons] at h
    have f := h.last
    refine ⟨⟨f.top, by simpa using f.new, ?_⟩, validR l h.init⟩
    rcases f.home with e | ⟨q, hq, e, _⟩
    · exact .inl e
    · exact .inr (List.mem_map.mpr ⟨q, List.mem_reverse.mp hq, e⟩)
theorem wayR_mem : ∀ {l : List Row} {z x : Str}, x ∈ wayR l z → x ∈ l.map (·.nm)
  | [], _, _, h => by cases h
  | r :: l, z, x, h => by
    unfold wayR at h
    by_cases e : r.nm = z
    · rw [if_pos e] at h
      rcases List.mem_append.mp h with h | h
      · exact List.mem_cons_of_mem _ (wayR_mem h)
      · rw [List.mem_singleton.mp h, ← e]; exact List.mem_cons_self ..
    · rw [if_neg e] at h
      exact List.mem_cons_of_mem _ (wayR_mem h)
theorem wayR_out : ∀ {l : List Row} {z : Str}, z ∉ l.map (·.nm) → wayR l z = []
  | [], _, _ => rfl
  | r :: l, z, h => by
    unfold wayR
    rw [if_neg fun e => h (List.mem_map.mpr ⟨r, List.mem_cons_self .., e⟩)]
    exact wayR_out fun q => h (List.mem_cons_of_mem _ q)
theorem ValidR.home : ∀ {l : List Row} {r : Row}, ValidR l → r ∈ l → r.fo = ("top" : Str) ∨ r.fo ∈ l.map (·.nm)
  | q :: l, r, h, hr => by
    rcases List.mem_cons.mp hr with e | hr
    · subst e; exact h.1.home.imp id (List.mem_cons_of_mem _)
    · exact (h.2.home hr).imp id (List.mem_cons_of_mem _)
theorem ValidR.top : ∀ {l : List Row}, ValidR l → ("top" : Str) ∉ l.map (·.nm)
  | [], _, h => by cases h
  | r :: l, h, hm => by
    rcases List.mem_cons.mp hm with e | hm
    · exact h.1.top e.symm
    · exact h.2.top hm
theorem wayR_step : ∀ {l : List Row} {r : Row}, ValidR l → r ∈ l → wayR l r.nm = wayR l r.fo ++ [r.nm]
  | q :: l, r, h, hr => by
    rcases List.mem_cons.mp hr with e | hr'
    · subst e
      have ne : ¬ r.nm = r.fo := fun e => by
        rcases h.1.home with e2 | e2
        · exact h.1.top (e.trans e2)
        · exact h.1.new (e ▸ e2)
      show (if r.nm = r.nm then wayR l r.fo ++ [r.nm] else wayR l r.nm) = (if r.nm = r.fo then wayR l r.fo ++ [r.fo] else wayR l r.fo) ++ [r.nm]
      rw [if_pos rfl, if_neg ne]
    · have n1 : ¬ q.nm = r.nm := fun e => h.1.new (List.mem_map.mpr ⟨r, hr', e.symm⟩)
      have n2 : ¬ q.nm = r.fo := fun e => by
        rcases h.2.home hr' with e2 | e2
        · exact h.1.top (e.trans e2)
        · exact h.1.new (e ▸ e2)
      show (if q.nm = r.nm then wayR l q.fo ++ [r.nm] else wayR l r.nm) = (if q.nm = r.fo then wayR l q.fo ++ [r.fo] else wayR l r.fo) ++ [r.nm]
      rw [if_neg n1, if_neg n2]
      exact wayR_step h.2 hr'
theorem Valid.r {rs : List Row} (h : Valid rs) : ValidR rs.reverse := validR rs.reverse (by rw [List.reverse_reverse]; exact h)
theorem way_step {rs : List Row} (h : Valid rs) {r : Row} (hr : r ∈ rs) : wayOf rs r.nm = wayOf rs r.fo ++ [r.nm] := wayR_step h.r (List.mem_reverse.mpr hr)
theorem way_out {rs : List Row} {z : Str} (h : z ∉ names rs) : wayOf rs z = [] := wayR_out (by rw [List.map_reverse]; exact fun q => h (List.mem_reverse.mp q))
theorem top_not {rs : List Row} (h : Valid rs) : ("top" : Str) ∉ names rs := fun q => h.r.top (by rw [List.map_reverse]; exact List.mem_reverse.mpr q)
theorem way_top {rs : List Row} (h : Valid rs) : wayOf rs ("top" : Str) = [] := way_out (top_not h)
theorem way_mem {rs : List Row} {z x : Str} (h : x ∈ wayOf rs z) : x ∈ names rs := by
  have q := wayR_mem h
  rw [List.map_reverse] at q
  exact List.mem_reverse.mp q
theorem way_self {rs : List Row} (h : Valid rs) {z : Str} (hz : z ∈ names rs) : z ∈ wayOf rs z := by
  obtain ⟨r, hr, rfl⟩ := List.mem_map.mp hz
  rw [way_step h hr]
  simp
theorem Valid.fo {rs : List Row} (h : Valid rs) {i : Nat} {r : Row} (hr : rs[i]? = some r) : r.fo = ("top" : Str) ∨ r.fo ∈ names (rs.take i) := by
  rcases (h i r hr).home with e | ⟨q, hq, e, _⟩
  · exact .inl e
  · exact .inr (List.mem_map.mpr ⟨q, hq, e⟩)
theorem names_take {rs : List Row} {i : Nat} {z : Str} (h : z ∈ names (rs.take i)) : z ∈ names rs := by
  obtain ⟨r, hr, rfl⟩ := List.mem_map.mp h
  exact List.mem_map.mpr ⟨r, List.mem_of_mem_take hr, rfl⟩
theorem names_at {rs : List Row} {i : Nat} {z : Str} (h : z ∈ names (rs.take i)) : ∃ j r, j < i ∧ rs[j]? = some r ∧ r.nm = z := by
  obtain ⟨r, hr, rfl⟩ := List.mem_map.mp h
  obtain ⟨j, hj, e⟩ := List.mem_iff_getElem.mp hr
  rw [List.length_take] at hj
  refine ⟨j, r, by omega, ?_, rfl⟩
  rw [← e, List.getElem_take]
  exact List.getElem?_eq_getElem _
theorem way_pre {rs : List Row} (h : Valid rs) : ∀ (i : Nat) {z x : Str}, z ∈ names (rs.take i) → x ∈ wayOf rs z → x ∈ names (rs.take i) := by
  intro i
  induction i using Nat.strongRecOn with
  | _ i ih =>
    intro z x hz hx
    obtain ⟨j, r, hj, hr, rfl⟩ := names_at hz
    rw [way_step h (List.mem_of_getElem? hr)] at hx
    rcases List.mem_append.mp hx with hx | hx
    · rcases h.fo hr with e | e
      · rw [e, way_top h] at hx; cases hx
      · have q := ih j hj e hx
        obtain ⟨j2, r2, hj2, hr2, rfl⟩ := names_at q
        exact List.mem_map.mpr ⟨r2, List.mem_take_iff_getElem.mpr ⟨j2, by have := (List.getElem?_eq_some_iff.mp hr2).1; omega, (List.getElem?_eq_some_iff.mp hr2).2⟩, rfl⟩
    · rw [List.mem_singleton.mp hx]; exact hz
/-- what lies within z -/
def isIn (rs : List Row) (z : Str) (r : Row) : Bool := decide (r.nm ≠ z) && (decide (z = ("top" : Str)) || decide (z ∈ wayOf rs r.nm))
def belowL (rs : List Row) (z : Str) : List Str := (rs.filter (isIn rs z)).map (·.nm)
def insideL (rs : List Row) (z : Str) : List Str := (rs.filter fun r => decide (r.fo = z)).map (·.nm)
theorem below_in {rs : List Row} (h : Valid rs) {z : Str} (hz : z = ("top" : Str) ∨ z ∈ names rs) {i : Nat} {r : Row} (hr : rs[i]? = some r) :
    decide (r.fo ∈ z :: ((rs.take i).filter (isIn rs z)).map (·.nm)) = isIn rs z r := by
  have hrm := List.mem_of_getElem? hr
  have hfo := h.fo hr
  have f := h i r hr
  have mem : ∀ x : Str, x ∈ ((rs.take i).filter (isIn rs z)).map (·.nm) ↔ (x ∈ names (rs.take i) ∧ x ≠ z ∧ (z = ("top" : Str) ∨ z ∈ wayOf rs x)) := by
    intro x
    constructor
    · intro hx
      obtain ⟨q, hq, rfl⟩ := List.mem_map.mp hx
      obtain ⟨h1, h2⟩ := List.mem_filter.mp hq
      unfold isIn at h2
      simp at h2
      exact ⟨List.mem_map.mpr ⟨q, h1, rfl⟩, h2.1, h2.2⟩
    · rintro ⟨hx, h1, h2⟩
      obtain ⟨q, hq, rfl⟩ := List.mem_map.mp hx
      refine List.mem_map.mpr ⟨q, List.mem_filter.mpr ⟨hq, ?_⟩, rfl⟩
      unfold isIn
      simp
      exact ⟨h1, h2⟩
  by_cases e : r.nm = z
  · have e1 : isIn rs z r = false := by unfold isIn; simp [e]
    rw [e1]
    refine decide_eq_false fun hm => ?_
    rcases List.mem_cons.mp hm with q | q
    · rcases hfo with e2 | e2
      · exact f.top (e.trans (q.symm.trans e2))
      · rw [q, ← e] at e2; exact f.new e2
    · obtain ⟨q1, q2, q3⟩ := (mem _).mp q
      rcases q3 with q3 | q3
      · exact f.top (e.trans q3)
      · have := way_pre h i q1 q3
        rw [← e] at this
        exact f.new this
  · have e1 : isIn rs z r = (decide (z = ("top" : Str)) || decide (z ∈ wayOf rs r.nm)) := by unfold isIn; simp [e]
    rw [e1]
    have w : z ∈ wayOf rs r.nm ↔ z ∈ wayOf rs r.fo := by
      rw [way_step h hrm, List.mem_append, List.mem_singleton]
      exact ⟨fun q => q.resolve_right fun q => e q.symm, .inl⟩
    by_cases ht : z = ("top" : Str)
    · rw [decide_eq_true ht, Bool.true_or]
      refine decide_eq_true ?_
      rcases hfo with e2 | e2
      · rw [e2, ht]; exact List.mem_cons_self ..
      · refine List.mem_cons_of_mem _ ((mem _).mpr ⟨e2, fun q => ?_, .inl ht⟩)
        rw [q, ht] at e2
        exact top_not h (names_take e2)
    · rw [decide_eq_false ht, Bool.false_or]
      refine decide_eq_decide.mpr ?_
      rw [w]
      constructor
      · intro hm
        rcases List.mem_cons.mp hm with q | q
        · rw [q]; exact way_self h (hz.resolve_left ht)
        · exact ((mem _).mp q).2.2.resolve_left ht
      · intro hm
        by_cases q : r.fo = z
        · rw [q]; exact List.mem_cons_self ..
        · rcases hfo with e2 | e2
          · rw [e2, way_top h] at hm; cases hm
          · exact List.mem_cons_of_mem _ ((mem _).mpr ⟨e2, q, .inr hm⟩)
end Ts

set_option maxRecDepth 100000
set_option maxHeartbeats 4000000
namespace Ts
open PySem L2
def kvB (l : List Str) : List (Key × V) := l.map fun x => (.inr x, .bl true)
theorem valV_kvB (z : Str) : ∀ l : List Str, (valV (kvB l) (.inr z : Key)).isSome = decide (z ∈ l)
  | [] => by simp [kvB, valV]
  | x :: l => by
    have ih := valV_kvB z l
    show (valV ((.inr x, V.bl true) :: kvB l) (.inr z : Key)).isSome = _
    by_cases e : x = z
    · rw [valV_pos (by rw [e])]
      subst e
      simp
    · rw [valV_neg (fun q => e (Sum.inr.inj q)), ih]
      have e' : ¬ z = x := fun q => e q.symm
      simp [e']
theorem kvB_put {l : List Str} {x : Str} (h : x ∉ l) : putK (kvB l) (.inr x) (.bl true) = kvB (l ++ [x]) := by
  rw [putK_new]
  · unfold kvB; rw [List.map_append]; rfl
  · have q := valV_kvB x l
    rw [decide_eq_false h] at q
    simpa using q
def spListOf (C : Addr) (g : List Row → Str → List Str) : Sp := fun vs H Q _ => ∃ (t : Addr) (z : Str) (rs : List Row), vs = [.ref t, .str z] ∧ TreeAt C H t rs ∧ (z = ("top" : Str) ∨ z ∈ names rs) ∧
  ∀ D H', H D = none → Same H H' → H' D = some (.lst ((g rs z).map V.str)) → Q (.ref D) H'
theorem filter_take {rs : List Row} {i : Nat} {r : Row} (h : rs[i]? = some r) (p : Row → Bool) : ((rs.take (i + 1)).filter p).map (·.nm) = ((rs.take i).filter p).map (·.nm) ++ (if p r = true then [r.nm] else []) := by
  rw [take_more h, List.filter_append, List.map_append]
  by_cases e : p r = true
  · rw [if_pos e, List.filter_cons_of_pos e]; rfl
  · rw [if_neg e, List.filter_cons_of_neg e]; rfl
theorem kvF_at {g : Row → V} {rs : List Row} {i : Nat} {k : Key} {v : V} (h : (kvF g rs)[i]? = some (k, v)) : ∃ r, rs[i]? = some r ∧ k = .inr r.nm ∧ v = g r := by
  unfold kvF at h
  rw [List.getElem?_map] at h
  obtain ⟨r, e, q⟩ := Option.map_eq_some_iff.mp h
  injection q with q1 q2
  exact ⟨r, e, q1.symm, q2.symm⟩
theorem rowOf_at {rs : List Row} (h : Valid rs) {i : Nat} {r : Row} (hr : rs[i]? = some r) : rowOf rs r.nm = some r := by
  unfold rowOf
  rw [List.find?_eq_some_iff_getElem]
  have hi := (List.getElem?_eq_some_iff.mp hr).1
  refine ⟨decide_eq_true rfl, i, hi, (List.getElem?_eq_some_iff.mp hr).2, fun j hj => ?_⟩
  simp only [Bool.not_eq_true', decide_eq_false_iff_not]
  intro e
  exact (h i r hr).new (List.mem_map.mpr ⟨rs[j], List.mem_take_iff_getElem.mpr ⟨j, by omega, rfl⟩, e⟩)
section
variable {P : Program} {w : World} {K : PySem.W.Frag} {mg : Str → Option Value} {base : Heap} {C : Addr}
abbrev nInside : List Str := ["self", "box", "name"]
theorem sc_Tree_inside : FnScope nInside ["self", "box"] (defScope s_Tree_inside) := ⟨rfl, rfl, rfl, by decide +kernel, rfl, by decide +kernel, by decide +kernel⟩
theorem ok_Tree_inside {f : Addr} {fd : FuncData} (F : Fun K "inside" "Tree.inside" s_Tree_inside f fd) (Dp : DefAt K mg "check_place" s_check_place ["tree", "thing"]) (Gp : FnOk P w K mg base CX0 4 Dp.f Dp.fd ["tree", "thing"] (spPlace C)) (T : TxT K mg C) : FnOk P w K mg base CX0 5 f fd ["self", "box"] (spListOf C insideL) := by
  refine F.ok sc_Tree_inside (fun vs H Q E h => ?_) (fun cdv A outer s H vs Q E hr h => ?_)
  · obtain ⟨t, z, rs, rfl, _⟩ := h
    rfl
  · obtain ⟨t, z, rs, rfl, ht, hz, hq⟩ := h
    have hu := hu_of hr
    obtain ⟨dx, q, f, k, p, qs, h1, h2, h3, h4, h5, h6⟩ := ht.ex
    refine ⟨_, pss_cons (ps_expr (pe_call Gp hr rfl Dp.g Dp.F.kp Dp.b .nil pass0 (pa_cons (pv 0) (pa_cons (pv 1) pa_nil))))
      (pss_one (ps_ret (pe_lock (pe_lc (own := [("name", 2)]) (g := gName 2) (tt := tTest (tOp rEq (tDGet (tFld K (tVar 0) "folders") (tVar 2)) (tVar 1))) (te := tVar 2) rfl sc_Tree_inside.nd (pi_keys (pe_fld (pv 0) rfl)) (blkOk_by (N := nInside) (sc := defScope s_Tree_inside) (by decide +kernel))
        (fun _ _ _ _ _ => pg_name (i := 2) sc_Tree_inside.nd rfl (Or.inl rfl)) (fun _ _ _ _ _ => by exact pts_one (pt_cmpR op_eq (pe_dget hu (pe_fld (pv 0) rfl) (pv 2) (fun _ _ => rfl)) (pv 1) (nomark _))) (fun _ _ _ _ _ => pv 2))))), ?_⟩
    refine ⟨_, rfl, _, rfl, t, z, rs, rfl, ht, hz, ?_⟩
    refine ⟨f, _, h4, trivial, fun od => ?_⟩
    have tf_ : t ≠ f := ne_of h1 h4 (by intro x; cases x)
    refine ⟨_, rfl, t, C, dx, _, _, rfl, Eq.trans (upd_ne tf_) h1, T.cl, T.nf, tf_f _ _ _ _, f, od, rfl, .inl ⟨_, upd_same, fun D hD => ?_⟩⟩
    have Df : D ≠ f := fun e => by rw [e, upd_same] at hD; cases hD
    have hD0 : H D = none := by rw [upd_ne Df] at hD; exact hD
    refine lc_it (walk_keys (d := f) (o := od) (kvs := kvF (fun r => .str r.fo) rs)) (fun i H' => Same (upd H f (.frz od (.dK (kvF (fun r => .str r.fo) rs)))) H' ∧ H' D = some (.lst ((((rs.take i).filter fun r => decide (r.fo = z)).map (·.nm)).map V.str))) ⟨Same.new hD, upd_same⟩ (fun i H' _ m => m.1 _ _ upd_same) ?_ ?_
    · rintro i x H2 H2' hi ⟨sm, hDi⟩ ⟨rfl, k', v', hk, rfl⟩
      obtain ⟨r, hr', rfl, rfl⟩ := kvF_at hk
      have e1 : H2' t = some (.ins C dx (tf q f k p)) := sm _ _ (Eq.trans (upd_ne tf_) h1)
      have e2 : H2' f = some (.frz od (.dK (kvF (fun r => .str r.fo) rs))) := sm _ _ upd_same
      have dg : DGet H2' f (.str r.nm) (some (.str r.fo)) := by
        have e := rowOf_at ht.val hr'
        refine .inl ⟨_, .inr r.nm, .inr ⟨od, e2⟩, rfl, ?_⟩
        rw [valV_kvF, show (rs.find? fun r' => decide (r'.nm = r.nm)) = some r from e]
        rfl
      refine ⟨rfl, _, rfl, t, C, dx, _, _, rfl, e1, T.cl, T.nf, tf_f _ _ _ _, _, rfl, f, _, rfl, dg, _, rfl, rfl, _, rfl, ?_⟩
      have i100 : i < 100 := by
        have := (List.getElem?_eq_some_iff.mp hr').1
        have := ht.len
        omega
      refine ite2 (fun hc => ?_) (fun hc => ?_)
      · have hc' : r.fo = z := V.str.inj (of_decide_eq_true hc)
        refine ⟨_, rfl, _, hDi, small1000 ?_, fun b o e => ?_, ?_⟩
        · rw [List.length_map, List.length_map]
          have := List.length_filter_le (fun r => decide (r.fo = z)) (rs.take i)
          rw [List.length_take] at this
          omega
        · rw [upd_ne (fun q => by rw [q, hD] at e; cases e)]
          exact sm b o e
        · rw [upd_same, filter_take hr', if_pos (decide_eq_true hc'), List.map_append]; rfl
      · have hc' : ¬ r.fo = z := fun q => hc (decide_eq_true (by rw [q]))
        refine ⟨sm, ?_⟩
        rw [filter_take hr', if_neg (fun q => hc' (of_decide_eq_true q)), List.append_nil]
        exact hDi
    · rintro H2 ⟨sm, hDD⟩
      have e : (kvF (fun r => V.str r.fo) rs).length = rs.length := by unfold kvF; rw [List.length_map]
      rw [e, List.take_length] at hDD
      refine ⟨sm _ _ upd_same, ?_⟩
      refine hq D _ hD0 (fun b o e => ?_) ?_
      · by_cases hb : b = f
        · rw [hb, upd_same, ← h4, ← hb]; exact e
        · rw [upd_ne hb]; exact sm _ _ (by rw [upd_ne hb]; exact e)
      · rw [upd_ne Df]; exact hDD
abbrev nBelow : List Str := ["self", "box", "within", "name"]
theorem sc_Tree_below : FnScope nBelow ["self", "box"] (defScope s_Tree_below) := ⟨rfl, rfl, rfl, by decide +kernel, rfl, by decide +kernel, by decide +kernel⟩
theorem cutV_tail (x : V) (xs : List V) : cutV (x :: xs) (some 1) none = xs := by
  unfold cutV
  rw [HT.sIx_none, show HT.sIx (x :: xs).length 0 (some 1) = 1 from by rw [show (some 1 : Option Int) = some ((1 : Nat) : Int) from rfl, HT.sIx_nat, List.length_cons]; omega]
  show (xs.take ((x :: xs).length - 1)) = xs
  rw [List.length_cons, Nat.add_sub_cancel, List.take_length]
theorem ok_Tree_below {f : Addr} {fd : FuncData} (F : Fun K "below" "Tree.below" s_Tree_below f fd) (Dp : DefAt K mg "check_place" s_check_place ["tree", "thing"]) (Gp : FnOk P w K mg base CX0 4 Dp.f Dp.fd ["tree", "thing"] (spPlace C)) (B : TxB mg) (T : TxT K mg C) : FnOk P w K mg base CX0 5 f fd ["self", "box"] (spListOf C belowL) := by
  refine F.ok sc_Tree_below (fun vs H Q E h => ?_) (fun cdv A outer s H vs Q E hr h => ?_)
  · obtain ⟨t, z, rs, rfl, _⟩ := h
    rfl
  · obtain ⟨t, z, rs, rfl, ht, hz, hq⟩ := h
    have hu := hu_of hr
    obtain ⟨dx, q, f, k, p, qs, h1, h2, h3, h4, h5, h6⟩ := ht.ex
    refine ⟨_, pss_cons (ps_expr (pe_call Gp hr rfl Dp.g Dp.F.kp Dp.b .nil pass0 (pa_cons (pv 0) (pa_cons (pv 1) pa_nil))))
      (pss_cons (ps_set (i := 2) sc_Tree_below.nd rfl (.inl rfl) (pe_disp (pps_cons (pv 1) pe_bl pps_nil) (by rfl) (by rfl) (fun z => by cases z) (by decide)))
      (pss_cons (ps_lock (ps_for PassesOwn.never rfl (pi_keys (pe_fld (pv 0) rfl)) (pg_name (i := 3) sc_Tree_below.nd rfl (.inl rfl))
        (pss_one (ps_if (pt_cmp (pc_din hu (pe_dget hu (pe_fld (pv 0) rfl) (pv 3) (fun _ _ => rfl)) (pv 2))) (pss_one (ps_dput hu (pv 2) (pv 3) pe_bl rfl)) pss_nil))))
      (pss_one (ps_ret (pe_slice sl_list (pe_callTy (call_list_dK rfl) (by rfl) B.list (by decide +kernel) (pa_cons (pv 2) pa_nil)) (po_some pe_int) po_none))))), ?_⟩
    refine ⟨_, rfl, _, rfl, t, z, rs, rfl, ht, hz, ?_⟩
    refine fun wd hwd => ⟨_, rfl, upd_same, [(.inr z, .bl true)], rfl, (by show 1 ≤ 15; decide), ?_⟩
    have tw : t ≠ wd := ne_of_none h1 hwd
    have fw : f ≠ wd := ne_of_none h4 hwd
    have tf_ : t ≠ f := ne_of h1 h4 (by intro x; cases x)
    have fw' : f ≠ wd := fw
    refine ⟨f, _, Eq.trans (upd_ne fw) (Eq.trans (upd_ne fw) h4), trivial, fun od => ?_⟩
    obtain ⟨Hl, El⟩ : ∃ Hx, Hx = upd (upd (upd H wd (.dK [])) wd (.dK (mergeK [] [(.inr z, .bl true)]))) f (.frz od (.dK (kvF (fun r => .str r.fo) rs))) := ⟨_, rfl⟩
    have l1 : Hl t = some (.ins C dx (tf q f k p)) := by rw [El, upd_ne tf_, upd_ne tw, upd_ne tw]; exact h1
    have l2 : Hl f = some (.frz od (.dK (kvF (fun r => .str r.fo) rs))) := by rw [El]; exact upd_same
    have l3 : Hl wd = some (.dK (kvB [z])) := by rw [El, upd_ne fw.symm]; exact upd_same
    have l4 : ∀ b o, b ≠ f → H b = some o → Hl b = some o := fun b o nb e => by rw [El, upd_ne nb, upd_ne (ne_of_none e hwd), upd_ne (ne_of_none e hwd)]; exact e
    have l5 : Same Hl Hl := Same.refl _
    rw [← El]
    clear El
    refine ⟨_, rfl, t, C, dx, _, _, rfl, l1, T.cl, T.nf, tf_f _ _ _ _, f, od, rfl, .inl ⟨_, l2, ?_⟩⟩
    refine for_it (walk_keys (d := f) (o := od) (kvs := kvF (fun r => .str r.fo) rs)) (fun i σ H' => ∃ v : Option V, σ = [some (.ref t), some (.str z), some (.ref wd), v] ∧ SB wd Hl H' ∧ H' wd = some (.dK (kvB (z :: ((rs.take i).filter (isIn rs z)).map (·.nm)))))
      ⟨none, rfl, SB.refl _ _, l3⟩ (fun i σ H' _ ⟨_, _, sb, _⟩ => sb _ _ fw l2) ?_ ?_
    · rintro i x σ H2 H2' hi ⟨v, rfl, sb, hw⟩ ⟨rfl, k', v', hk, rfl⟩
      obtain ⟨r, hr', rfl, rfl⟩ := kvF_at hk
      have e1 : H2' t = some (.ins C dx (tf q f k p)) := sb _ _ tw l1
      have e2 : H2' f = some (.frz od (.dK (kvF (fun r => .str r.fo) rs))) := sb _ _ fw l2
      have dg : DGet H2' f (.str r.nm) (some (.str r.fo)) := by
        have e := rowOf_at ht.val hr'
        refine .inl ⟨_, .inr r.nm, .inr ⟨od, e2⟩, rfl, ?_⟩
        rw [valV_kvF, show (rs.find? fun r' => decide (r'.nm = r.nm)) = some r from e]
        rfl
      refine ⟨_, rfl, t, C, dx, _, _, rfl, e1, T.cl, T.nf, tf_f _ _ _ _, _, rfl, f, _, rfl, dg, _, rfl, wd, _, rfl, DGet.k (k := Sum.inr r.fo) hw, _, rfl, ?_⟩
      rw [valV_kvB, below_in ht.val hz hr']
      have i100 : i < 100 := by
        have := (List.getElem?_eq_some_iff.mp hr').1
        have := ht.len
        omega
      refine ite2 (fun hc => ?_) (fun hc => ?_)
      · have nw : r.nm ∉ z :: ((rs.take i).filter (isIn rs z)).map (·.nm) := fun hm => by
          rcases List.mem_cons.mp hm with y | y
          · unfold isIn at hc
            simp [y] at hc
          · obtain ⟨q1, hq1, e⟩ := List.mem_map.mp y
            exact (ht.val i r hr').new (List.mem_map.mpr ⟨q1, (List.mem_filter.mp hq1).1, e⟩)
        refine ⟨_, rfl, _, rfl, wd, _, rfl, DPut.k (k := Sum.inr r.nm) hw (small1000 ?_), ?_⟩
        · unfold kvB
          rw [List.length_map, List.length_cons, List.length_map]
          have := List.length_filter_le (isIn rs z) (rs.take i)
          rw [List.length_take] at this
          omega
        · refine ⟨_, rfl, fun b o nb e => by rw [upd_ne nb]; exact sb b o nb e, ?_⟩
          rw [upd_same, kvB_put nw, filter_take hr', if_pos hc]
          rfl
      · refine ⟨_, rfl, sb, ?_⟩
        rw [filter_take hr', if_neg hc, List.append_nil]
        exact hw
    · rintro σ H2 ⟨v, rfl, sb, hw⟩
      have e : (kvF (fun r => V.str r.fo) rs).length = rs.length := by unfold kvF; rw [List.length_map]
      rw [e, List.take_length] at hw
      refine ⟨sb _ _ fw l2, ?_⟩
      have hw' : (upd H2 f (.dK (kvF (fun r => .str r.fo) rs))) wd = some (.dK (kvB (z :: belowL rs z))) := by rw [upd_ne fw.symm]; exact hw
      have sH : Same H (upd H2 f (.dK (kvF (fun r => .str r.fo) rs))) := fun b o eb => by
        by_cases hb : b = f
        · rw [hb, upd_same, ← h4, ← hb]; exact eb
        · rw [upd_ne hb]
          exact sb b o (ne_of_none eb hwd) (l4 b o hb eb)
      refine ⟨_, rfl, wd, _, rfl, hw', fun u hu' => ⟨_, rfl, u, _, rfl, SqL.of upd_same, fun D hD => ?_⟩⟩
      refine hq D _ ?_ ((sH.trans (Same.new hu')).trans (Same.new hD)) ?_
      · exact (sH.trans (Same.new hu')).free hD
      · have e3 : (kvB (z :: belowL rs z)).map (fun kv => kV kv.1) = V.str z :: (belowL rs z).map V.str := by
          unfold kvB
          rw [List.map_map]
          rfl
        rw [upd_same, e3, cutV_tail]
end
end Ts

set_option maxRecDepth 100000
set_option maxHeartbeats 4000000
namespace Ts
open PySem L2
/-- a list of rows, all tuples -/
structure RowsL (H : Hp) (p : Addr) (rs : List Row) : Prop where
  ex : ∃ as : List Addr, H p = some (.lst (as.map V.ref)) ∧ RowsAt H as rs
theorem RowsL.same {H H' : Hp} {p : Addr} {rs : List Row} (h : RowsL H p rs) (s : Same H H') : RowsL H' p rs := by
  obtain ⟨as, h1, h2⟩ := h.ex
  exact ⟨as, s _ _ h1, h2.same s⟩
def spWay : Sp := fun vs H Q _ => ∃ (p : Addr) (z : Str) (rs : List Row), vs = [.ref p, .str z] ∧ RowsL H p rs ∧ Valid rs ∧ rs.length ≤ 100 ∧ (z = ("top" : Str) ∨ z ∈ names rs) ∧
  ∀ D H', H D = none → Same H H' → H' D = some (.lst ((wayOf rs z).map V.str)) → Q (.ref D) H'
theorem atI0 (a b c d : V) : atI [a, b, c, d] 0 = some a := rfl
theorem atI1 (a b c d : V) : atI [a, b, c, d] 1 = some b := rfl
theorem atI2 (a b c d : V) : atI [a, b, c, d] 2 = some c := rfl
theorem atI3 (a b c d : V) : atI [a, b, c, d] 3 = some d := rfl
theorem merge_kvF (g : Row → V) {rs : List Row} (h : Valid rs) : ∀ n, n ≤ rs.length → mergeK [] (kvF g (rs.take n)) = kvF g (rs.take n) := by
  intro n
  induction n with
  | zero => intro _; rfl
  | succ n ih =>
    intro hn
    have hr : rs[n]? = some rs[n] := List.getElem?_eq_getElem (by omega)
    have e : kvF g (rs.take (n + 1)) = kvF g (rs.take n) ++ [(.inr rs[n].nm, g rs[n])] := by
      rw [take_more hr]; unfold kvF; rw [List.map_append]; rfl
    rw [e]
    unfold mergeK
    rw [List.foldl_append]
    have ih' := ih (by omega)
    unfold mergeK at ih'
    rw [ih']
    show putK (kvF g (rs.take n)) (.inr rs[n].nm) (g rs[n]) = _
    rw [kvF_more hr (h n _ hr).new, e]
theorem merge_all (g : Row → V) {rs : List Row} (h : Valid rs) : mergeK [] (kvF g rs) = kvF g rs := by
  have := merge_kvF g h rs.length (Nat.le_refl _)
  rw [List.take_length] at this
  exact this
def muWay (rs : List Row) : List (Option V) → Hp → Nat
  | _ :: some (.str z) :: _, _ => (wayOf rs z).length
  | _, _ => 0
theorem way_len {rs : List Row} {z : Str} : (wayOf rs z).length ≤ rs.length := by
  have : ∀ (l : List Row) (z : Str), (wayR l z).length ≤ l.length := by
    intro l
    induction l with
    | nil => intro z; exact Nat.le_refl _
    | cons r l ih =>
      intro z
      unfold wayR
      split
      · rw [List.length_append, List.length_singleton, List.length_cons]; have := ih r.fo; omega
      · rw [List.length_cons]; have := ih z; omega
  have q := this rs.reverse z
  rw [List.length_reverse] at q
  exact q
theorem Valid.foAll {rs : List Row} (h : Valid rs) {r : Row} (hr : r ∈ rs) : r.fo = ("top" : Str) ∨ r.fo ∈ names rs := by
  obtain ⟨i, hi, e⟩ := List.mem_iff_getElem.mp hr
  have := h.fo (i := i) (r := r) (by rw [← e]; exact List.getElem?_eq_getElem hi)
  exact this.imp id names_take
section
variable {P : Program} {w : World} {K : PySem.W.Frag} {mg : Str → Option Value} {base : Heap} {C : Addr}
end
end Ts

set_option maxRecDepth 100000
set_option maxHeartbeats 4000000
namespace Ts
open PySem L2
/-! ### what changes a tree -/
theorem Valid.append {pre L : List Row} (h : Valid pre) (k : ∀ i r, L[i]? = some r → Fits (pre ++ L.take i) r) : Valid (pre ++ L) := by
  intro i r hr
  rcases Nat.lt_or_ge i pre.length with hi | hi
  · rw [List.getElem?_append_left hi] at hr
    rw [List.take_append_of_le_length (Nat.le_of_lt hi)]
    exact h i r hr
  · rw [List.getElem?_append_right hi] at hr
    have e : (pre ++ L).take i = pre ++ L.take (i - pre.length) := by
      rw [List.take_append, List.take_of_length_le hi]
    rw [e]
    exact k _ _ hr
/-- where a kept row stood -/
theorem filter_at {p : Row → Bool} : ∀ {rs : List Row} {i : Nat} {r : Row}, (rs.filter p)[i]? = some r → ∃ j, rs[j]? = some r ∧ p r = true ∧ (rs.filter p).take i = (rs.take j).filter p
  | [], _, _, h => by simp at h
  | q :: rs, i, r, h => by
    by_cases e : p q = true
    · rw [List.filter_cons_of_pos e] at h ⊢
      cases i with
      | zero =>
        have : q = r := by simpa using h
        subst this
        exact ⟨0, rfl, e, by simp⟩
      | succ i =>
        obtain ⟨j, h1, h2, h3⟩ := filter_at (rs := rs) (i := i) (r := r) (by simpa using h)
        refine ⟨j + 1, by simpa using h1, h2, ?_⟩
        rw [List.take_succ_cons, List.take_succ_cons, List.filter_cons_of_pos e, h3]
    · rw [List.filter_cons_of_neg e] at h ⊢
      obtain ⟨j, h1, h2, h3⟩ := filter_at (rs := rs) (i := i) (r := r) h
      refine ⟨j + 1, by simpa using h1, h2, ?_⟩
      rw [List.take_succ_cons, List.filter_cons_of_neg e, h3]
theorem Valid.filter {rs : List Row} {p : Row → Bool} (h : Valid rs) (hp : ∀ r ∈ rs, p r = true → ∀ q ∈ rs, q.nm = r.fo → p q = true) : Valid (rs.filter p) := by
  intro i r hr
  obtain ⟨j, h1, h2, h3⟩ := filter_at hr
  rw [h3]
  have f := h j r h1
  refine ⟨f.shape, f.top, fun hm => ?_, ?_, f.kind, f.price⟩
  · obtain ⟨q, hq, e⟩ := List.mem_map.mp hm
    exact f.new (List.mem_map.mpr ⟨q, (List.mem_filter.mp hq).1, e⟩)
  · rcases f.home with e | ⟨q, hq, e1, e2⟩
    · exact .inl e
    · exact .inr ⟨q, List.mem_filter.mpr ⟨hq, hp r (List.mem_of_getElem? h1) h2 q (List.mem_of_mem_take hq) e1⟩, e1, e2⟩
/-- what lies beneath z, z with it -/
def under (rs : List Row) (z : Str) (r : Row) : Bool := decide (z ∈ wayOf rs r.nm)
theorem under_self {rs : List Row} (h : Valid rs) {z : Str} {r : Row} (hr : r ∈ rs) (e : r.nm = z) : under rs z r = true := by
  unfold under
  rw [← e]
  exact decide_eq_true (way_self h (List.mem_map.mpr ⟨r, hr, rfl⟩))
theorem under_iff {rs : List Row} (h : Valid rs) {z : Str} (hz : z ≠ ("top" : Str)) {r : Row} (hr : r ∈ rs) : under rs z r = (decide (r.nm = z) || isIn rs z r) := by
  by_cases e : r.nm = z
  · rw [under_self h hr e, decide_eq_true e, Bool.true_or]
  · rw [decide_eq_false e, Bool.false_or]
    unfold isIn under
    rw [decide_eq_true e, decide_eq_false hz, Bool.true_and, Bool.false_or]
theorem gone_iff {rs : List Row} (h : Valid rs) {z : Str} (hz : z ≠ ("top" : Str)) {r : Row} (hr : r ∈ rs) : decide (r.nm ∈ z :: belowL rs z) = under rs z r := by
  rw [under_iff h hz hr]
  by_cases e : r.nm = z
  · rw [decide_eq_true e, Bool.true_or]
    exact decide_eq_true (by rw [e]; exact List.mem_cons_self ..)
  · rw [decide_eq_false e, Bool.false_or]
    by_cases i : isIn rs z r = true
    · rw [i]
      exact decide_eq_true (List.mem_cons_of_mem _ (List.mem_map.mpr ⟨r, List.mem_filter.mpr ⟨hr, i⟩, rfl⟩))
    · rw [Bool.not_eq_true] at i
      rw [i]
      refine decide_eq_false fun hm => ?_
      rcases List.mem_cons.mp hm with q | q
      · exact e q
      · obtain ⟨r2, h2, e2⟩ := List.mem_map.mp q
        obtain ⟨h3, h4⟩ := List.mem_filter.mp h2
        unfold isIn at h4 i
        rw [e2] at h4
        rw [h4] at i
        cases i
/-- a row whose folder lies beneath z does so, too -/
theorem under_up {rs : List Row} (h : Valid rs) {z : Str} {r q : Row} (hr : r ∈ rs) (hq : q ∈ rs) (e : q.nm = r.fo) (hu : under rs z q = true) : under rs z r = true := by
  unfold under at hu ⊢
  rw [way_step h hr, ← e]
  exact decide_eq_true (List.mem_append_left _ (of_decide_eq_true hu))
def lessL (rs : List Row) (z : Str) : List Row := rs.filter fun r => !under rs z r
theorem less_valid {rs : List Row} (h : Valid rs) (z : Str) : Valid (lessL rs z) :=
  h.filter fun r hr hp q hq e => by
    cases hu : under rs z q with
    | false => rfl
    | true => rw [under_up h hr hq e hu] at hp; cases hp
/-- the rows behind a move -/
def movedL (rs : List Row) (m : Row) (fo : Str) : List Row := lessL rs m.nm ++ ({ m with fo := fo } :: rs.filter (isIn rs m.nm))
theorem moved_valid {rs : List Row} (h : Valid rs) {m : Row} (hm : m ∈ rs) {fo : Str} (hf : fo = ("top" : Str) ∨ ∃ q ∈ rs, q.nm = fo ∧ q.ki = ("folder" : Str) ∧ under rs m.nm q = false) : Valid (movedL rs m fo) := by
  have mt : m.nm ≠ ("top" : Str) := fun e => top_not h (by rw [← e]; exact List.mem_map.mpr ⟨m, hm, rfl⟩)
  obtain ⟨k, hk, ek⟩ := List.mem_iff_getElem.mp hm
  have fm := h k m (by rw [← ek]; exact List.getElem?_eq_getElem hk)
  have v1 : Valid (lessL rs m.nm ++ [{ m with fo := fo }]) := by
    refine (less_valid h m.nm).snoc ⟨fm.shape, fm.top, fun hx => ?_, ?_, fm.kind, fm.price⟩
    · obtain ⟨q, hq, e⟩ := List.mem_map.mp hx
      obtain ⟨q1, q2⟩ := List.mem_filter.mp hq
      rw [under_self h q1 e] at q2
      cases q2
    · rcases hf with e | ⟨q, hq, e1, e2, e3⟩
      · exact .inl e
      · exact .inr ⟨q, List.mem_filter.mpr ⟨hq, by rw [e3]; rfl⟩, e1, e2⟩
  have e : movedL rs m fo = (lessL rs m.nm ++ [{ m with fo := fo }]) ++ rs.filter (isIn rs m.nm) := by unfold movedL; simp
  rw [e]
  refine v1.append fun i r hr => ?_
  obtain ⟨j, h1, h2, h3⟩ := filter_at hr
  have f := h j r h1
  have hrm := List.mem_of_getElem? h1
  have ur : under rs m.nm r = true := by rw [under_iff h mt hrm, h2, Bool.or_true]
  have nz : r.nm ≠ m.nm := fun e => by unfold isIn at h2; simp [e] at h2
  rw [h3]
  refine ⟨f.shape, f.top, fun hx => ?_, ?_, f.kind, f.price⟩
  · rw [List.map_append, List.map_append] at hx
    rcases List.mem_append.mp hx with hx | hx
    · rcases List.mem_append.mp hx with hx | hx
      · obtain ⟨q, hq, e⟩ := List.mem_map.mp hx
        obtain ⟨q1, q2⟩ := List.mem_filter.mp hq
        have : under rs m.nm q = true := by unfold under at ur ⊢; rw [e]; exact ur
        rw [this] at q2
        cases q2
      · simp at hx
        exact nz hx
    · obtain ⟨q, hq, e⟩ := List.mem_map.mp hx
      exact f.new (List.mem_map.mpr ⟨q, (List.mem_filter.mp hq).1, e⟩)
  · rcases f.home with e | ⟨q, hq, e1, e2⟩
    · exfalso
      unfold isIn at h2
      rw [decide_eq_true nz, decide_eq_false mt, Bool.true_and, Bool.false_or, way_step h hrm, e, way_top h] at h2
      simp at h2
      exact nz h2.symm
    · by_cases eq1 : q.nm = m.nm
      · have : q = m := by
          have a := rowOf_at h (i := k) (r := m) (by rw [← ek]; exact List.getElem?_eq_getElem hk)
          obtain ⟨k2, hk2, ek2⟩ := List.mem_iff_getElem.mp (List.mem_of_mem_take hq)
          have b := rowOf_at h (i := k2) (r := q) (by rw [← ek2]; exact List.getElem?_eq_getElem hk2)
          rw [eq1, a] at b
          exact (Option.some.inj b).symm
        subst this
        exact .inr ⟨{ q with fo := fo }, by simp, e1, e2⟩
      · refine .inr ⟨q, List.mem_append_right _ (List.mem_filter.mpr ⟨hq, ?_⟩), e1, e2⟩
        have hqm := List.mem_of_mem_take hq
        have : under rs m.nm q = true := by
          unfold under at ur ⊢
          rw [way_step h hrm, ← e1] at ur
          have := of_decide_eq_true ur
          rcases List.mem_append.mp this with x | x
          · exact decide_eq_true x
          · exact absurd (List.mem_singleton.mp x).symm nz
        rw [under_iff h mt hqm, decide_eq_false eq1, Bool.false_or] at this
        exact this
theorem names_inj {rs : List Row} (h : Valid rs) {q m : Row} (hq : q ∈ rs) (hm : m ∈ rs) (e : q.nm = m.nm) : q = m := by
  obtain ⟨k, hk, ek⟩ := List.mem_iff_getElem.mp hm
  obtain ⟨k2, hk2, ek2⟩ := List.mem_iff_getElem.mp hq
  have a := rowOf_at h (i := k) (r := m) (by rw [← ek]; exact List.getElem?_eq_getElem hk)
  have b := rowOf_at h (i := k2) (r := q) (by rw [← ek2]; exact List.getElem?_eq_getElem hk2)
  rw [e, a] at b
  exact (Option.some.inj b).symm
/-- of all beneath z, z stands first -/
theorem under_split {rs : List Row} (h : Valid rs) {m : Row} (hm : m ∈ rs) : rs.filter (under rs m.nm) = m :: rs.filter (isIn rs m.nm) := by
  have mt : m.nm ≠ ("top" : Str) := fun e => top_not h (by rw [← e]; exact List.mem_map.mpr ⟨m, hm, rfl⟩)
  obtain ⟨k, hk, ek⟩ := List.mem_iff_getElem.mp hm
  have hkm : rs[k]? = some m := by rw [← ek]; exact List.getElem?_eq_getElem hk
  have e0 : rs = rs.take k ++ m :: rs.drop (k + 1) := by
    rw [← ek, List.getElem_cons_drop, List.take_append_drop]
  have a1 : (rs.take k).filter (under rs m.nm) = [] := by
    rw [List.filter_eq_nil_iff]
    intro q hq hu
    have hqn : q.nm ∈ names (rs.take k) := List.mem_map.mpr ⟨q, hq, rfl⟩
    exact (h k m hkm).new (way_pre h k hqn (of_decide_eq_true hu))
  have a2 : (rs.take k).filter (isIn rs m.nm) = [] := by
    rw [List.filter_eq_nil_iff]
    intro q hq hu
    have hqr := List.mem_of_mem_take hq
    have : under rs m.nm q = true := by rw [under_iff h mt hqr, hu, Bool.or_true]
    exact (List.filter_eq_nil_iff.mp a1) q hq this
  have b1 : under rs m.nm m = true := under_self h hm rfl
  have b2 : isIn rs m.nm m = false := by unfold isIn; simp
  have c1 : (rs.drop (k + 1)).filter (under rs m.nm) = (rs.drop (k + 1)).filter (isIn rs m.nm) := by
    refine List.filter_congr fun q hq => ?_
    have hqr := List.mem_of_mem_drop hq
    rw [under_iff h mt hqr]
    have : ¬ q.nm = m.nm := fun e => by
      have e2 := names_inj h hqr hm e
      rw [e2] at hq
      obtain ⟨j, hj, ej⟩ := List.mem_iff_getElem.mp hq
      rw [List.getElem_drop] at ej
      rw [List.length_drop] at hj
      have f := h (k + 1 + j) m (by rw [← ej]; exact List.getElem?_eq_getElem _)
      exact f.new (List.mem_map.mpr ⟨m, List.mem_take_iff_getElem.mpr ⟨k, by omega, ek⟩, rfl⟩)
    rw [decide_eq_false this, Bool.false_or]
  have l : ∀ p : Row → Bool, rs.filter p = (rs.take k).filter p ++ (m :: rs.drop (k + 1)).filter p := fun p => by
    rw [← List.filter_append, ← e0]
  rw [l (under rs m.nm), l (isIn rs m.nm), a1, a2, List.filter_cons_of_pos b1, List.filter_cons_of_neg (by rw [b2]; simp), c1]
  rfl
end Ts

set_option maxRecDepth 100000
set_option maxHeartbeats 4000000
namespace Ts
open PySem L2
/-! ### what a meaning says of a box -/
/-- the default, turned as often as boxes on the way are turned -/
def turned (d : Bool) (ts : List Str) : List Str → Bool
  | [] => d
  | x :: l => turned (if x ∈ ts then !d else d) ts l
theorem turned_snoc (ts : List Str) (x : Str) : ∀ (l : List Str) (d : Bool), turned d ts (l ++ [x]) = if x ∈ ts then !(turned d ts l) else turned d ts l
  | [], d => rfl
  | y :: l, d => turned_snoc ts x l _
theorem turned_odd (ts : List Str) : ∀ (l : List Str) (d : Bool), turned d ts l = (d != decide ((l.filter fun x => decide (x ∈ ts)).length % 2 = 1))
  | [], d => by cases d <;> rfl
  | y :: l, d => by
    show turned (if y ∈ ts then !d else d) ts l = _
    rw [turned_odd ts l]
    by_cases h : y ∈ ts
    · rw [if_pos h, List.filter_cons_of_pos (by simpa using h), List.length_cons]
      rcases Nat.mod_two_eq_zero_or_one (l.filter fun x => decide (x ∈ ts)).length with e | e
      · rw [decide_eq_false (by omega), decide_eq_true (by omega)]; cases d <;> rfl
      · rw [decide_eq_true (by omega), decide_eq_false (by omega)]; cases d <;> rfl
    · rw [if_neg h, List.filter_cons_of_neg (by simpa using h)]
def valOf (rs : List Row) (d : Bool) (ts : List Str) (z : Str) : Bool := turned d ts (wayOf rs z)
theorem val_top {rs : List Row} (h : Valid rs) (d : Bool) (ts : List Str) : valOf rs d ts ("top" : Str) = d := by
  unfold valOf; rw [way_top h]; rfl
theorem val_step {rs : List Row} (h : Valid rs) (d : Bool) (ts : List Str) {r : Row} (hr : r ∈ rs) : valOf rs d ts r.nm = (valOf rs d ts r.fo != decide (r.nm ∈ ts)) := by
  unfold valOf
  rw [way_step h hr, turned_snoc]
  by_cases e : r.nm ∈ ts
  · rw [if_pos e, decide_eq_true e]; cases turned d ts (wayOf rs r.fo) <;> rfl
  · rw [if_neg e, decide_eq_false e]; cases turned d ts (wayOf rs r.fo) <;> rfl
theorem below_top {rs : List Row} (h : Valid rs) : belowL rs ("top" : Str) = names rs := by
  unfold belowL names
  have : rs.filter (isIn rs ("top" : Str)) = rs := by
    rw [List.filter_eq_self]
    intro r hr
    have : r.nm ≠ ("top" : Str) := fun e => top_not h (by rw [← e]; exact List.mem_map.mpr ⟨r, hr, rfl⟩)
    unfold isIn
    rw [decide_eq_true this, decide_eq_true rfl]; rfl
  rw [this]
/-- the values of all places, the top ahead -/
def kvM (rs : List Row) (d : Bool) (ts : List Str) (l : List Row) : List (Key × V) := (.inr ("top" : Str), .bl d) :: kvF (fun r => .bl (valOf rs d ts r.nm)) l
theorem valV_kvM {rs : List Row} (h : Valid rs) (d : Bool) (ts : List Str) {l : List Row} {z : Str} (hz : z = ("top" : Str) ∨ (z ≠ ("top" : Str) ∧ z ∈ names l)) : valV (kvM rs d ts l) (.inr z : Key) = some (.bl (valOf rs d ts z)) := by
  rcases hz with rfl | ⟨hn, hz⟩
  · show valV ((.inr ("top" : Str), .bl d) :: kvF (fun r => .bl (valOf rs d ts r.nm)) l) (.inr ("top" : Str) : Key) = _
    rw [valV_pos rfl, val_top h]
  · show valV ((.inr ("top" : Str), .bl d) :: kvF (fun r => .bl (valOf rs d ts r.nm)) l) (.inr z : Key) = _
    rw [valV_neg (fun q => hn (Sum.inr.inj q).symm), valV_kvF]
    obtain ⟨r, e, _, e2⟩ := rowOf_some hz
    rw [show (l.find? fun r => decide (r.nm = z)) = some r from e]
    show some (V.bl (valOf rs d ts r.nm)) = _
    rw [e2]
theorem kvM_more {rs : List Row} (h : Valid rs) (d : Bool) (ts : List Str) {i : Nat} {r : Row} (hr : rs[i]? = some r) : putK (kvM rs d ts (rs.take i)) (.inr r.nm) (.bl (valOf rs d ts r.nm)) = kvM rs d ts (rs.take (i + 1)) := by
  have f := h i r hr
  rw [putK_new _ (by
    show (valV ((.inr ("top" : Str), .bl d) :: kvF (fun r => .bl (valOf rs d ts r.nm)) (rs.take i)) (.inr r.nm : Key)) = none
    rw [valV_neg (fun q => f.top (Sum.inr.inj q).symm), valV_kvF, find_none f.new]; rfl), take_more hr]
  unfold kvM kvF
  rw [List.map_append]
  rfl
def spValues (C : Addr) : Sp := fun vs H Q _ => ∃ (t u : Addr) (d : Bool) (ts : List Str) (rs : List Row), vs = [.ref t, .bl d, .ref u] ∧ TreeAt C H t rs ∧ H u = some (.tup (ts.map V.str)) ∧
  ∀ D H', H D = none → Same H H' → H' D = some (.dK (kvM rs d ts rs)) → Q (.ref D) H'
section
variable {P : Program} {w : World} {K : PySem.W.Frag} {mg : Str → Option Value} {base : Heap} {C : Addr}
abbrev nValues : List Str := ["tree", "default", "turns", "values", "box"]
theorem sc_values_of : FnScope nValues ["tree", "default", "turns"] (defScope s_values_of) := ⟨rfl, rfl, rfl, by decide +kernel, rfl, by decide +kernel, by decide +kernel⟩
theorem ok_values_of (D : DefAt K mg "values_of" s_values_of ["tree", "default", "turns"]) (TC : TxC K mg) (T : TxT K mg C)
    (mB : MethAt K C "below" "Tree.below" s_Tree_below ["self", "box"]) (GB : FnOk P w K mg base CX0 5 mB.f mB.fd ["self", "box"] (spListOf C belowL))
    (mF : MethAt K C "folder" "Tree.folder" s_Tree_folder ["self", "box"]) (GF : FnOk P w K mg base CX0 4 mF.f mF.fd ["self", "box"] (spGet C fun r => .str r.fo)) : FnOk P w K mg base CX0 6 D.f D.fd ["tree", "default", "turns"] (spValues C) := by
  obtain ⟨t1, gT⟩ := TC.top
  refine D.F.ok sc_values_of (fun vs H Q E h => ?_) (fun cdv A outer s H vs Q E hr h => ?_)
  · obtain ⟨t, u, d, ts, rs, rfl, _⟩ := h
    rfl
  · obtain ⟨t, u, d, ts, rs, rfl, ht, hu', hq⟩ := h
    have hu := hu_of hr
    have hr3 : Room 4 _ := hr.mono (by decide)
    refine ⟨_, pss_cons (ps_set (i := 3) sc_values_of.nd rfl (.inl rfl) (pe_disp (pps_cons (pe_glob (by rfl) gT (v := .str ("top" : Str)) ⟨_, rfl⟩) (pv 1) pps_nil) (by rfl) (by rfl) (fun z => by cases z) (by decide)))
      (pss_cons (ps_for PassesOwn.never rfl (pi_list (pe_meth (pv 0) T.cl mB.m GB hr mB.b .nil pass0 (pa_cons (pe_glob (by rfl) gT (v := .str ("top" : Str)) ⟨_, rfl⟩) pa_nil))) (pg_name (i := 4) sc_values_of.nd rfl (.inl rfl))
        (pss_one (ps_dput hu (pv 3) (pv 4) (pe_cmpR op_ne (pe_dget hu (pv 3) (pe_meth (pv 0) T.cl mF.m GF hr3 mF.b .nil pass0 (pa_cons (pv 4) pa_nil)) (fun _ _ => rfl)) (pe_cmpR op_in_seq (pv 4) (pv 2) (by rfl)) (nomark _)) rfl)))
      (pss_one (ps_ret (pv 3)))), ?_⟩
    have hv := ht.val
    have l100 := ht.len
    obtain ⟨dx, q, f, k, p, qs, h1, h2, h3, h4, h5, h6⟩ := id ht.ex
    have noB : (tf q f k p).lookup ("below" : Str) = none := tf_no _ _ _ _ (by decide +kernel) (by decide +kernel) (by decide +kernel) (by decide +kernel)
    have noF : (tf q f k p).lookup ("folder" : Str) = none := tf_no _ _ _ _ (by decide +kernel) (by decide +kernel) (by decide +kernel) (by decide +kernel)
    refine fun wd hwd => ⟨_, rfl, upd_same, [(.inr ("top" : Str), .bl d)], rfl, (by show 1 ≤ 15; decide), ?_⟩
    have sA : Same H (upd (upd H wd (.dK [])) wd (.dK (mergeK [] [(.inr ("top" : Str), .bl d)]))) := fun b o e => by
      rw [upd_ne (ne_of_none e hwd), upd_ne (ne_of_none e hwd)]; exact e
    have eA : (upd (upd H wd (.dK [])) wd (.dK (mergeK [] [(.inr ("top" : Str), .bl d)]))) wd = some (.dK (kvM rs d ts [])) := upd_same
    generalize upd (upd H wd (.dK [])) wd (.dK (mergeK [] [(.inr ("top" : Str), .bl d)])) = H1 at sA eA
    refine ⟨_, rfl, t, dx, _, rfl, sA _ _ h1, noB, t, ("top" : Str), rs, rfl, ht.same sA, .inl rfl, fun bl H2 hbl s2 e2 => ?_⟩
    rw [below_top hv] at e2
    have sB := sA.trans s2
    have nw : ∀ {b : Addr} {o : HO}, H b = some o → b ≠ wd := fun {b o} e => ne_of_none e hwd
    have nbw : bl ≠ wd := fun e => by rw [← e, hbl] at eA; cases eA
    refine ⟨bl, rfl, ⟨_, SqL.of e2⟩, ?_⟩
    refine for_list (K := K) (a := bl) (xs := (names rs).map V.str) (fun i σ H' => ∃ v : Option V, σ = [some (.ref t), some (.bl d), some (.ref u), some (.ref wd), v] ∧ SB wd H2 H' ∧ H' wd = some (.dK (kvM rs d ts (rs.take i)))) ⟨_, rfl, SB.refl _ _, s2 _ _ eA⟩ (fun i σ H' _ ⟨_, _, sb, _⟩ => SqL.of (sb _ _ nbw e2)) ?_ ?_
    · rintro i x σ H3 hx ⟨v, rfl, sb, hw⟩
      unfold names at hx
      rw [List.getElem?_map, List.getElem?_map] at hx
      obtain ⟨n1, hn1, rfl⟩ := Option.map_eq_some_iff.mp hx
      obtain ⟨r, hr', rfl⟩ := Option.map_eq_some_iff.mp hn1
      have hrm := List.mem_of_getElem? hr'
      have ro := rowOf_at hv hr'
      have s3 : SB wd H H3 := (SB.of sB).trans sb
      have t3 : TreeAt C H3 t rs := by
        refine ⟨⟨dx, q, f, k, p, qs, s3 _ _ (nw h1) h1, s3 _ _ (nw h2) h2, ⟨h3.len, fun j b w hb hw => s3 _ _ (nw (h3.at_ j b w hb hw)) (h3.at_ j b w hb hw)⟩, s3 _ _ (nw h4) h4, s3 _ _ (nw h5) h5, s3 _ _ (nw h6) h6⟩, hv, l100⟩
      have fo : r.fo = ("top" : Str) ∨ (r.fo ≠ ("top" : Str) ∧ r.fo ∈ names (rs.take i)) := by
        by_cases e : r.fo = ("top" : Str)
        · exact .inl e
        · exact .inr ⟨e, (hv.fo hr').resolve_left e⟩
      have dg := DGet.k (k := Sum.inr r.fo) hw
      rw [valV_kvM hv d ts fo] at dg
      refine ⟨_, rfl, _, rfl, t, dx, _, rfl, s3 _ _ (nw h1) h1, noF, _, rfl, t, r.nm, rs, r, rfl, t3, ro, wd, _, rfl, dg, _, rfl, _, rfl, u, _, rfl, .inr (sqT (s3 _ _ (nw hu') hu')), rfl, flat_strs _, rfl, ?_⟩
      refine ⟨_, rfl, _, rfl, wd, _, rfl, DPut.k (k := Sum.inr r.nm) hw (small1000 (by unfold kvM kvF; rw [List.length_cons, List.length_map, List.length_take]; omega)), ?_⟩
      refine ⟨_, rfl, fun b o nb e => by rw [upd_ne nb]; exact sb b o nb e, ?_⟩
      rw [upd_same, ← kvM_more hv d ts hr', val_step hv d ts hrm]
      have e : (if false = true then !inV (.str r.nm) (ts.map V.str) else inV (.str r.nm) (ts.map V.str)) = decide (r.nm ∈ ts) := by
        rw [if_neg Bool.false_ne_true, inV_strs]
      rw [e]
      congr 3
      cases valOf rs d ts r.fo <;> cases decide (r.nm ∈ ts) <;> rfl
    · rintro σ H3 ⟨v, rfl, sb, hw⟩
      unfold names at hw
      rw [List.length_map, List.length_map, List.take_length] at hw
      exact ⟨_, rfl, hq wd H3 hwd (fun b o e => (SB.of sB).trans sb b o (nw e) e) hw⟩
end
end Ts

set_option maxRecDepth 100000
set_option maxHeartbeats 4000000
namespace Ts
open PySem L2
def Free (rs : List Row) (x : Str) : Prop := ∃ r, rowOf rs x = some r ∧ r.pr ≠ none
theorem Free.mem {rs : List Row} {x : Str} (h : Free rs x) : x ∈ names rs := by
  obtain ⟨r, e, _⟩ := h
  have e' : rs.find? (fun r => decide (r.nm = x)) = some r := e
  have e2 := List.find?_some e'
  exact List.mem_map.mpr ⟨r, List.mem_of_find?_eq_some e', of_decide_eq_true e2⟩
/-- a list or a tuple, the program's own ones too -/
def SqX (K : PySem.W.Frag) (H : Hp) (a : Addr) (xs : List V) : Prop := SqL K H a xs ∨ SqT K H a xs
theorem SqX.eq {K : PySem.W.Frag} {H H' : Hp} {a : Addr} {xs : List V} (h : SqX K H a xs) (e : H' a = H a) : SqX K H' a xs := by
  unfold SqX SqL SqT Rd at h ⊢
  rw [e]
  exact h
theorem SqX.keep {K : PySem.W.Frag} {H H' : Hp} {a : Addr} {xs : List V} (h : SqX K H a xs) (s : ∀ o, (∀ C dx fs, o ≠ HO.ins C dx fs) → H a = some o → H' a = some o) : SqX K H' a xs := by
  rcases h with ((h | ⟨o, h⟩) | h) | ((h | ⟨o, h⟩) | h)
  · exact .inl (.inl (.inl (s _ (fun _ _ _ z => by cases z) h)))
  · exact .inl (.inl (.inr ⟨o, s _ (fun _ _ _ z => by cases z) h⟩))
  · exact .inl (.inr h)
  · exact .inr (.inl (.inl (s _ (fun _ _ _ z => by cases z) h)))
  · exact .inr (.inl (.inr ⟨o, s _ (fun _ _ _ z => by cases z) h⟩))
  · exact .inr (.inr h)
theorem SqX.same {K : PySem.W.Frag} {H H' : Hp} {a : Addr} {xs : List V} (h : SqX K H a xs) (s : Same H H') : SqX K H' a xs := h.keep fun o _ e => s _ _ e
theorem SqX.sbm {K : PySem.W.Frag} {H H' : Hp} {a m C dx : Addr} {fs : List (Str × V)} {xs : List V} (h : SqX K H a xs) (hm : H m = some (.ins C dx fs)) (s : SB m H H') : SqX K H' a xs :=
  h.keep fun o no e => s _ _ (fun q => by rw [q, hm] at e; exact no _ _ _ (Option.some.inj e).symm) e
/-- x itself, a list or a tuple, in slot i -/
def iSeqX (K : PySem.W.Frag) (i : Nat) : TI := fun σ H R => ∃ (a : Addr) (xs : List V), σ[i]? = some (some (.ref a)) ∧ SqX K H a xs ∧ ∀ J, Walk J xs.length (fun H' => H' a = H a) (YAt xs) → R J H
theorem pi_seqX {X : Cx} {e tg : Expr} {i : Nat} (he : PE X e (tVar i)) : PI X tg e (iSeqX X.K i) := by
  refine ⟨fun pins s σ H R I h => ?_⟩
  obtain ⟨a, xs, e1, hq, k⟩ := h
  have sub : ∀ {H' : Hp}, H' a = H a → (SqL X.K H a xs → SqL X.K H' a xs) ∧ (SqT X.K H a xs → SqT X.K H' a xs) := fun {H'} e => by
    unfold SqL SqT Rd
    rw [e]
    exact ⟨id, id⟩
  rcases hq with hq | hq
  · exact (pi_list he).run pins s σ H R I ⟨_, e1, a, rfl, ⟨_, hq⟩, k _ (walk_list.mono (fun H' e => (sub e).1 hq) fun _ _ _ _ _ _ y => y)⟩
  · exact (pi_tup he).run pins s σ H R I ⟨_, e1, a, rfl, ⟨_, hq⟩, k _ (walk_tup.mono (fun H' e => (sub e).2 hq) fun _ _ _ _ _ _ y => y)⟩
def spCheckTurns (K : PySem.W.Frag) (C : Addr) : Sp := fun vs H Q _ => ∃ (t u : Addr) (xs : List Str) (rs : List Row), vs = [.ref t, .ref u] ∧ TreeAt C H t rs ∧ SqX K H u (xs.map V.str) ∧ (∀ x ∈ xs, Free rs x) ∧ Q .non H
def mf (t u k : Addr) (d : Bool) : List (Str × V) := putF "known" (.ref k) (putF "turns" (.ref u) (putF "default" (.bl d) (putF "tree" (.ref t) [])))
/-- the turned boxes, in the tree's order -/
def turnsL (rs : List Row) (xs : List Str) : List Str := (names rs).filter fun z => decide (z ∈ xs)
theorem turnsL_norm (rs : List Row) (xs : List Str) : turnsL rs xs = turnsL rs (turnsL rs xs) := by
  unfold turnsL
  refine List.filter_congr fun z hz => ?_
  by_cases e : z ∈ xs
  · simp [e, hz]
  · simp [e]
structure MeanAt (C CM : Addr) (H : Hp) (m t : Addr) (rs : List Row) (d : Bool) (ts : List Str) : Prop where
  ex : ∃ (dx u k : Addr), H m = some (.ins CM dx (mf t u k d)) ∧ H u = some (.tup (ts.map V.str)) ∧ H k = some (.dK (kvM rs d ts rs))
  tree : TreeAt C H t rs
  norm : ts = turnsL rs ts
theorem MeanAt.sub {C CM : Addr} {H : Hp} {m t : Addr} {rs : List Row} {d : Bool} {ts : List Str} (h : MeanAt C CM H m t rs d ts) : ∀ x ∈ ts, x ∈ names rs := fun x hx => by
  rw [h.norm] at hx
  exact (List.mem_filter.mp hx).1
theorem MeanAt.len {C CM : Addr} {H : Hp} {m t : Addr} {rs : List Row} {d : Bool} {ts : List Str} (h : MeanAt C CM H m t rs d ts) : ts.length ≤ 100 := by
  rw [h.norm]
  unfold turnsL names
  have h1 := List.length_filter_le (fun z => decide (z ∈ ts)) (rs.map (·.nm))
  have h2 := h.tree.len
  rw [List.length_map] at h1
  omega
theorem MeanAt.same {C CM : Addr} {H H' : Hp} {m t : Addr} {rs : List Row} {d : Bool} {ts : List Str} (h : MeanAt C CM H m t rs d ts) (s : Same H H') : MeanAt C CM H' m t rs d ts := by
  obtain ⟨dx, u, k, h1, h2, h3⟩ := h.ex
  exact ⟨⟨dx, u, k, s _ _ h1, s _ _ h2, s _ _ h3⟩, h.tree.same s, h.norm⟩
structure TxM (K : PySem.W.Frag) (mg : Str → Option Value) (CM : Addr) : Prop where
  cl : Cls K CM
  nt : NoAttr K CM "tree"
  nd : NoAttr K CM "default"
  nu : NoAttr K CM "turns"
  nk : NoAttr K CM "known"
  g : mg "Meaning" = some (.ref CM)
def spMeaningInit (K : PySem.W.Frag) (C CM : Addr) : Sp := fun vs H Q _ => ∃ (m dx t h : Addr) (d : Bool) (xs : List Str) (rs : List Row), vs = [.ref m, .ref t, .bl d, .ref h] ∧ H m = some (.ins CM dx []) ∧ TreeAt C H t rs ∧ SqX K H h (xs.map V.str) ∧ (∀ x ∈ xs, Free rs x) ∧
  ∀ H', SB m H H' → MeanAt C CM H' m t rs d (turnsL rs xs) → Q .non H'
section
variable {P : Program} {w : World} {K : PySem.W.Frag} {mg : Str → Option Value} {base : Heap} {C CM : Addr}
abbrev nCheckTurns : List Str := ["tree", "turns", "box"]
theorem sc_check_turns : FnScope nCheckTurns ["tree", "turns"] (defScope s_check_turns) := ⟨rfl, rfl, rfl, by decide +kernel, rfl, by decide +kernel, by decide +kernel⟩
theorem ok_check_turns (D : DefAt K mg "check_turns" s_check_turns ["tree", "turns"]) (Db : DefAt K mg "check_box" s_check_box ["tree", "thing"]) (Gb : FnOk P w K mg base CX0 3 Db.f Db.fd ["tree", "thing"] (spBox C)) (T : TxT K mg C)
    (mP : MethAt K C "price" "Tree.price" s_Tree_price ["self", "box"]) (GP : FnOk P w K mg base CX0 4 mP.f mP.fd ["self", "box"] (spGet C fun r => prV r.pr)) : FnOk P w K mg base CX0 5 D.f D.fd ["tree", "turns"] (spCheckTurns K C) := by
  refine D.F.ok sc_check_turns (fun vs H Q E h => ?_) (fun cdv A outer s H vs Q E hr h => ?_)
  · obtain ⟨t, u, xs, rs, rfl, _⟩ := h
    rfl
  · obtain ⟨t, u, xs, rs, rfl, ht, hx, hfree, hq⟩ := h
    have hr2 : Room 3 _ := hr.mono (by decide)
    obtain ⟨dx, q, f, k, p, qs, h1, h2, h3, h4, h5, h6⟩ := id ht.ex
    have noP : (tf q f k p).lookup ("price" : Str) = none := tf_no _ _ _ _ (by decide +kernel) (by decide +kernel) (by decide +kernel) (by decide +kernel)
    refine ⟨_, pss_cons (ps_for PassesOwn.never rfl (pi_seqX (i := 1) (pv 1)) (pg_name (i := 2) sc_check_turns.nd rfl (.inl rfl))
        (pss_one (ps_expr (pe_call Gb hr2 rfl Db.g Db.F.kp Db.b .nil pass0 (pa_cons (pv 0) (pa_cons (pv 2) pa_nil))))))
      (pss_one (ps_for PassesOwn.never rfl (pi_seqX (i := 1) (pv 1)) (pg_name (i := 2) sc_check_turns.nd rfl (.inl rfl))
        (pss_one (ps_if (pt_cmpR op_isN (pe_meth (pv 0) T.cl mP.m GP hr mP.b .nil pass0 (pa_cons (pv 2) pa_nil)) pe_non (nomark _)) (pss_one ps_never) pss_nil)))), ?_⟩
    have at_ : ∀ {i : Nat} {x : V}, (xs.map V.str)[i]? = some x → ∃ z, x = .str z ∧ Free rs z := fun {i x} hx => by
      rw [List.getElem?_map] at hx
      obtain ⟨z, hz, rfl⟩ := Option.map_eq_some_iff.mp hx
      exact ⟨z, rfl, hfree z (List.mem_of_getElem? hz)⟩
    refine ⟨u, _, rfl, hx, fun J W => ?_⟩
    refine for_it W (fun i σ H' => ∃ v : Option V, σ = [some (.ref t), some (.ref u), v] ∧ H' = H) ⟨none, rfl, rfl⟩ (fun i σ H' _ ⟨_, _, e⟩ => by rw [e]) ?_ ?_
    · rintro i x σ H2 H3 hi ⟨v, rfl, rfl⟩ ⟨rfl, hxi⟩
      obtain ⟨z, rfl, hz⟩ := at_ hxi
      exact ⟨_, rfl, _, rfl, t, z, rs, rfl, ht, hz.mem, _, rfl, rfl⟩
    rintro σ H2 ⟨v, rfl, rfl⟩
    refine ⟨u, _, rfl, hx, fun J W => ?_⟩
    refine for_it W (fun i σ H' => ∃ v : Option V, σ = [some (.ref t), some (.ref u), v] ∧ H' = H2) ⟨v, rfl, rfl⟩ (fun i σ H' _ ⟨_, _, e⟩ => by rw [e]) ?_ ?_
    · rintro i x σ H3 H4 hi ⟨v, rfl, rfl⟩ ⟨rfl, hxi⟩
      obtain ⟨z, rfl, r, hr', hp⟩ := at_ hxi
      refine ⟨_, rfl, t, dx, _, rfl, h1, noP, _, rfl, t, z, rs, r, rfl, ht, hr', ?_⟩
      have e2 : decide ((fun r : Row => prV r.pr) r = V.non) = false := by
        cases e : r.pr with
        | none => exact absurd e hp
        | some i => show decide (prV r.pr = V.non) = false; rw [e]; exact decide_eq_false (fun h => by cases h)
      refine ⟨rfl, _, rfl, ?_⟩
      rw [e2]
      exact iteF ⟨_, rfl, rfl⟩
    · rintro σ H3 ⟨v, rfl, rfl⟩
      exact hq
end
end Ts

set_option maxRecDepth 100000
set_option maxHeartbeats 4000000
namespace Ts
open PySem L2
theorem mtd_ : ¬ (("tree" : Str) = "default") := by decide +kernel
theorem mtu_ : ¬ (("tree" : Str) = "turns") := by decide +kernel
theorem mtk_ : ¬ (("tree" : Str) = "known") := by decide +kernel
theorem mdu_ : ¬ (("default" : Str) = "turns") := by decide +kernel
theorem mdk_ : ¬ (("default" : Str) = "known") := by decide +kernel
theorem muk_ : ¬ (("turns" : Str) = "known") := by decide +kernel
theorem mf_t (t u k : Addr) (d : Bool) : (mf t u k d).lookup ("tree" : Str) = some (.ref t) := by
  unfold mf
  rw [lookup_putF, if_neg mtk_, lookup_putF, if_neg mtu_, lookup_putF, if_neg mtd_, lookup_putF, if_pos rfl]
theorem mf_d (t u k : Addr) (d : Bool) : (mf t u k d).lookup ("default" : Str) = some (.bl d) := by
  unfold mf
  rw [lookup_putF, if_neg mdk_, lookup_putF, if_neg mdu_, lookup_putF, if_pos rfl]
theorem mf_u (t u k : Addr) (d : Bool) : (mf t u k d).lookup ("turns" : Str) = some (.ref u) := by
  unfold mf
  rw [lookup_putF, if_neg muk_, lookup_putF, if_pos rfl]
theorem mf_k (t u k : Addr) (d : Bool) : (mf t u k d).lookup ("known" : Str) = some (.ref k) := by
  unfold mf
  rw [lookup_putF, if_pos rfl]
theorem mf_no (t u k : Addr) (d : Bool) {m : Str} (h1 : ¬ m = "tree") (h2 : ¬ m = "default") (h3 : ¬ m = "turns") (h4 : ¬ m = "known") : (mf t u k d).lookup m = none := by
  unfold mf
  rw [lookup_putF, if_neg h4, lookup_putF, if_neg h3, lookup_putF, if_neg h2, lookup_putF, if_neg h1]
  rfl
theorem turns_more {rs : List Row} {i : Nat} {r : Row} (h : rs[i]? = some r) (xs : List Str) : (names (rs.take (i + 1))).filter (fun z => decide (z ∈ xs)) = (names (rs.take i)).filter (fun z => decide (z ∈ xs)) ++ (if decide (r.nm ∈ xs) = true then [r.nm] else []) := by
  unfold names
  rw [take_more h, List.map_append, List.filter_append]
  by_cases e : r.nm ∈ xs
  · simp [e]
  · simp [e]
theorem TreeAt.sbm {C CM : Addr} {H H' : Hp} {t m dx : Addr} {rs : List Row} (h : TreeAt C H t rs) (hm : H m = some (.ins CM dx [])) (s : SB m H H') : TreeAt C H' t rs := by
  obtain ⟨tx, q, f, k, p, qs, h1, h2, h3, h4, h5, h6⟩ := h.ex
  have w : ∀ {b : Addr} {o : HO}, H b = some o → o ≠ .ins CM dx [] → H' b = some o := fun {b o} e1 no => s b o (fun eb => by rw [eb, hm] at e1; exact no (Option.some.inj e1).symm) e1
  refine ⟨⟨tx, q, f, k, p, qs, w h1 (fun e => ?_), w h2 (fun h => by cases h), ⟨h3.len, fun i b r hb hr => w (h3.at_ i b r hb hr) (fun h => by cases h)⟩, w h4 (fun h => by cases h), w h5 (fun h => by cases h), w h6 (fun h => by cases h)⟩, h.val, h.len⟩
  injection e with _ _ e3
  have e4 := tf_p q f k p
  rw [e3] at e4
  cases e4
/-- a def with defaults that lets nothing out -/
theorem okD {w : World} {P : Program} {K : PySem.W.Frag} {base : Heap} {mg : Str → Option Value} {qual x : Str} {fd : FuncData} {f : Addr} {ar : Arguments} {bo : List Stmt} {sc : Scope} {kws : List (Str × V)} {dvs : List V} {ps N : List Str} {n : Nat} {sp : Sp} (F : FunD K x qual ar bo sc dvs kws f fd) (S : FnScope N ps sc)
    (ln : ∀ vs H Q E, sp vs H Q E → vs.length = ps.length) (hb : ∀ (cdv : Value) (A : Around) (outer : List Env) (s : Shared) (H : Hp) (vs : List V) (Q : VK) (E : XK), Room n (A.deeper (PyProof.Rows.envOfC qual sc s.heap.objs.size f cdv)) → sp vs H Q E → ∃ t, PSs (cxOf CX0 P w K mg base N qual sc f cdv A outer s H E).nox bo t ∧ t { nx := fun _ H' => Q .non H', rt := Q } (start N vs) H) :
    FnOk P w K mg base CX0 (n + 1) f fd ps sp := by
  refine F.ok S ln fun cdv A outer s H vs Q E r hsp => ?_
  obtain ⟨t, h, q⟩ := hb cdv A outer s H vs Q E r hsp
  exact ⟨t, h.nox, q⟩
section
variable {P : Program} {w : World} {K : PySem.W.Frag} {mg : Str → Option Value} {base : Heap} {C CM : Addr}
abbrev nMInit : List Str := ["self", "tree", "default", "turns", "box"]
theorem sc_M_init : FnScope nMInit ["self", "tree", "default", "turns"] (defScope s_Meaning_init) := ⟨rfl, rfl, rfl, by decide +kernel, rfl, by decide +kernel, by decide +kernel⟩
theorem ok_M_init {f : Addr} {fd : FuncData} {dvs : List V} (F : FunD K "__init__" "Meaning.__init__" (defArgs s_Meaning_init) (defBody s_Meaning_init) (defScope s_Meaning_init) dvs [] f fd) (B : TxB mg) (TC : TxC K mg) (T : TxT K mg C) (M : TxM K mg CM)
    (Dc : DefAt K mg "check_turns" s_check_turns ["tree", "turns"]) (Gc : FnOk P w K mg base CX0 5 Dc.f Dc.fd ["tree", "turns"] (spCheckTurns K C))
    (Dv : DefAt K mg "values_of" s_values_of ["tree", "default", "turns"]) (Gv : FnOk P w K mg base CX0 6 Dv.f Dv.fd ["tree", "default", "turns"] (spValues C))
    (mB : MethAt K C "below" "Tree.below" s_Tree_below ["self", "box"]) (GB : FnOk P w K mg base CX0 5 mB.f mB.fd ["self", "box"] (spListOf C belowL)) :
    FnOk P w K mg base CX0 7 f fd ["self", "tree", "default", "turns"] (spMeaningInit K C CM) := by
  obtain ⟨t1, gT⟩ := TC.top
  refine okD F sc_M_init (fun vs H Q E h => ?_) (fun cdv A outer s H vs Q E hr h => ?_)
  · obtain ⟨m, dx, t, h, d, xs, rs, rfl, _⟩ := h
    rfl
  · obtain ⟨m, dx, t, h, d, xs, rs, rfl, hm, ht, hx, hfree, hq⟩ := h
    have hr4 : Room 5 _ := hr.mono (by decide)
    refine ⟨_, pss_cons (ps_if (pt_not (pt_val (pe_callB call_isi (by rfl) B.isinstance (by decide +kernel) (pa_cons (pv 2) (pa_cons (pe_bltn (by rfl) B.bool (by decide +kernel) (v := .ty "bool") rfl) pa_nil))))) (pss_one ps_never) pss_nil)
      (pss_cons (ps_expr (pe_call Gc hr4 rfl Dc.g Dc.F.kp Dc.b .nil pass0 (pa_cons (pv 1) (pa_cons (pv 3) pa_nil))))
      (pss_cons (ps_fld (pv 0) (pv 1) rfl)
      (pss_cons (ps_fld (pv 0) (pv 2) rfl)
      (pss_cons (ps_fld (pv 0) (pe_callTy call_tuple_of (by rfl) B.tuple (by decide +kernel) (pa_cons (pe_lc (own := [("box", 4)]) (g := gName 4) (tt := tTest (tOp (rIn K false) (tVar 4) (tVar 3))) (te := tVar 4) rfl sc_M_init.nd (pi_list (pe_meth (pv 1) T.cl mB.m GB hr4 mB.b .nil pass0 (pa_cons (pe_glob (by rfl) gT (v := .str ("top" : Str)) ⟨_, rfl⟩) pa_nil))) (blkOk_by (N := nMInit) (sc := defScope s_Meaning_init) (by decide +kernel))
          (fun _ _ _ _ _ => pg_name (i := 4) sc_M_init.nd rfl (Or.inl rfl)) (fun _ _ _ _ _ => by exact pts_one (pt_cmpR op_in_seq (pv 4) (pv 3) (by rfl))) (fun _ _ _ _ _ => pv 4)) pa_nil)) rfl)
      (pss_one (ps_fld (pv 0) (pe_call Gv hr rfl Dv.g Dv.F.kp Dv.b .nil pass0 (pa_cons (pv 1) (pa_cons (pv 2) (pa_cons (pe_fld (pv 0) rfl) pa_nil)))) rfl)))))), ?_⟩
    have hv := ht.val
    have l100 := ht.len
    obtain ⟨tx, q, f, k, p, qs, h1, _⟩ := id ht.ex
    have noB : (tf q f k p).lookup ("below" : Str) = none := tf_no _ _ _ _ (by decide +kernel) (by decide +kernel) (by decide +kernel) (by decide +kernel)
    refine ⟨_, rfl, _, _, _, _, true, rfl, .ty "bool", .base (.bl d), kit_ty (by decide +kernel), _, rfl, iteF ?_⟩
    refine ⟨_, rfl, _, rfl, t, h, xs, rs, rfl, ht, hx, hfree, ?_⟩
    refine ⟨_, rfl, _, rfl, m, CM, dx, _, rfl, hm, M.cl, M.nt, (by show 0 < 1000; decide), ?_⟩
    refine ⟨_, rfl, _, rfl, m, CM, dx, _, rfl, upd_same, M.cl, M.nd, (Nat.lt_of_le_of_lt (putF_len _ _ _) (by decide)), ?_⟩
    obtain ⟨Hb, Eb⟩ : ∃ Hx, Hx = upd (upd H m (.ins CM dx (putF "tree" (.ref t) []))) m (.ins CM dx (putF "default" (.bl d) (putF "tree" (.ref t) []))) := ⟨_, rfl⟩
    have bm : Hb m = some (.ins CM dx (putF "default" (.bl d) (putF "tree" (.ref t) []))) := by rw [Eb]; exact upd_same
    have sb : SB m H Hb := fun b o nb e => by rw [Eb, upd_ne nb, upd_ne nb]; exact e
    rw [← Eb]
    clear Eb
    have tb := ht.sbm hm sb
    have hxb : SqX K Hb h (xs.map V.str) := hx.sbm hm sb
    have htm : Hb t = some (.ins C tx (tf q f k p)) := by
      refine sb _ _ (fun e => ?_) h1
      rw [e, hm] at h1
      have e3 := Option.some.inj h1
      injection e3 with _ _ e3
      have e4 := tf_p q f k p
      rw [← e3] at e4
      cases e4
    refine ⟨_, rfl, t, tx, _, rfl, htm, noB, t, ("top" : Str), rs, rfl, tb, .inl rfl, fun bl H2 hbl s2 e2 => ?_⟩
    rw [below_top hv] at e2
    refine ⟨bl, rfl, ⟨_, SqL.of e2⟩, fun D hD => ?_⟩
    have hx2 := hxb.same s2
    refine lc_list (K := K) (a := bl) (xs := (names rs).map V.str) (fun i H' => Same H2 H' ∧ H' D = some (.lst (((names (rs.take i)).filter (fun z => decide (z ∈ xs))).map V.str))) ⟨Same.new hD, upd_same⟩ (fun i H' _ m => m.1.seq (SqL.of e2)) ?_ ?_
    · rintro i x H3 hxi ⟨s3, hD3⟩
      unfold names at hxi
      rw [List.getElem?_map, List.getElem?_map] at hxi
      obtain ⟨n1, hn1, rfl⟩ := Option.map_eq_some_iff.mp hxi
      obtain ⟨r, hr', rfl⟩ := Option.map_eq_some_iff.mp hn1
      have sz : (((names (rs.take i)).filter (fun z => decide (z ∈ xs))).map V.str).length < sizeLine := small1000 (by
        rw [List.length_map]
        have h1 := List.length_filter_le (fun z => decide (z ∈ xs)) (names (rs.take i))
        unfold names at h1 ⊢
        rw [List.length_map, List.length_take] at h1
        omega)
      refine ⟨rfl, _, rfl, _, rfl, h, _, rfl, (hx2.same s3), rfl, flat_strs _, _, rfl, ?_⟩
      have e : (if false = true then !inV (.str r.nm) (xs.map V.str) else inV (.str r.nm) (xs.map V.str)) = decide (r.nm ∈ xs) := by
        rw [if_neg Bool.false_ne_true, inV_strs]
      rw [e]
      refine ite2 (fun hc => ?_) (fun hc => ?_)
      · refine ⟨_, rfl, _, hD3, sz, fun b o eb => ?_, ?_⟩
        · rw [upd_ne (fun y => by rw [y, hD] at eb; cases eb)]
          exact s3 _ _ eb
        · rw [upd_same, turns_more hr', if_pos hc, List.map_append]; rfl
      · refine ⟨s3, ?_⟩
        rw [turns_more hr', if_neg hc, List.append_nil]
        exact hD3
    rintro H3 ⟨s3, hD3⟩
    rw [show ((names rs).map V.str).length = rs.length from by unfold names; rw [List.length_map, List.length_map], List.take_length] at hD3
    refine ⟨D, _, rfl, .inl ⟨SqL.of hD3, fun u hu => ?_⟩⟩
    have s4 := (s2.trans s3).trans (Same.new (o := .tup ((turnsL rs xs).map V.str)) hu)
    have e4 : (upd H3 u (.tup ((turnsL rs xs).map V.str))) u = some (.tup ((turnsL rs xs).map V.str)) := upd_same
    have e4' : (upd H3 u (.tup (((names rs).filter (fun z => decide (z ∈ xs))).map V.str))) = upd H3 u (.tup ((turnsL rs xs).map V.str)) := rfl
    rw [e4']
    have num : u ≠ m := fun e => by rw [e, (s2.trans s3) _ _ bm] at hu; cases hu
    generalize upd H3 u (.tup ((turnsL rs xs).map V.str)) = H4 at s4 e4
    refine ⟨_, rfl, m, CM, dx, _, rfl, s4 _ _ bm, M.cl, M.nu, (Nat.lt_of_le_of_lt (Nat.le_trans (putF_len _ _ _) (Nat.succ_le_succ (putF_len _ _ _))) (by decide)), ?_⟩
    obtain ⟨H5, E5⟩ : ∃ Hx, Hx = upd H4 m (.ins CM dx (putF "turns" (.ref u) (putF "default" (.bl d) (putF "tree" (.ref t) [])))) := ⟨_, rfl⟩
    have m5 : H5 m = some (.ins CM dx (putF "turns" (.ref u) (putF "default" (.bl d) (putF "tree" (.ref t) [])))) := by rw [E5]; exact upd_same
    have sb5 : SB m H H5 := fun b o nb e => by rw [E5, upd_ne nb]; exact s4 _ _ (sb b o nb e)
    have u5 : H5 u = some (.tup ((turnsL rs xs).map V.str)) := by rw [E5, upd_ne num]; exact e4
    rw [← E5]
    clear E5
    refine ⟨_, rfl, _, rfl, _, rfl, m, CM, dx, _, _, rfl, m5, M.cl, M.nu, (by rw [lookup_putF, if_pos rfl]), t, u, d, turnsL rs xs, rs, rfl, ht.sbm hm sb5, u5, fun kd H6 hkd s6 e6 => ?_⟩
    refine ⟨_, rfl, m, CM, dx, _, rfl, s6 _ _ m5, M.cl, M.nk, (Nat.lt_of_le_of_lt (Nat.le_trans (putF_len _ _ _) (Nat.succ_le_succ (Nat.le_trans (putF_len _ _ _) (Nat.succ_le_succ (putF_len _ _ _))))) (by decide)), ?_⟩
    have sb7 : SB m H (upd H6 m (.ins CM dx (mf t u kd d))) := fun b o nb e => by rw [upd_ne nb]; exact s6 _ _ (sb5 b o nb e)
    have nkm : kd ≠ m := fun e => by rw [e, m5] at hkd; cases hkd
    exact hq _ sb7 ⟨⟨dx, u, kd, upd_same, by rw [upd_ne num]; exact s6 _ _ u5, by rw [upd_ne nkm]; exact e6⟩, ht.sbm hm sb7, turnsL_norm rs xs⟩
end
end Ts

set_option maxRecDepth 100000
set_option maxHeartbeats 4000000
namespace Ts
open PySem L2
def spMValue (C CM : Addr) : Sp := fun vs H Q _ => ∃ (m t : Addr) (z : Str) (rs : List Row) (d : Bool) (ts : List Str), vs = [.ref m, .str z] ∧ MeanAt C CM H m t rs d ts ∧ (z = ("top" : Str) ∨ z ∈ names rs) ∧ Q (.bl (valOf rs d ts z)) H
def spMLen (C CM : Addr) : Sp := fun vs H Q _ => ∃ (m t : Addr) (rs : List Row) (d : Bool) (ts : List Str), vs = [.ref m] ∧ MeanAt C CM H m t rs d ts ∧ ts.length ≤ 1000 ∧ Q (.int ts.length) H
/-- what the turned boxes cost -/
def costOf (rs : List Row) (ts : List Str) : List Int := ts.map fun z => (((rowOf rs z).bind (·.pr)).getD 0)
def spMPrice (C CM : Addr) : Sp := fun vs H Q _ => ∃ (m t : Addr) (rs : List Row) (d : Bool) (ts : List Str), vs = [.ref m] ∧ MeanAt C CM H m t rs d ts ∧ ts.length ≤ 1000 ∧ (∀ z ∈ ts, Free rs z) ∧ ∀ H', Same H H' → Q (.int (costOf rs ts).sum) H'
section
variable {P : Program} {w : World} {K : PySem.W.Frag} {mg : Str → Option Value} {base : Heap} {C CM : Addr}
theorem sc_M_value : FnScope ["self", "box"] ["self", "box"] (defScope s_Meaning_value) := ⟨rfl, rfl, rfl, by decide +kernel, rfl, by decide +kernel, by decide +kernel⟩
theorem ok_M_value {f : Addr} {fd : FuncData} (F : Fun K "value" "Meaning.value" s_Meaning_value f fd) (M : TxM K mg CM) (Dp : DefAt K mg "check_place" s_check_place ["tree", "thing"]) (Gp : FnOk P w K mg base CX0 4 Dp.f Dp.fd ["tree", "thing"] (spPlace C)) : FnOk P w K mg base CX0 5 f fd ["self", "box"] (spMValue C CM) := by
  refine F.ok sc_M_value (fun vs H Q E h => ?_) (fun cdv A outer s H vs Q E hr h => ?_)
  · obtain ⟨m, t, z, rs, d, ts, rfl, _⟩ := h
    rfl
  · obtain ⟨m, t, z, rs, d, ts, rfl, hm, hz, hq⟩ := h
    have hu := hu_of hr
    obtain ⟨dx, u, k, h1, h2, h3⟩ := hm.ex
    refine ⟨_, pss_cons (ps_expr (pe_call Gp hr rfl Dp.g Dp.F.kp Dp.b .nil pass0 (pa_cons (pe_fld (pv 0) rfl) (pa_cons (pv 1) pa_nil)))) (pss_one (ps_ret (pe_dget hu (pe_fld (pv 0) rfl) (pv 1) (fun _ _ => rfl)))), ?_⟩
    have dg := DGet.k (k := Sum.inr z) h3
    rw [valV_kvM hm.tree.val d ts (hz.elim .inl fun h => by
      by_cases e : z = ("top" : Str)
      · exact .inl e
      · exact .inr ⟨e, h⟩)] at dg
    exact ⟨_, rfl, m, CM, dx, _, _, rfl, h1, M.cl, M.nt, mf_t _ _ _ _, _, rfl, t, z, rs, rfl, hm.tree, hz, _, rfl, m, CM, dx, _, _, rfl, h1, M.cl, M.nk, mf_k _ _ _ _, _, rfl, k, _, rfl, dg, hq⟩
theorem sc_M_len : FnScope ["self"] ["self"] (defScope s_Meaning_len) := ⟨rfl, rfl, rfl, by decide +kernel, rfl, by decide +kernel, by decide +kernel⟩
theorem ok_M_len {f : Addr} {fd : FuncData} (F : Fun K "__len__" "Meaning.__len__" s_Meaning_len f fd) (B : TxB mg) (M : TxM K mg CM) : FnOk P w K mg base CX0 2 f fd ["self"] (spMLen C CM) := by
  refine F.ok sc_M_len (fun vs H Q E h => ?_) (fun cdv A outer s H vs Q E hr h => ?_)
  · obtain ⟨m, t, rs, d, ts, rfl, _⟩ := h
    rfl
  · obtain ⟨m, t, rs, d, ts, rfl, hm, hl, hq⟩ := h
    obtain ⟨dx, u, k, h1, h2, h3⟩ := hm.ex
    refine ⟨_, pss_one (ps_ret (pe_callB call_len_seq (by rfl) B.len PySem.boot_len (pa_cons (pe_fld (pv 0) rfl) pa_nil))), ?_⟩
    refine ⟨_, rfl, m, CM, dx, _, _, rfl, h1, M.cl, M.nu, mf_u _ _ _ _, u, _, rfl, .inr (sqT h2), ?_⟩
    rw [List.length_map]
    exact hq
end
end Ts

set_option maxRecDepth 100000
set_option maxHeartbeats 4000000
namespace Ts
open PySem L2
def spMStates (C CM : Addr) : Sp := fun vs H Q _ => ∃ (m t : Addr) (rs : List Row) (d : Bool) (ts : List Str), vs = [.ref m] ∧ MeanAt C CM H m t rs d ts ∧ ∀ D, H D = none → Q (.ref D) (upd H D (.dK (kvM rs d ts rs)))
section
variable {P : Program} {w : World} {K : PySem.W.Frag} {mg : Str → Option Value} {base : Heap} {C CM : Addr}
theorem sc_M_states : FnScope ["self"] ["self"] (defScope s_Meaning_states) := ⟨rfl, rfl, rfl, by decide +kernel, rfl, by decide +kernel, by decide +kernel⟩
theorem ok_M_states {f : Addr} {fd : FuncData} (F : Fun K "states" "Meaning.states" s_Meaning_states f fd) (B : TxB mg) (M : TxM K mg CM) : FnOk P w K mg base CX0 2 f fd ["self"] (spMStates C CM) := by
  refine F.ok sc_M_states (fun vs H Q E h => ?_) (fun cdv A outer s H vs Q E hr h => ?_)
  · obtain ⟨m, t, rs, d, ts, rfl, _⟩ := h
    rfl
  · obtain ⟨m, t, rs, d, ts, rfl, hm, hq⟩ := h
    obtain ⟨dx, u, k, h1, h2, h3⟩ := hm.ex
    refine ⟨_, pss_one (ps_ret (pe_callTy (T := "dict") call_dictD (by rfl) B.dict (by decide +kernel) (pa_cons (pe_fld (pv 0) rfl) pa_nil))), ?_⟩
    exact ⟨_, rfl, m, CM, dx, _, _, rfl, h1, M.cl, M.nk, mf_k _ _ _ _, k, _, rfl, .inl h3, fun D hD => hq D hD⟩
abbrev nMPrice : List Str := ["self", "box"]
theorem sc_M_price : FnScope nMPrice ["self"] (defScope s_Meaning_price) := ⟨rfl, rfl, rfl, by decide +kernel, rfl, by decide +kernel, by decide +kernel⟩
theorem ok_M_price {f : Addr} {fd : FuncData} (F : Fun K "price" "Meaning.price" s_Meaning_price f fd) (hB : mg "sum" = none) (T : TxT K mg C) (M : TxM K mg CM)
    (mP : MethAt K C "price" "Tree.price" s_Tree_price ["self", "box"]) (GP : FnOk P w K mg base CX0 4 mP.f mP.fd ["self", "box"] (spGet C fun r => prV r.pr)) : FnOk P w K mg base CX0 5 f fd ["self"] (spMPrice C CM) := by
  refine F.ok sc_M_price (fun vs H Q E h => ?_) (fun cdv A outer s H vs Q E hr h => ?_)
  · obtain ⟨m, t, rs, d, ts, rfl, _⟩ := h
    rfl
  · obtain ⟨m, t, rs, d, ts, rfl, hm, hl, hfree, hq⟩ := h
    obtain ⟨dx, u, k, h1, h2, h3⟩ := hm.ex
    obtain ⟨tx, q, f, kk, p, qs, t1, _⟩ := id hm.tree.ex
    have noP : (tf q f kk p).lookup ("price" : Str) = none := tf_no _ _ _ _ (by decide +kernel) (by decide +kernel) (by decide +kernel) (by decide +kernel)
    refine ⟨_, pss_one (ps_ret (pe_callB (cr_sum rfl) (by rfl) hB (by decide +kernel) (pa_cons (pe_lc (own := [("box", 1)]) (g := gName 1) (tt := tYes) (te := tMeth C "price" (spGet C fun r => prV r.pr) [] E0 (tFld K (tVar 0) "tree") (tCons (tVar 1) tNil)) rfl sc_M_price.nd (pi_tup (pe_fld (pv 0) rfl)) (blkOk_by (N := nMPrice) (sc := defScope s_Meaning_price) (by decide +kernel))
        (fun _ _ _ _ _ => pg_name (i := 1) sc_M_price.nd rfl (Or.inl rfl)) (fun _ _ _ _ _ => pts_nil) (fun _ _ _ _ _ => by exact pe_meth (pe_fld (pv 0) rfl) T.cl mP.m GP hr mP.b .nil pass0 (pa_cons (pv 1) pa_nil))) pa_nil))), ?_⟩
    refine ⟨_, rfl, m, CM, dx, _, _, rfl, h1, M.cl, M.nu, mf_u _ _ _ _, u, rfl, ⟨_, sqT h2⟩, fun D hD => ?_⟩
    refine lc_tup (K := K) (a := u) (xs := ts.map V.str) (fun i H' => Same H H' ∧ H' D = some (.lst ((costOf rs (ts.take i)).map V.int))) ⟨Same.new hD, upd_same⟩ (fun i H' _ m => sqT (m.1 _ _ h2)) ?_ ?_
    · rintro i x H2 hx ⟨s2, hD2⟩
      rw [List.getElem?_map] at hx
      obtain ⟨z, hz, rfl⟩ := Option.map_eq_some_iff.mp hx
      obtain ⟨r, hr', hp⟩ := hfree z (List.mem_of_getElem? hz)
      obtain ⟨c, hc⟩ : ∃ c, r.pr = some c := Option.ne_none_iff_exists'.mp hp
      refine ⟨rfl, tYes_if ⟨_, rfl, m, CM, dx, _, _, rfl, s2 _ _ h1, M.cl, M.nt, mf_t _ _ _ _, t, tx, _, rfl, s2 _ _ t1, noP, _, rfl, t, z, rs, r, rfl, hm.tree.same s2, hr', _, hD2, small1000 (by unfold costOf; rw [List.length_map, List.length_map, List.length_take]; omega), fun b o eb => ?_, ?_⟩⟩
      · rw [upd_ne (fun y => by rw [y, hD] at eb; cases eb)]
        exact s2 _ _ eb
      · have e : prV r.pr = .int c := by rw [hc]; rfl
        rw [upd_same, take_more hz]
        unfold costOf
        rw [List.map_append, List.map_append]
        show some (HO.lst (_ ++ [prV r.pr])) = some (HO.lst (_ ++ [V.int (((rowOf rs z).bind (·.pr)).getD 0)]))
        rw [e, hr']
        show _ = some (HO.lst (_ ++ [V.int (r.pr.getD 0)]))
        rw [hc]; rfl
    · rintro H2 ⟨s2, hD2⟩
      rw [List.length_map, List.take_length] at hD2
      exact ⟨D, _, rfl, SqL.of hD2, hq H2 s2⟩
end
end Ts

set_option maxRecDepth 100000
set_option maxHeartbeats 4000000
namespace Ts
open PySem L2
/-! ### lists of texts as data -/
theorem strs_dpAll {K : PySem.W.Frag} {H : Hp} : ∀ l : List Str, DpAll K H (l.map V.str) (l.map PyData.str)
  | [] => .nil
  | x :: l => .cons (.str x) (strs_dpAll l)
theorem strs_dp {K : PySem.W.Frag} {H : Hp} {a : Addr} {l : List Str} (h : H a = some (.lst (l.map V.str))) : Dp K H (.ref a) (.list (l.map PyData.str)) := .lst (SqL.of h) (strs_dpAll l)
theorem strs_eqv : ∀ a b : List Str, PyData.eqvAll (a.map PyData.str) (b.map PyData.str) = decide (a = b)
  | [], [] => by simp [PyData.eqvAll]
  | [], _ :: _ => by simp [PyData.eqvAll]
  | _ :: _, [] => by simp [PyData.eqvAll]
  | x :: a, y :: b => by
    simp only [List.map_cons, PyData.eqvAll, PyData.eqv, str_beq, strs_eqv a b]
    by_cases h1 : x = y <;> by_cases h2 : a = b <;> simp [h1, h2]
theorem strs_same (l : List Str) : PyData.eqv (.list (l.map PyData.str)) (.list (l.map PyData.str)) = true := by
  simp only [PyData.eqv]
  rw [strs_eqv]
  exact decide_eq_true rfl
theorem strs_lay : ∀ l : List Str, (∀ x ∈ l, PyData.strOk x = true) → PyData.canLayAll0 (l.map PyData.str) = true
  | [], _ => by simp [PyData.canLayAll0]
  | x :: l, h => by
    simp only [List.map_cons, PyData.canLayAll0, PyData.canLay0, h x (List.mem_cons_self ..), strs_lay l (fun q hq => h q (List.mem_cons_of_mem _ hq)), Bool.and_self]
theorem strs_depth : ∀ l : List Str, PyData.depthAll (l.map PyData.str) = 0
  | [] => by simp [PyData.depthAll]
  | x :: l => by simp only [List.map_cons, PyData.depthAll, PyData.depth, strs_depth l]; rfl
theorem shaped_strs {l : List Str} (h : ∀ x ∈ l, PyData.strOk x = true) : SeqAt.shaped (.list (l.map PyData.str)) = true := by
  unfold SeqAt.shaped
  rw [Bool.and_eq_true]
  refine ⟨by simp only [PyData.canLay0]; exact strs_lay l h, decide_eq_true ?_⟩
  simp only [PyData.depth, strs_depth]
  omega
theorem names_ok {rs : List Row} (h : Valid rs) : ∀ x ∈ names rs, PyData.strOk x = true := fun x hx => by
  obtain ⟨r, hr, rfl⟩ := List.mem_map.mp hx
  exact (h.ok r hr).n
theorem inside_ok {rs : List Row} (h : Valid rs) (z : Str) : ∀ x ∈ insideL rs z, PyData.strOk x = true := fun x hx => by
  obtain ⟨r, hr, rfl⟩ := List.mem_map.mp hx
  exact (h.ok r (List.mem_filter.mp hr).1).n
theorem below_ok {rs : List Row} (h : Valid rs) (z : Str) : ∀ x ∈ belowL rs z, PyData.strOk x = true := fun x hx => by
  obtain ⟨r, hr, rfl⟩ := List.mem_map.mp hx
  exact (h.ok r (List.mem_filter.mp hr).1).n
theorem lst_same {rs : List Row} : PyData.eqv (.list (rs.map rowD)) (.list (rs.map rowD)) = true := by
  simp only [PyData.eqv]
  rw [rows_eqv]
  exact decide_eq_true rfl
def told (r : Row) : PyData := .tuple [.str r.fo, .str r.ki, prD r.pr]
theorem told_same (r : Row) : PyData.eqv (told r) (told r) = true := by
  simp [told, PyData.eqv, PyData.eqvAll, prD_eqv]
theorem told_shaped {r : Row} (h : RowOk r) : SeqAt.shaped (told r) = true := by
  obtain ⟨h1, h2, h3⟩ := h
  obtain ⟨n, f, k, p⟩ := r
  unfold SeqAt.shaped
  cases p <;> simp_all [told, prD, PyData.canLay0, PyData.canLayAll0, PyData.depth, PyData.depthAll]
end Ts

set_option maxRecDepth 100000
set_option maxHeartbeats 4000000
namespace Ts
open PySem L2
theorem shaped_strsT {l : List Str} (h : ∀ x ∈ l, PyData.strOk x = true) : SeqAt.shaped (.tuple (l.map PyData.str)) = true := by
  unfold SeqAt.shaped
  rw [Bool.and_eq_true]
  refine ⟨by simp only [PyData.canLay0]; exact strs_lay l h, decide_eq_true ?_⟩
  simp only [PyData.depth, strs_depth]
  omega
theorem nfM {K : PySem.W.Frag} {C : Addr} : PySem.W.notFirst K C (.ref C) = true := by simp [PySem.W.notFirst]
theorem MeanAt.ok {C CM : Addr} {H : Hp} {m t : Addr} {rs : List Row} {d : Bool} {ts : List Str} (h : MeanAt C CM H m t rs d ts) : ∀ x ∈ ts, PyData.strOk x = true := fun x hx => names_ok h.tree.val x (h.sub x hx)
def spMEq (K : PySem.W.Frag) (C CM : Addr) : Sp := fun vs H Q _ => ∃ (m t : Addr) (x : V) (rs : List Row) (d : Bool) (ts : List Str), vs = [.ref m, x] ∧ MeanAt C CM H m t rs d ts ∧
  ((∃ (m2 t2 : Addr) (rs2 : List Row) (d2 : Bool) (ts2 : List Str), x = .ref m2 ∧ MeanAt C CM H m2 t2 rs2 d2 ts2 ∧ Q (.bl (decide (rs = rs2) && (decide (d = d2) && decide (ts = ts2)))) H) ∨ (Other K H x (.ref CM) ∧ Q (.bl false) H))
def spMContains (K : PySem.W.Frag) (C CM : Addr) : Sp := fun vs H Q _ => ∃ (m t : Addr) (x : V) (rs : List Row) (d : Bool) (ts : List Str), vs = [.ref m, x] ∧ MeanAt C CM H m t rs d ts ∧
  ((∃ z : Str, x = .str z ∧ Q (.bl (decide (z = ("top" : Str) ∨ z ∈ names rs) && valOf rs d ts z)) H) ∨ (Other K H x (.type "str") ∧ Q (.bl false) H))
section
variable {P : Program} {w : World} {K : PySem.W.Frag} {mg : Str → Option Value} {base : Heap} {C CM : Addr}
theorem sc_M_eq : FnScope ["self", "other"] ["self", "other"] (defScope s_Meaning_eq) := ⟨rfl, rfl, rfl, by decide +kernel, rfl, by decide +kernel, by decide +kernel⟩
theorem ok_M_eq {f : Addr} {fd : FuncData} (F : Fun K "__eq__" "Meaning.__eq__" s_Meaning_eq f fd) (B : TxB mg) (M : TxM K mg CM) (I : C8.InsC K CM)
    (mE : MethAt K C "__eq__" "Tree.__eq__" s_Tree_eq ["self", "other"]) (GE : FnOk P w K mg base CX0 2 mE.f mE.fd ["self", "other"] (spEqT K C)) : FnOk P w K mg base CX0 3 f fd ["self", "other"] (spMEq K C CM) := by
  refine F.ok sc_M_eq (fun vs H Q E h => ?_) (fun cdv A outer s H vs Q E hr h => ?_)
  · obtain ⟨m, t, x, rs, d, ts, rfl, _⟩ := h
    rfl
  · obtain ⟨m, t, x, rs, d, ts, rfl, hm, h⟩ := h
    obtain ⟨dx, u, k, h1, h2, h3⟩ := hm.ex
    refine ⟨_, pss_one (ps_ret (pe_and (pe_callB call_isi (by rfl) B.isinstance (by decide +kernel) (pa_cons (pv 1) (pa_cons (pe_glob (by rfl) M.g (v := .ref CM) rfl) pa_nil)))
      (pe_and (pe_cmpR (op_eqC GE mE.m hr mE.b pass0) (pe_fld (pv 0) rfl) (pe_fld (pv 1) rfl) (nomark _))
      (pe_and (pe_cmpR op_eq (pe_fld (pv 0) rfl) (pe_fld (pv 1) rfl) (nomark _))
      (pe_one (pe_cmpR (op_eqD (by have := hr.units; exact this)) (pe_fld (pv 0) rfl) (pe_fld (pv 1) rfl) (nomark _))))))), ?_⟩
    rcases h with ⟨m2, t2, rs2, d2, ts2, rfl, hm2, hq⟩ | ⟨⟨ty, hty, hk⟩, hq⟩
    · obtain ⟨dx', u', k', g1, g2, g3⟩ := hm2.ex
      obtain ⟨tx, _, _, _, _, _, t1, _⟩ := id hm.tree.ex
      obtain ⟨tx2, _, _, _, _, _, t3, _⟩ := id hm2.tree.ex
      refine ⟨_, rfl, _, _, _, _, true, rfl, .own CM, .base (.ins g1 I.cl I.ha I.hn I.htk I.hm), I.me, _, rfl, iteT ?_⟩
      refine ⟨_, rfl, m, CM, dx, _, _, rfl, h1, M.cl, M.nt, mf_t _ _ _ _, _, rfl, m2, CM, dx', _, _, rfl, g1, M.cl, M.nt, mf_t _ _ _ _, t, tx, _, .ref C, rfl, t1, .ins t3, nfM, t, .ref t2, rs, rfl, hm.tree, .inl ⟨t2, rs2, rfl, hm2.tree, ?_⟩⟩
      refine ⟨_, rfl, _, rfl, ?_⟩
      refine ite2 (fun hc => ?_) (fun hc => ?_)
      · have e1 : decide (rs = rs2) = true := hc
        rw [e1, Bool.true_and] at hq
        refine ⟨_, rfl, m, CM, dx, _, _, rfl, h1, M.cl, M.nd, mf_d _ _ _ _, _, rfl, m2, CM, dx', _, _, rfl, g1, M.cl, M.nd, mf_d _ _ _ _, rfl, _, rfl, ?_⟩
        have e2 : decide (V.bl d = V.bl d2) = decide (d = d2) := by cases d <;> cases d2 <;> rfl
        rw [e2]
        refine ite2 (fun hd => ?_) (fun hd => ?_)
        · rw [hd, Bool.true_and] at hq
          refine ⟨_, rfl, m, CM, dx, _, _, rfl, h1, M.cl, M.nu, mf_u _ _ _ _, _, rfl, m2, CM, dx', _, _, rfl, g1, M.cl, M.nu, mf_u _ _ _ _, _, _, .tup (sqT h2) (strs_dpAll ts), .tup (sqT g2) (strs_dpAll ts2), shaped_strsT hm.ok, shaped_strsT hm2.ok, ?_⟩
          have e3 : PyData.eqv (.tuple (ts.map PyData.str)) (.tuple (ts2.map PyData.str)) = decide (ts = ts2) := by
            simp only [PyData.eqv]
            exact strs_eqv ts ts2
          rw [e3]
          exact hq
        · have e3 : decide (d = d2) = false := by simpa using hd
          rw [e3, Bool.false_and] at hq
          exact hq
      · have e1 : decide (rs = rs2) = false := by simpa using hc
        rw [e1, Bool.false_and] at hq
        exact hq
    · exact ⟨_, rfl, _, _, _, _, false, rfl, .own CM, hty, hk, _, rfl, iteF hq⟩
theorem sc_M_contains : FnScope ["self", "x"] ["self", "x"] (defScope s_Meaning_contains) := ⟨rfl, rfl, rfl, by decide +kernel, rfl, by decide +kernel, by decide +kernel⟩
theorem ok_M_contains {f : Addr} {fd : FuncData} (F : Fun K "__contains__" "Meaning.__contains__" s_Meaning_contains f fd) (B : TxB mg) (M : TxM K mg CM) : FnOk P w K mg base CX0 2 f fd ["self", "x"] (spMContains K C CM) := by
  refine F.ok sc_M_contains (fun vs H Q E h => ?_) (fun cdv A outer s H vs Q E hr h => ?_)
  · obtain ⟨m, t, x, rs, d, ts, rfl, _⟩ := h
    rfl
  · obtain ⟨m, t, x, rs, d, ts, rfl, hm, h⟩ := h
    have hu := hu_of hr
    obtain ⟨dx, u, k, h1, h2, h3⟩ := hm.ex
    refine ⟨_, pss_one (ps_ret (pe_and (pe_callB call_isi (by rfl) B.isinstance (by decide +kernel) (pa_cons (pv 1) (pa_cons (pe_bltn (by rfl) B.str (by decide +kernel) (v := .ty "str") rfl) pa_nil))) (pe_one (pe_dget2 hu (pe_fld (pv 0) rfl) (pv 1) pe_bl (by constructor <;> intros <;> rfl))))), ?_⟩
    rcases h with ⟨z, rfl, hq⟩ | ⟨⟨ty, hty, hk⟩, hq⟩
    · refine ⟨_, rfl, _, _, _, _, true, rfl, .ty "str", .base (.str z), kit_ty (by decide +kernel), _, rfl, iteT ?_⟩
      have dg := DGet.k (k := Sum.inr z) h3
      refine ⟨_, rfl, m, CM, dx, _, _, rfl, h1, M.cl, M.nk, mf_k _ _ _ _, k, rfl, .inl ⟨_, .inl h3⟩, _, rfl, _, dg, ?_⟩
      by_cases e : z = ("top" : Str) ∨ z ∈ names rs
      · rw [valV_kvM hm.tree.val d ts (by
          by_cases e1 : z = ("top" : Str)
          · exact .inl e1
          · exact .inr ⟨e1, e.resolve_left e1⟩)]
        rw [decide_eq_true e, Bool.true_and] at hq
        exact hq
      · have en : valV (kvM rs d ts rs) (.inr z : Key) = none := by
          show valV ((.inr ("top" : Str), .bl d) :: kvF (fun r => .bl (valOf rs d ts r.nm)) rs) (.inr z : Key) = none
          rw [valV_neg (fun q => e (.inl (Sum.inr.inj q).symm)), valV_kvF, find_none (fun h => e (.inr h))]; rfl
        rw [en]
        rw [decide_eq_false e, Bool.false_and] at hq
        exact hq
    · exact ⟨_, rfl, _, _, _, _, false, rfl, .ty "str", hty, hk, _, rfl, iteF hq⟩
end
end Ts

set_option maxRecDepth 100000
set_option maxHeartbeats 4000000
namespace Ts
open PySem L2
/-! ### iter(tuple), and a walk over an object whose `__iter__` hands it on -/
/-- at it an iterator over the tuple at l, at its start -/
def ItT (l it : Addr) : HO := .ext fun h => h.IsTupleIter it l 0
theorem itT_ok {P : Program} {w : World} {H : Hp} {h : Heap} {l it : Addr} (e : h.IsTupleIter it l 0) : ObjOk P w H h it (ItT l it) := by
  obtain ⟨o, ho, hc, hd⟩ := id e
  exact ⟨e, ⟨o, ho⟩, fun g1 g2 q kk => by obtain ⟨o2, ho2, r2⟩ := q; exact ⟨o2, kk _ ho2, r2⟩⟩
def rIterT (K : PySem.W.Frag) (n : Nat) : List V → Hp → VK → Prop := fun xs H Q => ∃ (l : Addr) (zs : List V), xs = [.ref l] ∧ SqT K H l zs ∧ ∀ it, H it = Option.none → n ≤ it → Q (.ref it) (upd H it (ItT l it))
section
variable {X : Cx}
theorem call_iterT : CallR X (.builtin "iter") (rIterT X.K X.s_0.heap.objs.size) := by
  intro pins s σ H xs us Q I r hh
  obtain ⟨l, zs, rfl, hsq, hQ⟩ := hh
  obtain ⟨u, rfl, ru⟩ := vals1 r
  cases ru
  obtain ⟨its, rv, pl, hz⟩ := I.tuple hsq
  have ht : s.heap.IsTuple l its.toArray := pl
  refine Calls.call_function_entry (by decide +kernel) (by decide +kernel) PySem.W.kdk_entry_iter (PySem.W.kdk_args_iter _) ?_; unfold Builtin.«iter»
  refine wpAny_bind (m := someArgs "iter" 1 2 _) (wpAny_of_eq (a := [Value.ref l]) (by first | rfl | kernel_rfl!) ?_); show wpAny _ _ (pyIter (.ref l) >>= _) _ _ _
  refine wpAny_bind (wpAny_pyIter_tuple ht (wpAny_pure ⟨_, rfl, ?_⟩))
  exact ⟨.ref s.heap.objs.size, _, I.laid (t' := s.toks) (fun b u e => Heap.get?_push_of_some _ e) (Nat.le_refl _) (itT_ok ⟨_, Heap.get?_push_size _ rfl, rfl, rfl⟩), rfl, hQ _ (I.hok.fresh (Nat.le_refl _)) I.sz⟩
end
/-- a def that may say how young its answer is: sp knows the size of the memory at the call -/
def FnY (P : Program) (w : World) (K : PySem.W.Frag) (mg : Str → Option Value) (base : Heap) (CX : CXT) (k : Nat) (f : Addr) (ps : List Str) (sp : Nat → Sp) : Prop :=
  (∀ n vs H Q E, sp n vs H Q E → vs.length = ps.length) ∧ ∀ (A : Around) (outer : List Env) (s : Shared) (H : Hp) (us : List Value) (vs : List V) (Q : VK) (E : XK), Room k A → Env0 P w K mg base A outer s H → Vals vs us → sp s.heap.objs.size vs H Q E →
    codeAny (model P w) A (.call (.ref f) ⟨us, []⟩) (CR CX outer P w H s Q E) s
theorem fn_young {CX : CXT} {P : Program} {w : World} {K : PySem.W.Frag} {mg : Str → Option Value} {base : Heap} {k : Nat} {f : Addr} {fd : FuncData} {x qual : Str} {st : Stmt} {N ps : List Str} {sp : Nat → Sp} (F : Fun K x qual st f fd) (S : FnScope N ps (defScope st)) (bd : Binds K fd ps [])
    (len : ∀ n vs H Q E, sp n vs H Q E → vs.length = ps.length)
    (body : ∀ (cdv : Value) (A : Around) (outer : List Env) (s : Shared) (H : Hp) (vs : List V) (Q : VK) (E : XK), Room k (A.deeper (PyProof.Rows.envOfC qual (defScope st) s.heap.objs.size f cdv)) → sp s.heap.objs.size vs H Q E →
      ∃ t, PSs (cxOf CX P w K mg base N qual (defScope st) f cdv A outer s H E) (defBody st) t ∧ t { nx := fun _ H' => Q .non H', rt := Q } (start N vs) H) : FnY P w K mg base CX (k + 1) f ps sp := by
  refine ⟨len, fun A outer s H us vs Q E rm en rv want => ?_⟩
  obtain ⟨oc, od, kV, doc, pm, an, cdv, ct, osl, rfl, look, code⟩ := F.ex
  have lv := len _ _ _ _ _ want
  have KI : K.In s.heap := en.mod.kin.keeps fun b o hb => (en.bs b o hb).1
  have nolim : s.heap.NoLimit := en.mod.nolimit.keeps fun b o hb => (en.bs b o hb).1
  have kinds : ∀ z ∈ ps.zip us, (defScope st).names.lookup z.1 = some .local ∨ ((defScope st).names.lookup z.1 = some .cell ∧ ((cellsFrom (s.heap.objs.size + 1) (defScope st).names []).lookup z.1).isSome = true) := fun ⟨n, v⟩ hz => by
    rcases S.par n (List.of_mem_zip hz).1 with z1 | z1
    · exact .inl z1
    · exact .inr ⟨z1, PySem.W.cellsFrom_some _ _ _ (.inl z1)⟩
  have bt := bd s us KI (by rw [List.append_nil, ← rv.length]; exact lv)
  rw [List.append_nil] at bt
  refine codeAny_call_function rm.depth (KI _ _ look) rfl S.co S.gen rfl (PySem.W.codeRec_of KI code) (bt _ _ _ _ ?_)
  refine wpAny_newFunctionEnv_cells S.kind kinds fun e2 he2 s1 y => ?_
  subst he2
  refine ⟨nolim.keeps y.toInCall.keep, codeAny_func ?_⟩
  obtain ⟨t, tm, tq⟩ := body cdv A outer s H vs Q E (rm.deeper _) want
  have J : Inv (cxOf CX P w K mg base N qual (defScope st) f cdv A outer s H E) [] (start N vs) H s1 := inv_start S rm.hd en lv rv y
  refine wpAny_mono (tm.run [] s1 (start N vs) H _ J tq) (fun fl s2 hs => ?_) fun e3 s2 hs => hs
  have close : ∀ {σ2 : St} {H2 : Hp} {v : V} {u : Value}, Inv (cxOf CX P w K mg base N qual (defScope st) f cdv A outer s H E) [] σ2 H2 s2 → RelV v u → Q v H2 → CE outer P w H s Q u s2 := fun {σ2 H2 v u} J2 r2 q2 => ⟨v, H2, J2.os, J2.bare, J2.base, J2.hok, r2, q2⟩
  cases fl with
  | ret u => obtain ⟨v, σ2, H2, J2, r2, q2⟩ := hs; exact close J2 r2 q2
  | next => obtain ⟨σ2, H2, J2, q2⟩ := hs; exact close (v := V.non) (u := Value.none) J2 rfl q2
  | brk => obtain ⟨_, _, _, q2⟩ := hs; exact False.elim q2
  | cont => obtain ⟨_, _, _, q2⟩ := hs; exact False.elim q2
/-- what such an `__iter__` promises: an iterator over a tuple -/
def spIterT (K : PySem.W.Frag) (C : Addr) (fld : Str) : Nat → Sp := fun n vs H Q _ => ∃ (a dx l : Addr) (fs : List (Str × V)) (zs : List V), vs = [.ref a] ∧ H a = some (.ins C dx fs) ∧ fs.lookup fld = some (.ref l) ∧ SqT K H l zs ∧ ∀ it, H it = Option.none → n ≤ it → Q (.ref it) (upd H it (ItT l it))
def iOwnT (K : PySem.W.Frag) (C : Addr) (fld : Str) (t : TE) : TI := fun σ H R => t σ H fun x H1 => ∃ (a dx l : Addr) (fs : List (Str × V)), x = .ref a ∧ H1 a = some (.ins C dx fs) ∧ fs.lookup fld = some (.ref l) ∧ (∃ zs, SqT K H1 l zs) ∧ R (Itt K l) H1
theorem itT_at {X : Cx} {pins : List (Addr × Obj)} {σ : L2.St} {H : Hp} {s : Shared} {l it : Addr} (I : Inv X pins σ H s) (e : H it = some (ItT l it)) : s.heap.IsTupleIter it l 0 := (I.hok it _ e).1
section
variable {X : Cx} {tg e : Expr} {t : TE} {C f : Addr} {fld : Str} {k : Nat} {ps : List Str}
theorem pi_ownT (he : PE X e t) (F : FnY X.prog X.w X.K X.mg X.base CX0 k f ps (spIterT X.K C fld)) (m : Meth X.K C "__iter__" f) (hr : Room k X.A) : PI X tg e (iOwnT X.K C fld t) := by
  refine ⟨fun pins s σ H R I h => ?_⟩
  refine thn (he.run pins s σ H _ I h) fun v s1 ⟨x, H1, I1, r1, a, dx, l, fs, ex, ha, hf, ⟨zs, hz⟩, q⟩ => ?_
  subst ex
  cases r1
  obtain ⟨mA, J, _⟩ := ins_get I1.hok ha
  obtain ⟨od, J, _⟩ := J.look
  obtain ⟨mm, hF⟩ := I1.fr
  refine PySem.W.owit_iter hF I1.ok.mod.kin J m.at_ m.fn ?_
  refine wpAny_call (codeAny_mono (F.2 X.A X.stack s1 H1 [.ref a] [.ref a] (fun v H2 => ∃ it, v = .ref it ∧ H1 it = Option.none ∧ s1.heap.objs.size ≤ it ∧ H2 = upd H1 it (ItT l it)) E0 hr I1.env0 (.cons (show RelV (.ref a) (.ref a) from rfl) .nil) ⟨a, dx, l, fs, zs, rfl, ha, hf, hz, fun it h0 hn => ⟨it, rfl, h0, hn, rfl⟩⟩) fun r s' hq => ?_)
  cases r with
  | error e => exact hq.elim
  | ok fl =>
    cases fl with
    | next => exact hq.elim
    | brk => exact hq.elim
    | cont => exact hq.elim
    | ret u =>
      obtain ⟨v2, H2, I2, r2, it, ev, h0, hn, eH⟩ := I1.after hq
      subst ev
      subst eH
      cases r2
      have ti := itT_at I2 upd_same
      have I3 : Inv X pins σ (ItX.dropH (upd H1 it (ItT l it)) it) s' := ItX.inv_drop I2 (φ := fun h => h.IsTupleIter it l 0) upd_same
      have fp := ItX.inv_fp I2 upd_same (Nat.le_trans I1.sz hn)
      rw [ItX.dropH_upd h0] at I3 fp
      have fin : PIE X pins σ tg R (.ref it) s' := ⟨it, [it], _, _, H1, rfl, I3, turn_tuple l it, ti, fun b hb => by
        have eb : b = it := by simpa using hb
        rw [eb]; exact fp, q⟩
      exact wpAny_specialOf (name := "__next__") ti.typeIs PySem.F.slot_tuple_iterator_next.lookup fin
end
end Ts

set_option maxRecDepth 100000
set_option maxHeartbeats 4000000
namespace Ts
open PySem L2
/-! ### what a newcomer is worth -/
theorem wayOf_last (rs : List Row) (q : Row) : wayOf (rs ++ [q]) q.nm = wayOf rs q.fo ++ [q.nm] := by
  unfold wayOf
  rw [List.reverse_append]
  show (if q.nm = q.nm then wayR rs.reverse q.fo ++ [q.nm] else wayR rs.reverse q.nm) = _
  rw [if_pos rfl]
theorem wayOf_skip (rs : List Row) (q : Row) {z : Str} (h : q.nm ≠ z) : wayOf (rs ++ [q]) z = wayOf rs z := by
  unfold wayOf
  rw [List.reverse_append]
  show (if q.nm = z then wayR rs.reverse q.fo ++ [z] else wayR rs.reverse z) = _
  rw [if_neg h]
theorem turned_congr {ts us : List Str} : ∀ (l : List Str) (d : Bool), (∀ x ∈ l, x ∈ ts ↔ x ∈ us) → turned d ts l = turned d us l
  | [], _, _ => rfl
  | x :: l, d, h => by
    show turned (if x ∈ ts then !d else d) ts l = turned (if x ∈ us then !d else d) us l
    have e : (if x ∈ ts then !d else d) = (if x ∈ us then !d else d) := by
      by_cases hx : x ∈ ts
      · rw [if_pos hx, if_pos ((h x (List.mem_cons_self ..)).mp hx)]
      · rw [if_neg hx, if_neg fun q => hx ((h x (List.mem_cons_self ..)).mpr q)]
    rw [e]
    exact turned_congr l _ fun y hy => h y (List.mem_cons_of_mem _ hy)
theorem valOf_congr {rs : List Row} {d : Bool} {ts us : List Str} {z : Str} (h : ∀ x ∈ names rs, x ∈ ts ↔ x ∈ us) : valOf rs d ts z = valOf rs d us z :=
  turned_congr _ _ fun x hx => h x (way_mem hx)
theorem mem_turnsL {rs : List Row} {xs : List Str} {x : Str} : x ∈ turnsL rs xs ↔ x ∈ names rs ∧ x ∈ xs := by
  unfold turnsL
  rw [List.mem_filter, decide_eq_true_eq]
theorem names_app (rs qs : List Row) : names (rs ++ qs) = names rs ++ names qs := List.map_append
theorem val_newc {rs : List Row} {q : Row} (d : Bool) {ts : List Str} (h : q.nm ∉ ts) : valOf (rs ++ [q]) d (turnsL (rs ++ [q]) ts) q.nm = valOf rs d ts q.fo := by
  unfold valOf
  rw [wayOf_last, turned_snoc, if_neg fun e => h (mem_turnsL.mp e).2]
  refine turned_congr _ _ fun x hx => ?_
  rw [mem_turnsL, names_app]
  exact ⟨fun e => e.2, fun e => ⟨List.mem_append.mpr (.inl (way_mem hx)), e⟩⟩
theorem filter_of_sub {l : List Str} : ∀ {s : List Str}, s.Sublist l → l.Nodup → l.filter (fun z => decide (z ∈ s)) = s := by
  intro s h
  induction h with
  | slnil => intro _; rfl
  | cons a h ih =>
    intro nd
    rw [List.nodup_cons] at nd
    rw [List.filter_cons_of_neg (by
      rw [decide_eq_true_eq]
      exact fun e => nd.1 (h.subset e))]
    exact ih nd.2
  | cons_cons a h ih =>
    rename_i l1 l2
    intro nd
    rw [List.nodup_cons] at nd
    rw [List.filter_cons_of_pos (by rw [decide_eq_true_eq]; exact List.mem_cons_self ..)]
    have e : l2.filter (fun z => decide (z ∈ a :: l1)) = l2.filter (fun z => decide (z ∈ l1)) := by
      refine List.filter_congr fun z hz => ?_
      have ne : z ≠ a := fun e => nd.1 (e ▸ hz)
      simp [ne]
    rw [e, ih nd.2]
theorem Valid.nodup {rs : List Row} (h : Valid rs) : (names rs).Nodup := by
  unfold names
  rw [List.nodup_iff_pairwise_ne, List.pairwise_iff_getElem]
  intro i j hi hj hij e
  rw [List.length_map] at hi hj
  rw [List.getElem_map, List.getElem_map] at e
  refine (h j rs[j] (List.getElem?_eq_getElem hj)).new (List.mem_map.mpr ⟨rs[i], ?_, e⟩)
  exact List.mem_take_iff_getElem.mpr ⟨i, by omega, rfl⟩
theorem turnsL_sub {rs : List Row} (h : Valid rs) {ts : List Str} (s : ts.Sublist (names rs)) : turnsL rs ts = ts := filter_of_sub s h.nodup
theorem turnsL_congr {rs : List Row} {xs ys : List Str} (h : ∀ x, x ∈ xs ↔ x ∈ ys) : turnsL rs xs = turnsL rs ys := by
  unfold turnsL
  refine List.filter_congr fun z _ => ?_
  rw [decide_eq_decide]
  exact h z
/-! ### a dict of values, as data -/
def kvD (b : Str × Bool) : PyData := .tuple [.str b.1, .bool b.2]
/-- the items of the values -/
def itemsM (rs : List Row) (d : Bool) (ts : List Str) : List (Str × Bool) := (("top" : Str), d) :: rs.map fun r => (r.nm, valOf rs d ts r.nm)
theorem kvM_items (rs : List Row) (d : Bool) (ts : List Str) : kvM rs d ts rs = (itemsM rs d ts).map fun q => ((.inr q.1 : Key), V.bl q.2) := by
  unfold kvM itemsM kvF
  rw [List.map_cons, List.map_map]
  rfl
theorem items_dp {K : PySem.W.Frag} {H : Hp} : ∀ {qs : List (Str × Bool)} {ts : List Addr}, Paired (fun (t : Addr) (q : Key × V) => H t = some (.tup [kV q.1, q.2])) ts (qs.map fun q => ((.inr q.1 : Key), V.bl q.2)) → DpAll K H (ts.map V.ref) (qs.map kvD)
  | [], [], _ => .nil
  | [], _ :: _, h => by cases h
  | _ :: _, [], h => by cases h
  | q :: qs, t :: ts, h => by
    cases h with
    | cons h1 h2 => exact .cons (.tup (sqT h1) (.cons (.str _) (.cons (.bl _) .nil))) (items_dp h2)
theorem items_lay : ∀ (qs : List (Str × Bool)), (∀ q ∈ qs, PyData.strOk q.1 = true) → PyData.canLayAll0 (qs.map kvD) = true
  | [], _ => by simp [PyData.canLayAll0]
  | q :: qs, h => by
    have h1 := h q (List.mem_cons_self ..)
    simp [List.map_cons, kvD, PyData.canLayAll0, PyData.canLay0, h1, items_lay qs (fun x hx => h x (List.mem_cons_of_mem _ hx))]
theorem items_depth : ∀ (qs : List (Str × Bool)), PyData.depthAll (qs.map kvD) ≤ 1
  | [] => by simp [PyData.depthAll]
  | q :: qs => by
    have ih := items_depth qs
    simp only [List.map_cons, kvD, PyData.depthAll, PyData.depth]
    omega
theorem shaped_items {qs : List (Str × Bool)} (h : ∀ q ∈ qs, PyData.strOk q.1 = true) : SeqAt.shaped (.list (qs.map kvD)) = true := by
  have q := items_depth qs
  unfold SeqAt.shaped
  rw [Bool.and_eq_true]
  refine ⟨by simp only [PyData.canLay0]; exact items_lay qs h, decide_eq_true ?_⟩
  simp only [PyData.depth]
  omega
theorem items_ok {rs : List Row} (h : Valid rs) (d : Bool) (ts : List Str) : ∀ q ∈ itemsM rs d ts, PyData.strOk q.1 = true := by
  intro q hq
  rcases List.mem_cons.mp hq with e | hq
  · rw [e]; exact top_ok
  · obtain ⟨r, hr, rfl⟩ := List.mem_map.mp hq
    exact names_ok h _ (List.mem_map.mpr ⟨r, hr, rfl⟩)
theorem items_same : ∀ (qs : List (Str × Bool)), PyData.eqvAll (qs.map kvD) (qs.map kvD) = true
  | [] => by simp [PyData.eqvAll]
  | q :: qs => by
    simp [List.map_cons, kvD, PyData.eqvAll, PyData.eqv, items_same qs]
section
variable {P : Program} {w : World} {K : PySem.W.Frag} {mg : Str → Option Value} {base : Heap} {C CM : Addr}
theorem sc_M_iter : FnScope ["self"] ["self"] (defScope s_Meaning_iter) := ⟨rfl, rfl, rfl, by decide +kernel, rfl, by decide +kernel, by decide +kernel⟩
theorem ok_M_iter {f : Addr} {fd : FuncData} (F : Fun K "__iter__" "Meaning.__iter__" s_Meaning_iter f fd) (bd : Binds K fd ["self"] []) (hI : mg "iter" = none) (M : TxM K mg CM) : FnY P w K mg base CX0 2 f ["self"] (spIterT K CM "turns") := by
  refine fn_young F sc_M_iter bd (fun n vs H Q E h => ?_) (fun cdv A outer s H vs Q E hr h => ?_)
  · obtain ⟨a, dx, l, fs, zs, rfl, _⟩ := h
    rfl
  · obtain ⟨a, dx, l, fs, zs, rfl, ha, hf, hz, q⟩ := h
    refine ⟨_, pss_one (ps_ret (pe_callB call_iterT (by rfl) hI (by decide +kernel) (pa_cons (pe_fld (pv 0) rfl) pa_nil))), ?_⟩
    exact ⟨_, rfl, a, CM, dx, fs, _, rfl, ha, M.cl, M.nu, hf, l, zs, rfl, hz, q⟩
end
end Ts

set_option maxRecDepth 100000
set_option maxHeartbeats 4000000
namespace Ts
open PySem L2
theorem mk_same {C : Addr} {H H' : Hp} {x dx : Addr} (nx : H x = none) (nd : H dx = none) (sb : SB x (upd (upd H dx (.own x)) x (.ins C dx [])) H') : Same H H' := fun b o e =>
  sb b o (ne_of_none e nx) (by rw [upd_ne (ne_of_none e nx), upd_ne (ne_of_none e nd)]; exact e)
theorem mk_same0 {C : Addr} {H : Hp} {x dx : Addr} (nx : H x = none) (nd : H dx = none) : Same H (upd (upd H dx (.own x)) x (.ins C dx [])) := fun b o e => by
  rw [upd_ne (ne_of_none e nx), upd_ne (ne_of_none e nd)]; exact e
theorem SeqRows.snoc {H : Hp} {as : List Addr} {rs : List Row} {a : Addr} {r : Row} (h : SeqRows H as rs) (ha : H a = some (.tup (rowVs r)) ∨ H a = some (.lst (rowVs r))) : SeqRows H (as ++ [a]) (rs ++ [r]) := by
  refine ⟨by simp [h.len], fun i b q hb hq => ?_⟩
  rcases Nat.lt_or_ge i as.length with hi | hi
  · rw [List.getElem?_append_left hi] at hb
    rw [List.getElem?_append_left (h.len ▸ hi)] at hq
    exact h.at_ i b q hb hq
  · rw [List.getElem?_append_right hi] at hb
    rw [List.getElem?_append_right (h.len ▸ hi)] at hq
    have e0 : i - as.length = 0 := by
      have := (List.getElem?_eq_some_iff.mp hb).1
      simp at this
      omega
    have e1 : i - rs.length = 0 := by rw [← h.len]; exact e0
    rw [e0] at hb
    rw [e1] at hq
    simp at hb hq
    subst hb; subst hq
    exact ha
theorem SeqRows.append {H : Hp} : ∀ {bs : List Addr} {qs : List Row} {as : List Addr} {rs : List Row}, SeqRows H as rs → SeqRows H bs qs → SeqRows H (as ++ bs) (rs ++ qs)
  | [], [], as, rs, h, _ => by simpa using h
  | [], _ :: _, _, _, _, h => by have := h.len; simp at this
  | _ :: _, [], _, _, _, h => by have := h.len; simp at this
  | b :: bs, q :: qs, as, rs, h, h2 => by
    have h3 : SeqRows H bs qs := ⟨by simpa using h2.len, fun i a r ha hr => h2.at_ (i + 1) a r (by simpa using ha) (by simpa using hr)⟩
    have := SeqRows.append (h.snoc (h2.at_ 0 b q rfl rfl)) h3
    simpa using this
theorem rows_at {as : List Addr} {rs : List Row} {H : Hp} (h : RowsAt H as rs) {i : Nat} {x : V} (hx : (as.map V.ref)[i]? = some x) : ∃ ra r, x = .ref ra ∧ as[i]? = some ra ∧ rs[i]? = some r ∧ H ra = some (.tup (rowVs r)) := by
  rw [List.getElem?_map] at hx
  obtain ⟨ra, hra, rfl⟩ := Option.map_eq_some_iff.mp hx
  obtain ⟨r, hr'⟩ : ∃ r, rs[i]? = some r := ⟨rs[i]'(by rw [← h.len]; exact (List.getElem?_eq_some_iff.mp hra).1), List.getElem?_eq_getElem _⟩
  exact ⟨ra, r, rfl, hra, hr', h.at_ i ra r hra hr'⟩
theorem filter_more {rs : List Row} {i : Nat} {r : Row} (h : rs[i]? = some r) (p : Row → Bool) : (rs.take (i + 1)).filter p = (rs.take i).filter p ++ (if p r = true then [r] else []) := by
  rw [take_more h, List.filter_append]
  by_cases e : p r = true
  · rw [if_pos e, List.filter_cons_of_pos e]; rfl
  · rw [if_neg e, List.filter_cons_of_neg e]; rfl
/-- a new list that keeps some of the rows: what stands between two turns -/
structure KeepI (H0 H : Hp) (D : Addr) (qs : List Row) : Prop where
  same : Same H0 H
  ex : ∃ as : List Addr, H D = some (.lst (as.map V.ref)) ∧ RowsAt H as qs
theorem KeepI.nil {H : Hp} {D : Addr} (h : H D = none) : KeepI H (upd H D (.lst [])) D [] := ⟨Same.new h, [], upd_same, RowsAt.nil⟩
theorem KeepI.grow {H0 H H' : Hp} {D ra : Addr} {qs : List Row} {r : Row} (h : KeepI H0 H D qs) (hD : H0 D = none) (s : Same H H') (hr : H' ra = some (.tup (rowVs r))) (hl : qs.length ≤ 900) :
    ∃ acc, H' D = some (.lst acc) ∧ acc.length < sizeLine ∧ KeepI H0 (upd H' D (.lst (acc ++ [V.ref ra]))) D (qs ++ [r]) := by
  obtain ⟨as, h1, h2⟩ := h.ex
  have hD' := s _ _ h1
  have kt : ∀ {b : Addr} {xs : List V}, H' b = some (.tup xs) → (upd H' D (.lst (as.map V.ref ++ [V.ref ra]))) b = some (.tup xs) := fun {b xs} e => by
    rw [upd_ne (fun y => by rw [y, hD'] at e; cases e)]; exact e
  refine ⟨as.map V.ref, hD', small1000 (by rw [List.length_map, h2.len]; omega), fun b o e => ?_, as ++ [ra], by rw [upd_same, List.map_append]; rfl, RowsAt.snoc ⟨h2.len, fun j b q hb hq => kt (s _ _ (h2.at_ j b q hb hq))⟩ (kt hr)⟩
  rw [upd_ne (fun y => by rw [y, hD] at e; cases e)]
  exact s _ _ (h.same _ _ e)
theorem KeepI.on {H0 H H' : Hp} {D : Addr} {qs : List Row} (h : KeepI H0 H D qs) (s : Same H H') : KeepI H0 H' D qs := by
  obtain ⟨as, h1, h2⟩ := h.ex
  exact ⟨h.same.trans s, as, s _ _ h1, h2.same s⟩
def spMore (C : Addr) : Sp := fun vs H Q _ => ∃ (t a : Addr) (rs : List Row) (r : Row), vs = [.ref t, .ref a] ∧ TreeAt C H t rs ∧ Seq H a (rowVs r) ∧ Fits rs r ∧ rs.length + 1 ≤ 100 ∧ ∀ x H', Same H H' → TreeAt C H' x (rs ++ [r]) → Q (.ref x) H'
def spLess (C : Addr) : Sp := fun vs H Q _ => ∃ (t : Addr) (z : Str) (rs : List Row), vs = [.ref t, .str z] ∧ TreeAt C H t rs ∧ z ∈ names rs ∧ ∀ x H', Same H H' → TreeAt C H' x (lessL rs z) → Q (.ref x) H'
def spMoved (C : Addr) : Sp := fun vs H Q _ => ∃ (t : Addr) (m : Row) (fo : Str) (rs : List Row), vs = [.ref t, .str m.nm, .str fo] ∧ TreeAt C H t rs ∧ m ∈ rs ∧ (fo = ("top" : Str) ∨ ∃ q ∈ rs, q.nm = fo ∧ q.ki = ("folder" : Str) ∧ under rs m.nm q = false) ∧ ∀ x H', Same H H' → TreeAt C H' x (movedL rs m fo) → Q (.ref x) H'
section
variable {P : Program} {w : World} {K : PySem.W.Frag} {mg : Str → Option Value} {base : Heap} {C : Addr}
abbrev nTWay : List Str := ["self", "box", "climb"]
theorem sc_Tree_way : FnScope nTWay ["self", "box"] (defScope s_Tree_way) := ⟨rfl, rfl, rfl, by decide +kernel, rfl, by decide +kernel, by decide +kernel⟩
theorem ok_Tree_way {f : Addr} {fd : FuncData} (F : Fun K "way" "Tree.way" s_Tree_way f fd) (Dp : DefAt K mg "check_place" s_check_place ["tree", "thing"]) (Gp : FnOk P w K mg base CX0 4 Dp.f Dp.fd ["tree", "thing"] (spPlace C)) (TC : TxC K mg) (T : TxT K mg C) : FnOk P w K mg base CX0 5 f fd ["self", "box"] (spListOf C wayOf) := by
  obtain ⟨t1, gT⟩ := TC.top
  refine F.ok sc_Tree_way (fun vs H Q E h => ?_) (fun cdv A outer s H vs Q E hr h => ?_)
  · obtain ⟨t, z, rs, rfl, _⟩ := h
    rfl
  · obtain ⟨t, z, rs, rfl, ht, hz, hq⟩ := h
    have hu := hu_of hr
    have hv := ht.val
    obtain ⟨dx, q, f, k, p, qs, h1, h2, h3, h4, h5, h6⟩ := ht.ex
    refine ⟨_, pss_cons (ps_expr (pe_call Gp hr rfl Dp.g Dp.F.kp Dp.b .nil pass0 (pa_cons (pv 0) (pa_cons (pv 1) pa_nil))))
      (pss_cons (ps_set (i := 2) sc_Tree_way.nd rfl (.inl rfl) (pe_lst pa_nil))
      (pss_cons (ps_while PassesOwn.never (pt_cmpR op_ne (pv 1) (pe_glob (by rfl) gT (v := .str ("top" : Str)) ⟨_, rfl⟩) (nomark _))
        (pss_cons (ps_expr (pe_bm PySem.F.plainAttrs_list PySem.F.slot_list_append PySem.F.type_list_append mt_append (pv 2) (pa_cons (pv 1) pa_nil)))
        (pss_one (ps_set (i := 1) sc_Tree_way.nd rfl (.inl rfl) (pe_dget hu (pe_fld (pv 0) rfl) (pv 1) (fun _ _ => rfl))))))
      (pss_one (ps_ret (pe_revL (pv 2)))))), ?_⟩
    refine ⟨_, rfl, _, rfl, t, z, rs, rfl, ht, hz, ?_⟩
    refine ⟨Nat.zero_le _, fun cl hcl => ?_⟩
    refine while_by (fun σ H' => ∃ (z' : Str) (cs : List Str), σ = [some (.ref t), some (.str z'), some (.ref cl)] ∧ (z' = ("top" : Str) ∨ z' ∈ names rs) ∧ Same H H' ∧ H' cl = some (.lst (cs.map V.str)) ∧ wayOf rs z = wayOf rs z' ++ cs.reverse) (muWay rs)
      ⟨z, [], rfl, hz, Same.new hcl, upd_same, by simp⟩ ?_ (fun σ H Q Q' hQ ⟨v, e, sc, k, e2, q⟩ => ⟨v, e, sc, k, e2, hQ _ _ q⟩)
    rintro σ H4 ⟨z', cs, rfl, hz', s4, hc4, ew⟩
    refine ⟨_, rfl, rfl, _, rfl, ?_⟩
    refine ite2 (fun hc => ?_) (fun hc => ?_)
    · have hn : z' ≠ ("top" : Str) := fun e => by rw [e] at hc; simp at hc
      have hin := hz'.resolve_left hn
      obtain ⟨r, e1, hrm, rfl⟩ := rowOf_some hin
      have ws := way_step hv hrm
      have lw := way_len (rs := rs) (z := z)
      have l100 := ht.len
      have lf : cs.length ≤ 100 := by
        have := congrArg List.length ew
        rw [List.length_append, List.length_reverse] at this
        omega
      have tc : t ≠ cl := ne_of_none h1 hcl
      have fc : f ≠ cl := ne_of_none h4 hcl
      refine ⟨_, rfl, .inl ⟨rfl, _, SqL.of hc4⟩, _, rfl, cl, _, _, rfl, rfl, hc4, small1000 (by rw [List.length_map]; omega), ?_⟩
      refine ⟨_, rfl, t, C, dx, _, _, rfl, by rw [upd_ne tc]; exact s4 _ _ h1, T.cl, T.nf, tf_f _ _ _ _, _, rfl, f, .str r.fo, rfl, ?_, ?_⟩
      · have dg := DGet.k (k := Sum.inr r.nm) (show (upd H4 cl (.lst (cs.map V.str ++ [V.str r.nm]))) f = some (.dK (kvF (fun r => .str r.fo) rs)) from by rw [upd_ne fc]; exact s4 _ _ h4)
        rw [valV_kvF, show (rs.find? fun q => decide (q.nm = r.nm)) = some r from e1] at dg
        exact dg
      · refine ⟨⟨r.fo, cs ++ [r.nm], rfl, hv.foAll hrm, fun b o e => ?_, by rw [upd_same, List.map_append]; rfl, ?_⟩, ?_⟩
        · rw [upd_ne (ne_of_none e hcl)]
          exact s4 _ _ e
        · rw [ew, ws]; simp
        · show (wayOf rs r.fo).length < (wayOf rs r.nm).length
          rw [ws]; simp
    · have ht' : z' = ("top" : Str) := Classical.byContradiction fun e => hc (by
        show (!decide (V.str z' = V.str ("top" : Str))) = true
        rw [decide_eq_false (fun q => e (V.str.inj q))]; rfl)
      refine ⟨_, rfl, cl, _, rfl, SqL.of hc4, fun D hD => ?_⟩
      refine hq D _ (s4.free hD) (s4.trans (Same.new hD)) ?_
      rw [upd_same, ew, ht', way_top hv, List.nil_append, List.map_reverse]
theorem sc_Tree_more : FnScope ["self", "row"] ["self", "row"] (defScope s_Tree_more) := ⟨rfl, rfl, rfl, by decide +kernel, rfl, by decide +kernel, by decide +kernel⟩
theorem ok_Tree_more {f fT : Addr} {fd fdT : FuncData} (F : Fun K "more" "Tree.more" s_Tree_more f fd) (mR : MethAt K C "rows" "Tree.rows" s_Tree_rows ["self"]) (B : TxB mg) (T : TxT K mg C)
    (MT : Mk K C fT) (bT : Binds K fdT ["self", "rows"] []) (GT : FnOk P w K mg base CX0 5 fT fdT ["self", "rows"] (spTreeInit C)) : FnOk P w K mg base CX0 7 f fd ["self", "row"] (spMore C) := by
  have GR : FnOk P w K mg base CX0 2 mR.f mR.fd ["self"] (spRowsM C) := ok_Tree_rows mR.F B T
  refine F.ok sc_Tree_more (fun vs H Q E h => ?_) (fun cdv A outer s H vs Q E hr h => ?_)
  · obtain ⟨t, a, rs, r, rfl, _⟩ := h
    rfl
  · obtain ⟨t, a, rs, r, rfl, ht, ha, hf, hl, hq⟩ := h
    obtain ⟨dx, q, f, k, p, qs, h1, h2, h3, h4, h5, h6⟩ := ht.ex
    refine ⟨_, pss_one (ps_ret (pe_make MT GT hr rfl T.g bT .nil pass0 (pa_cons (pe_op op_cat (pe_meth0 (pv 0) T.cl mR.m GR (hr.mono (by decide)) mR.b .nil pass0) (pe_lst (pa_cons (pv 1) pa_nil))) pa_nil))), ?_⟩
    have noR : (tf q f k p).lookup ("rows" : Str) = none := tf_no _ _ _ _ (by decide +kernel) (by decide +kernel) (by decide +kernel) (by decide +kernel)
    refine ⟨_, rfl, t, dx, _, rfl, h1, noR, t, rs, rfl, ht, fun l qs2 hl' hq2 => ⟨_, rfl, (by show 1 ≤ sizeLine; decide), fun l2 hl2 => ?_⟩⟩
    have s1 := (Same.new (o := .lst (qs2.map V.ref)) hl').trans (Same.new (o := .lst [V.ref a]) hl2)
    refine ⟨l, l2, _, _, rfl, rfl, (Same.new hl2) _ _ upd_same, upd_same, szl (by rw [List.length_map, hq2.len]; show _ + 1 ≤ 1000; omega), fun l3 hl3 => ?_⟩
    have s2 := s1.trans (Same.new (o := .lst (qs2.map V.ref ++ [V.ref a])) hl3)
    intro x d nx nd _
    have s3 := mk_same0 (C := C) nx nd
    have hl3' : (upd (upd (upd H l (.lst (qs2.map V.ref))) l2 (.lst [V.ref a])) l3 (.lst (qs2.map V.ref ++ [V.ref a]))) l3 = some (.lst ((qs2 ++ [a]).map V.ref)) := by rw [upd_same, List.map_append]; rfl
    exact ⟨x, d, l3, qs2 ++ [a], rs ++ [r], rfl, upd_same, .inr (s3 _ _ hl3'), (SeqRows.snoc (hq2.same s2).seq (ha.same s2)).same s3, by rw [List.length_append]; exact hl, ht.val.snoc hf, fun H' sb tr => ⟨rfl, hq x H' (s2.trans (mk_same nx nd sb)) tr⟩⟩
abbrev nLess : List Str := ["self", "box", "gone", "row"]
theorem sc_Tree_less : FnScope nLess ["self", "box"] (defScope s_Tree_less) := ⟨rfl, rfl, rfl, by decide +kernel, rfl, by decide +kernel, by decide +kernel⟩
theorem ok_Tree_less {f fT : Addr} {fd fdT : FuncData} (F : Fun K "less" "Tree.less" s_Tree_less f fd) (Db : DefAt K mg "check_box" s_check_box ["tree", "thing"]) (Gb : FnOk P w K mg base CX0 3 Db.f Db.fd ["tree", "thing"] (spBox C)) (T : TxT K mg C)
    (mB : MethAt K C "below" "Tree.below" s_Tree_below ["self", "box"]) (GB : FnOk P w K mg base CX0 5 mB.f mB.fd ["self", "box"] (spListOf C belowL))
    (MT : Mk K C fT) (bT : Binds K fdT ["self", "rows"] []) (GT : FnOk P w K mg base CX0 5 fT fdT ["self", "rows"] (spTreeInit C)) : FnOk P w K mg base CX0 7 f fd ["self", "box"] (spLess C) := by
  refine F.ok sc_Tree_less (fun vs H Q E h => ?_) (fun cdv A outer s H vs Q E hr h => ?_)
  · obtain ⟨t, z, rs, rfl, _⟩ := h
    rfl
  · obtain ⟨t, z, rs, rfl, ht, hz, hq⟩ := h
    have hv := ht.val
    have l100 := ht.len
    have zt : z ≠ ("top" : Str) := fun e => top_not hv (e ▸ hz)
    obtain ⟨dx, q, f, k, p, qs, h1, h2, h3, h4, h5, h6⟩ := ht.ex
    refine ⟨_, pss_cons (ps_expr (pe_call Gb (hr.mono (by decide)) rfl Db.g Db.F.kp Db.b .nil pass0 (pa_cons (pv 0) (pa_cons (pv 1) pa_nil))))
      (pss_cons (ps_set (i := 2) sc_Tree_less.nd rfl (.inr rfl) (pe_op op_cat (pe_lst (pa_cons (pv 1) pa_nil)) (pe_meth (pv 0) T.cl mB.m GB (hr.mono (by decide)) mB.b .nil pass0 (pa_cons (pv 1) pa_nil))))
      (pss_one (ps_ret (pe_make MT GT hr rfl T.g bT .nil pass0 (pa_cons (pe_lc (own := [("row", 3)]) (g := gName 3) (tt := tTest (tOp (rIn K true) (tOp (rIxT K) (tVar 3) (tC (.int 0))) (tVar 2))) (te := tVar 3) rfl sc_Tree_less.nd (pi_tup (pe_fld (pv 0) rfl)) (blkOk_by (N := nLess) (sc := defScope s_Tree_less) (by decide +kernel))
        (fun _ _ _ _ _ => pg_name (i := 3) sc_Tree_less.nd rfl (Or.inl rfl)) (fun _ _ _ _ _ => by exact pts_one (pt_cmpR op_notIn_seq (pe_ix ix_tup (pv 3) pe_int (fun _ _ => rfl)) (pv 2) (by rfl))) (fun _ _ _ _ _ => pv 3)) pa_nil))))), ?_⟩
    have noB : (tf q f k p).lookup ("below" : Str) = none := tf_no _ _ _ _ (by decide +kernel) (by decide +kernel) (by decide +kernel) (by decide +kernel)
    refine ⟨_, rfl, _, rfl, t, z, rs, rfl, ht, hz, ?_⟩
    refine ⟨_, rfl, (by show 1 ≤ sizeLine; decide), fun l1 hl1 => ?_⟩
    have s1 : Same H (upd H l1 (.lst [V.str z])) := Same.new hl1
    refine ⟨_, rfl, t, dx, _, rfl, s1 _ _ h1, noB, _, rfl, t, z, rs, rfl, ht.same s1, .inr hz, fun l2 H2 hl2 s2 e2 => ?_⟩
    have lbe := List.length_filter_le (isIn rs z) rs
    refine ⟨l1, l2, _, _, rfl, rfl, s2 _ _ upd_same, e2, szl (by unfold belowL; rw [List.length_map, List.length_map]; show 1 + _ ≤ 1000; omega), fun gn hgn => ?_⟩
    have s3 : Same H (upd H2 gn (.lst ([V.str z] ++ (belowL rs z).map V.str))) := (s1.trans s2).trans (Same.new hgn)
    have e3 : (upd H2 gn (.lst ([V.str z] ++ (belowL rs z).map V.str))) gn = some (.lst ((z :: belowL rs z).map V.str)) := upd_same
    generalize upd H2 gn (.lst ([V.str z] ++ (belowL rs z).map V.str)) = H3 at s3 e3
    refine ⟨_, rfl, t, C, dx, _, _, rfl, s3 _ _ h1, T.cl, T.nq, tf_q _ _ _ _, q, rfl, ⟨_, sqT (s3 _ _ h2)⟩, fun D hD => ?_⟩
    have r3 := h3.same s3
    refine lc_tup (K := K) (a := q) (xs := qs.map V.ref) (fun i H' => KeepI H3 H' D ((rs.take i).filter fun r => !under rs z r)) (KeepI.nil hD) (fun i H' _ m => sqT (m.same _ _ (s3 _ _ h2))) ?_ ?_
    · rintro i x H4 hx m
      obtain ⟨ra, r, rfl, hra, hr', e0⟩ := rows_at r3 hx
      have e4 := m.same _ _ e0
      refine ⟨rfl, _, rfl, ra, _, _, _, rfl, rfl, sqT e4, atI0 _ _ _ _, _, rfl, gn, _, rfl, .inl (SqL.of (m.same _ _ e3)), rfl, flat_strs _, _, rfl, ?_⟩
      have e : (if true = true then !inV (.str r.nm) ((z :: belowL rs z).map V.str) else inV (.str r.nm) ((z :: belowL rs z).map V.str)) = !under rs z r := by
        rw [if_pos rfl, inV_strs, gone_iff hv zt (List.mem_of_getElem? hr')]
      rw [e]
      refine ite2 (fun hc => ?_) (fun hc => ?_)
      · have g := m.grow hD (Same.refl _) e4 (by have := List.length_filter_le (fun r => !under rs z r) (rs.take i); rw [List.length_take] at this; omega)
        refine ⟨_, rfl, ?_⟩
        rw [filter_more hr', if_pos hc]
        exact g
      · rw [filter_more hr', if_neg hc, List.append_nil]
        exact m
    · rintro H4 m
      rw [List.length_map, h3.len, List.take_length] at m
      obtain ⟨as, d1, d2⟩ := m.ex
      intro x d nx nd _
      have s5 := mk_same0 (C := C) nx nd
      have lle := List.length_filter_le (fun r => !under rs z r) rs
      exact ⟨x, d, D, as, lessL rs z, rfl, upd_same, .inr (s5 _ _ d1), (d2.same s5).seq, Nat.le_trans lle l100, less_valid hv z, fun H' sb tr => ⟨rfl, hq x H' ((s3.trans m.same).trans (mk_same nx nd sb)) tr⟩⟩
end
end Ts

set_option maxRecDepth 100000
set_option maxHeartbeats 4000000
namespace Ts
open PySem L2
/-! ### making trees and meanings, as a caller reads it -/
theorem mean_made {K : PySem.W.Frag} {C CM : Addr} {Q : VK} {H : Hp} {t h : Addr} {d : Bool} {xs : List Str} {rs : List Row} (ht : TreeAt C H t rs) (hx : SqX K H h (xs.map V.str)) (hf : ∀ x ∈ xs, Free rs x)
    (k : ∀ m H', Same H H' → MeanAt C CM H' m t rs d (turnsL rs xs) → Q (.ref m) H') :
    ∀ x dx, H x = none → H dx = none → dx ≠ x → spMeaningInit K C CM (.ref x :: ([.ref t, .bl d, .ref h] ++ [])) (upd (upd H dx (.own x)) x (.ins CM dx [])) (fun v H2 => v = .non ∧ Q (.ref x) H2) E0 :=
  fun x dx nx nd _ => ⟨x, dx, t, h, d, xs, rs, rfl, upd_same, ht.same (mk_same0 nx nd), hx.same (mk_same0 nx nd), hf, fun H' sb m => ⟨rfl, k x H' (mk_same nx nd sb) m⟩⟩
theorem mean_madeD {K : PySem.W.Frag} {C CM : Addr} {Q : VK} {H : Hp} {t h : Addr} {d : Bool} {rs : List Row} (ht : TreeAt C H t rs) (hx : SqT K H h []) 
    (k : ∀ m H', Same H H' → MeanAt C CM H' m t rs d [] → Q (.ref m) H') :
    ∀ x dx, H x = none → H dx = none → dx ≠ x → spMeaningInit K C CM (.ref x :: ([.ref t, .bl d] ++ [.ref h])) (upd (upd H dx (.own x)) x (.ins CM dx [])) (fun v H2 => v = .non ∧ Q (.ref x) H2) E0 :=
  fun x dx nx nd _ => ⟨x, dx, t, h, d, [], rs, rfl, upd_same, ht.same (mk_same0 nx nd), (show SqX K H h [] from .inr hx).same (mk_same0 nx nd), (fun x hx => by cases hx), fun H' sb m => ⟨rfl, k x H' (mk_same nx nd sb) (by
    have e : turnsL rs [] = [] := by unfold turnsL; simp
    rw [e] at m
    exact m)⟩⟩
theorem tree_made {C : Addr} {Q : VK} {H : Hp} {p : Addr} {as : List Addr} {rs : List Row} (hp : Seq H p (as.map V.ref)) (hr : SeqRows H as rs) (hl : rs.length ≤ 100) (hv : Valid rs)
    (k : ∀ t H', Same H H' → TreeAt C H' t rs → Q (.ref t) H') :
    ∀ x dx, H x = none → H dx = none → dx ≠ x → spTreeInit C (.ref x :: ([.ref p] ++ [])) (upd (upd H dx (.own x)) x (.ins C dx [])) (fun v H2 => v = .non ∧ Q (.ref x) H2) E0 :=
  fun x dx nx nd _ => ⟨x, dx, p, as, rs, rfl, upd_same, hp.same (mk_same0 nx nd), hr.same (mk_same0 nx nd), hl, hv, fun H' sb m => ⟨rfl, k x H' (mk_same nx nd sb) m⟩⟩
theorem newz_len : ("newz" : Str).length = 4 := by decide +kernel
theorem newz_low : Low ("newz" : Str) := by unfold Low; decide +kernel
theorem newz_fits {rs : List Row} (hn : ∀ r ∈ rs, r.nm.length ≠ 4) {fo : Str} (hfo : fo = ("top" : Str) ∨ fo ∈ folderNames rs) : Fits rs ⟨"newz", fo, "item", some 1⟩ := by
  refine ⟨⟨.inr newz_len, newz_low⟩, fun e => ?_, fun hm => ?_, hfo.imp id mem_folders, (show ("item" : Str) ∈ kinds3 by decide +kernel), (show (1 : Int) ≤ 1 by decide)⟩
  · have := congrArg Str.length e
    rw [show (Row.nm ⟨"newz", fo, "item", some 1⟩) = ("newz" : Str) from rfl, newz_len, top_len] at this
    exact absurd this (by decide)
  · obtain ⟨r, h1, h2⟩ := List.mem_map.mp hm
    exact hn r h1 (by rw [h2]; exact newz_len)
theorem newz_not {rs : List Row} (hn : ∀ r ∈ rs, r.nm.length ≠ 4) : ("newz" : Str) ∉ names rs := fun hm => by
  obtain ⟨r, h1, h2⟩ := List.mem_map.mp hm
  exact hn r h1 (by rw [h2]; exact newz_len)
theorem rowOf_app {rs qs : List Row} {z : Str} {r : Row} (h : rowOf rs z = some r) : rowOf (rs ++ qs) z = some r := by
  unfold rowOf at h ⊢
  rw [List.find?_append, h]; rfl
theorem Free.app {rs qs : List Row} {z : Str} (h : Free rs z) : Free (rs ++ qs) z := by
  obtain ⟨r, e, hp⟩ := h
  exact ⟨r, rowOf_app e, hp⟩
end Ts

set_option maxRecDepth 100000
set_option maxHeartbeats 4000000
namespace Ts
open PySem L2
/-! ### all but lists is kept -/
def KL (H H' : Hp) : Prop := ∀ b o, H b = some o → (∀ xs, o ≠ .lst xs) → H' b = some o
theorem KL.of {H H' : Hp} (s : Same H H') : KL H H' := fun b o e _ => s b o e
theorem KL.refl (H : Hp) : KL H H := fun _ _ e _ => e
theorem KL.trans {H H1 H2 : Hp} (x : KL H H1) (y : KL H1 H2) : KL H H2 := fun b o e n => y b o (x b o e n) n
theorem KL.upd {H : Hp} {l : Addr} {xs : List V} {o : HO} (h : H l = some (.lst xs)) : KL H (L2.upd H l o) := fun b o e n => by
  rw [upd_ne (fun q => by rw [q, h] at e; exact n _ (Option.some.inj e).symm)]
  exact e
theorem RowsAt.kl {H H' : Hp} {as : List Addr} {rs : List Row} (h : RowsAt H as rs) (s : KL H H') : RowsAt H' as rs := ⟨h.len, fun i a r ha hr => s _ _ (h.at_ i a r ha hr) (fun _ e => nomatch e)⟩
theorem TreeAt.kl {C : Addr} {H H' : Hp} {t : Addr} {rs : List Row} (h : TreeAt C H t rs) (s : KL H H') : TreeAt C H' t rs := by
  obtain ⟨dx, q, f, k, p, qs, h1, h2, h3, h4, h5, h6⟩ := h.ex
  exact ⟨⟨dx, q, f, k, p, qs, s _ _ h1 (fun _ e => nomatch e), s _ _ h2 (fun _ e => nomatch e), h3.kl s, s _ _ h4 (fun _ e => nomatch e), s _ _ h5 (fun _ e => nomatch e), s _ _ h6 (fun _ e => nomatch e)⟩, h.val, h.len⟩
theorem MeanAt.kl {C CM : Addr} {H H' : Hp} {m t : Addr} {rs : List Row} {d : Bool} {ts : List Str} (h : MeanAt C CM H m t rs d ts) (s : KL H H') : MeanAt C CM H' m t rs d ts := by
  obtain ⟨dx, u, k, h1, h2, h3⟩ := h.ex
  exact ⟨⟨dx, u, k, s _ _ h1 (fun _ e => nomatch e), s _ _ h2 (fun _ e => nomatch e), s _ _ h3 (fun _ e => nomatch e)⟩, h.tree.kl s, h.norm⟩
theorem any_falses : ∀ n : Nat, (List.replicate n false).any id = false
  | 0 => rfl
  | n + 1 => by rw [List.replicate_succ, List.any_cons, any_falses n]; rfl
theorem all_trues : ∀ n : Nat, (List.replicate n true).all id = true
  | 0 => rfl
  | n + 1 => by rw [List.replicate_succ, List.all_cons, all_trues n]; rfl
theorem KL.sb {H H' : Hp} {a : Addr} {n : Int} (st : Stm H a n) (s : SB a H H') : KL H H' := fun b o e no => s b o (fun q => by
  obtain ⟨x, y, z, ea, _⟩ := st
  rw [q, ea] at e
  exact no _ (Option.some.inj e).symm) e
theorem RowsL.sbk {H H' : Hp} {a p : Addr} {rs : List Row} {n : Int} (h : RowsL H p rs) (np : p ≠ a) (st : Stm H a n) (s : SB a H H') : RowsL H' p rs := by
  obtain ⟨as, h1, h2⟩ := h.ex
  exact ⟨as, s _ _ np h1, h2.kl (KL.sb st s)⟩
theorem RowsL.upd {H : Hp} {p l : Addr} {xs : List V} {o : HO} {rs : List Row} (h : RowsL H p rs) (np : p ≠ l) (e : H l = some (.lst xs)) : RowsL (L2.upd H l o) p rs := by
  obtain ⟨as, h1, h2⟩ := h.ex
  exact ⟨as, by rw [upd_ne np]; exact h1, h2.kl (KL.upd e)⟩
theorem smb {H H1 H2 : Hp} {a : Addr} (h : Same H H1) (ha : H a = none) (s : SB a H1 H2) : Same H H2 := fun b o e => s b o (ne_of_none e ha) (h b o e)
theorem smu {H H1 : Hp} {a : Addr} {o : HO} (h : Same H H1) (ha : H a = none) : Same H (L2.upd H1 a o) := fun b o e => by
  rw [upd_ne (ne_of_none e ha)]
  exact h b o e
theorem cut_str (ts : List Str) (lo hi : Option Int) : ∃ zs : List Str, cutV (ts.map V.str) lo hi = zs.map V.str ∧ (∀ z ∈ zs, z ∈ ts) ∧ zs.length ≤ ts.length := by
  refine ⟨(ts.drop (HT.sIx (ts.map V.str).length 0 lo)).take (HT.sIx (ts.map V.str).length (ts.map V.str).length hi - HT.sIx (ts.map V.str).length 0 lo), ?_, fun z hz => List.mem_of_mem_drop (List.mem_of_mem_take hz), ?_⟩
  · unfold cutV
    rw [← List.map_drop, ← List.map_take]
  · rw [List.length_take, List.length_drop]; omega
theorem prices_ok : ∀ q ∈ pricesL, PriceOk q := by
  intro q hq
  simp [pricesL] at hq
  rcases hq with rfl | rfl | rfl | rfl | rfl <;> simp [PriceOk]
theorem kinds_ok3 : ∀ k ∈ kindsL, k ∈ kinds3 := by decide +kernel
theorem paired_same {H H' : Hp} (s : Same H H') : ∀ {ts : List Addr} {qs : List (Key × V)}, Paired (fun (t : Addr) (q : Key × V) => H t = some (.tup [kV q.1, q.2])) ts qs → Paired (fun (t : Addr) (q : Key × V) => H' t = some (.tup [kV q.1, q.2])) ts qs
  | _, _, .nil => .nil
  | _, _, .cons h t => .cons (s _ _ h) (paired_same s t)
theorem iteF' {c : Bool} {A B : Prop} (h : c = false) (b : B) : if c = true then A else B := by rw [h]; exact b
theorem kvM_at {rs : List Row} {d : Bool} {ts : List Str} {j : Nat} {k : Key} {v : V} (h : (kvM rs d ts rs)[j]? = some (k, v)) : ∃ z : Str, k = .inr z ∧ (z = ("top" : Str) ∨ z ∈ names rs) := by
  have hm := List.mem_of_getElem? h
  unfold kvM at hm
  rcases List.mem_cons.mp hm with e | hm
  · exact ⟨"top", (Prod.mk.inj e).1, .inl rfl⟩
  · unfold kvF at hm
    obtain ⟨r, hr, e⟩ := List.mem_map.mp hm
    exact ⟨r.nm, (Prod.mk.inj e).1.symm, .inr (List.mem_map.mpr ⟨r, hr, rfl⟩)⟩
theorem valV_kvM' {rs : List Row} (h : Valid rs) (d : Bool) (ts : List Str) {z : Str} (hz : z = ("top" : Str) ∨ z ∈ names rs) : valV (kvM rs d ts rs) (.inr z : Key) = some (.bl (valOf rs d ts z)) :=
  valV_kvM h d ts (by
    by_cases e : z = ("top" : Str)
    · exact .inl e
    · exact .inr ⟨e, hz.resolve_left e⟩)
def spLaw (K : PySem.W.Frag) : Sp := fun vs H Q _ => ∃ (a : Addr) (ns : List Int), vs = [.ref a] ∧ SqL K H a (ns.map V.int) ∧ ns.length ≤ 63 ∧ ∀ H', Q (.bl true) H'
/-- how the class of trees stands to other sorts -/
structure TxN (K : PySem.W.Frag) (C : Addr) : Prop where
  ne : PySem.W.findIn K (.ref C) "__ne__" = some (some (.builtin "object.__ne__"))
  ob : PySem.W.subIn K (.ref C) (.type "object") = some true
theorem nfC {K : PySem.W.Frag} {C : Addr} : PySem.W.notFirst K C (.ref C) = true := by simp [PySem.W.notFirst]
end Ts

set_option maxRecDepth 100000
set_option maxHeartbeats 4000000
namespace Ts
open PySem L2
/-! ### two meanings of one tree -/
/-- the top and the boxes -/
def plc (rs : List Row) : List Str := ("top" : Str) :: names rs
theorem val_all {rs : List Row} (hv : Valid rs) {d d2 : Bool} {ts us : List Str} (h1 : turnsL rs ts = ts) (h2 : turnsL rs us = us) : (∀ z ∈ plc rs, valOf rs d ts z = valOf rs d2 us z) ↔ (d = d2 ∧ ts = us) := by
  constructor
  · intro h
    have hd : d = d2 := by
      have := h ("top" : Str) (List.mem_cons_self ..)
      rw [val_top hv, val_top hv] at this
      exact this
    refine ⟨hd, ?_⟩
    rw [← h1, ← h2]
    unfold turnsL
    refine List.filter_congr fun z hz => ?_
    obtain ⟨r, hr, rfl⟩ := List.mem_map.mp hz
    have e1 := h r.nm (List.mem_cons_of_mem _ hz)
    have e2 := h r.fo (by
      rcases hv.foAll hr with e | e
      · rw [e]; exact List.mem_cons_self ..
      · exact List.mem_cons_of_mem _ e)
    rw [val_step hv d ts hr, val_step hv d2 us hr, e2] at e1
    revert e1
    generalize valOf rs d2 us r.fo = b
    generalize decide (r.nm ∈ ts) = x
    generalize decide (r.nm ∈ us) = y
    cases b <;> cases x <;> cases y <;> simp
  · rintro ⟨rfl, rfl⟩ z _
    rfl
theorem val_norm {rs : List Row} (d : Bool) (us : List Str) (z : Str) : valOf rs d (turnsL rs us) z = valOf rs d us z :=
  valOf_congr fun x hx => by rw [mem_turnsL]; exact ⟨fun e => e.2, fun e => ⟨hx, e⟩⟩
def firstUn (rs : List Row) (d : Bool) (ts : List Str) (d2 : Bool) (us : List Str) : Option Str := (plc rs).find? fun z => decide (valOf rs d ts z ≠ valOf rs d2 us z)
def optS : Option Str → V
  | none => .non
  | some z => .str z
theorem find_at {α : Type} {p : α → Bool} : ∀ {l : List α} {i : Nat} {z : α}, (∀ x ∈ l.take i, p x = false) → l[i]? = some z → p z = true → l.find? p = some z
  | [], i, z, _, h, _ => by simp at h
  | x :: l, 0, z, _, h, hp => by
    have e : x = z := Option.some.inj h
    subst e
    rw [List.find?_cons_of_pos hp]
  | x :: l, i + 1, z, hx, h, hp => by
    have h0 := hx x (by rw [List.take_succ_cons]; exact List.mem_cons_self ..)
    rw [List.find?_cons_of_neg (by rw [h0]; exact Bool.false_ne_true)]
    exact find_at (fun y hy => hx y (by rw [List.take_succ_cons]; exact List.mem_cons_of_mem _ hy)) (by simpa using h) hp
theorem kvM_plc {rs : List Row} {d : Bool} {ts : List Str} {j : Nat} {k : Key} {v : V} (h : (kvM rs d ts rs)[j]? = some (k, v)) : ∃ z : Str, k = .inr z ∧ (plc rs)[j]? = some z := by
  have e : (kvM rs d ts rs).map Prod.fst = (plc rs).map Sum.inr := by
    unfold kvM plc names kvF
    rw [List.map_cons, List.map_cons, List.map_map, List.map_map]
    rfl
  have e2 : ((kvM rs d ts rs).map Prod.fst)[j]? = some k := by rw [List.getElem?_map, h]; rfl
  rw [e, List.getElem?_map] at e2
  obtain ⟨z, hz, e3⟩ := Option.map_eq_some_iff.mp e2
  exact ⟨z, e3.symm, hz⟩
theorem kvM_len (rs : List Row) (d : Bool) (ts : List Str) : (kvM rs d ts rs).length = (plc rs).length := by
  unfold kvM plc names kvF
  simp
theorem mem_plc {rs : List Row} {z : Str} : z ∈ plc rs ↔ z = ("top" : Str) ∨ z ∈ names rs := List.mem_cons
/-! ### two sorted lists of the same texts -/
theorem ltCps_irr : ∀ l : List Nat, PySem.Spec.ltCps l l = false
  | [] => rfl
  | a :: l => by simp [PySem.Spec.ltCps, ltCps_irr l]
theorem ltCps_total : ∀ (a b : List Nat), PySem.Spec.ltCps a b = false → PySem.Spec.ltCps b a = false → a = b
  | [], [], _, _ => rfl
  | [], _ :: _, h, _ => by simp [PySem.Spec.ltCps] at h
  | _ :: _, [], _, h => by simp [PySem.Spec.ltCps] at h
  | x :: a, y :: b, h1, h2 => by
    simp only [PySem.Spec.ltCps, Bool.or_eq_false_iff, decide_eq_false_iff_not, Bool.and_eq_false_iff, beq_eq_false_iff_ne] at h1 h2
    have e : x = y := by omega
    subst e
    rw [ltCps_total a b (h1.2.resolve_left (by simp)) (h2.2.resolve_left (by simp))]
theorem geCps_trans : ∀ (a b c : List Nat), PySem.Spec.ltCps b a = false → PySem.Spec.ltCps c b = false → PySem.Spec.ltCps c a = false
  | [], [], [], _, _ => rfl
  | [], _, _ :: _, _, _ => by simp [PySem.Spec.ltCps]
  | [], _ :: _, [], _, h => by simp [PySem.Spec.ltCps] at h
  | _ :: _, [], _, h, _ => by simp [PySem.Spec.ltCps] at h
  | _ :: _, _ :: _, [], _, h => by simp [PySem.Spec.ltCps] at h
  | x :: a, y :: b, z :: c, h1, h2 => by
    simp only [PySem.Spec.ltCps, Bool.or_eq_false_iff, decide_eq_false_iff_not, Bool.and_eq_false_iff, beq_eq_false_iff_ne] at h1 h2 ⊢
    refine ⟨by omega, ?_⟩
    by_cases e : z = x
    · right
      have e1 : y = x := by omega
      have e2 : z = y := by omega
      exact geCps_trans a b c (h1.2.resolve_left (by simp [e1])) (h2.2.resolve_left (by simp [e2]))
    · left; exact e
theorem pw_of_rising : ∀ (l : List Str) (p : Str), PyProof.Rows.risingS p l = true → (p :: l).Pairwise fun a b => PySem.Spec.ltCps b.cps.toList a.cps.toList = false
  | [], p, _ => by simp
  | x :: l, p, h => by
    have h' : (!PySem.Spec.ltCps x.cps.toList p.cps.toList && PyProof.Rows.risingS x l) = true := h
    rw [Bool.and_eq_true, Bool.not_eq_true'] at h'
    have ih := pw_of_rising l x h'.2
    rw [List.pairwise_cons]
    refine ⟨fun y hy => ?_, ih⟩
    rcases List.mem_cons.mp hy with rfl | hy
    · exact h'.1
    · exact geCps_trans _ _ _ h'.1 (List.rel_of_pairwise_cons ih hy)
theorem pw_of_sorted : ∀ {l : List Str}, PyProof.Rows.sortedS l = true → l.Pairwise fun a b => PySem.Spec.ltCps b.cps.toList a.cps.toList = false
  | [], _ => List.Pairwise.nil
  | x :: l, h => pw_of_rising l x h
theorem str_of_cps {a b : Str} (h : a.cps.toList = b.cps.toList) : a = b := by
  cases a; cases b
  simp only at h
  rw [Str.mk.injEq]
  exact Array.ext' h
theorem sorted_same {xs ys zs ws : List Str} (p1 : xs.Perm zs) (p2 : ys.Perm ws) (s1 : PyProof.Rows.sortedS xs = true) (s2 : PyProof.Rows.sortedS ys = true) : xs = ys ↔ zs.Perm ws := by
  constructor
  · rintro rfl
    exact p1.symm.trans p2
  · intro h
    refine List.Perm.eq_of_pairwise (le := fun a b => PySem.Spec.ltCps b.cps.toList a.cps.toList = false) (fun a b _ _ h1 h2 => str_of_cps (ltCps_total _ _ h2 h1)) (pw_of_sorted s1) (pw_of_sorted s2) ((p1.trans h).trans p2.symm)
/-! ### what newcomers show -/
def newL (rs : List Row) (d : Bool) (ts : List Str) : List Bool := ((("top" : Str) :: folderNames rs).flatMap fun fo => [valOf rs d ts fo, valOf rs d ts fo]) ++ rs.map fun r => valOf rs d ts r.nm
theorem newL_eq {rs : List Row} {d d2 : Bool} {ts us : List Str} : newL rs d ts = newL rs d2 us ↔ ∀ z ∈ plc rs, valOf rs d ts z = valOf rs d2 us z := by
  unfold newL
  constructor
  · intro h
    have hl : ((("top" : Str) :: folderNames rs).flatMap fun fo => [valOf rs d ts fo, valOf rs d ts fo]).length = ((("top" : Str) :: folderNames rs).flatMap fun fo => [valOf rs d2 us fo, valOf rs d2 us fo]).length := by
      simp only [List.length_flatMap]; rfl
    obtain ⟨h1, h2⟩ := List.append_inj h hl
    intro z hz
    rcases mem_plc.mp hz with rfl | hz
    · rw [List.flatMap_cons, List.flatMap_cons] at h1
      have := List.append_inj h1 rfl
      exact (List.cons.inj this.1).1
    · obtain ⟨r, hr, rfl⟩ := List.mem_map.mp hz
      exact List.map_inj_left.mp h2 r hr
  · intro h
    congr 1
    · rw [List.flatMap_def, List.flatMap_def]
      refine congrArg List.flatten (List.map_congr_left fun fo hfo => ?_)
      rw [h fo (by
        rcases List.mem_cons.mp hfo with rfl | hfo
        · exact List.mem_cons_self ..
        · obtain ⟨q, hq, rfl, _⟩ := mem_folders hfo
          exact List.mem_cons_of_mem _ (List.mem_map.mpr ⟨q, hq, rfl⟩))]
    · exact List.map_congr_left fun r hr => h r.nm (List.mem_cons_of_mem _ (List.mem_map.mpr ⟨r, hr, rfl⟩))
theorem bools_dp {K : PySem.W.Frag} {H : Hp} : ∀ l : List Bool, DpAll K H (l.map V.bl) (l.map PyData.bool)
  | [] => .nil
  | x :: l => .cons (.bl x) (bools_dp l)
theorem bools_eqv : ∀ a b : List Bool, PyData.eqvAll (a.map PyData.bool) (b.map PyData.bool) = decide (a = b)
  | [], [] => by simp [PyData.eqvAll]
  | [], _ :: _ => by simp [PyData.eqvAll]
  | _ :: _, [] => by simp [PyData.eqvAll]
  | x :: a, y :: b => by
    simp only [List.map_cons, PyData.eqvAll, PyData.eqv, bools_eqv a b]
    by_cases h : a = b <;> cases x <;> cases y <;> simp [h]
theorem bools_lay : ∀ l : List Bool, PyData.canLayAll0 (l.map PyData.bool) = true
  | [] => by simp [PyData.canLayAll0]
  | x :: l => by simp [PyData.canLayAll0, PyData.canLay0, bools_lay l]
theorem bools_depth : ∀ l : List Bool, PyData.depthAll (l.map PyData.bool) = 0
  | [] => by simp [PyData.depthAll]
  | x :: l => by simp [PyData.depthAll, PyData.depth, bools_depth l]
theorem shaped_bools (l : List Bool) : SeqAt.shaped (.list (l.map PyData.bool)) = true := by
  unfold SeqAt.shaped
  rw [Bool.and_eq_true]
  refine ⟨by simp only [PyData.canLay0]; exact bools_lay l, decide_eq_true ?_⟩
  simp only [PyData.depth, bools_depth]
  omega
end Ts

set_option maxRecDepth 100000
set_option maxHeartbeats 4000000
namespace Ts
open PySem L2
/-! ### what rows of deeds do -/
/-- a word and a place -/
abbrev De := Str × Str
def words3 : List Str := ["on", "off", "flip"]
def words4 : List Str := ["keep", "on", "off", "flip"]
def flp (w : Str) : Str := if w = "on" then "off" else if w = "off" then "on" else if w = "flip" then "keep" else "flip"
def within (rs : List Row) (p b : Str) : Bool := decide (b = p) || decide (b ∈ belowL rs p)
def stepE (rs : List Row) (d : De) (e : Str → Str) : Str → Str := fun b => if within rs d.2 b = true then (if d.1 = "flip" then flp (e b) else d.1) else e b
def eff (rs : List Row) (ds : List De) : Str → Str := ds.foldl (fun e d => stepE rs d e) fun _ => "keep"
theorem eff_snoc (rs : List Row) (ds : List De) (d : De) : eff rs (ds ++ [d]) = stepE rs d (eff rs ds) := by
  unfold eff
  rw [List.foldl_append]
  rfl
def vb (w : Str) (v : Bool) : Bool := if w = "on" then true else if w = "off" then false else if w = "flip" then !v else v
def stepV (rs : List Row) (d : De) (v : Str → Bool) : Str → Bool := fun b => if within rs d.2 b = true then (if d.1 = "flip" then !(v b) else decide (d.1 = "on")) else v b
def doneV (rs : List Row) (v : Str → Bool) (ds : List De) : Str → Bool := ds.foldl (fun v d => stepV rs d v) v
theorem doneV_snoc (rs : List Row) (v : Str → Bool) (ds : List De) (d : De) : doneV rs v (ds ++ [d]) = stepV rs d (doneV rs v ds) := by
  unfold doneV
  rw [List.foldl_append]
  rfl
theorem w_keep : ("keep" : Str) ∈ words4 := by decide +kernel
theorem flp_mem : ∀ w ∈ words4, flp w ∈ words4 := by decide +kernel
theorem words_sub : ∀ w ∈ words3, w ∈ words4 := by decide +kernel
theorem vb_flp : ∀ w ∈ words4, ∀ v : Bool, vb (flp w) v = !(vb w v) := by decide +kernel
theorem vb_word : ∀ w ∈ words3, ¬ w = ("flip" : Str) → ∀ v : Bool, vb w v = decide (w = ("on" : Str)) := by decide +kernel
theorem vb_keep : ∀ v : Bool, vb ("keep" : Str) v = v := by decide +kernel
theorem vb_inj : ∀ w ∈ words4, ∀ x ∈ words4, vb w true = vb x true → vb w false = vb x false → w = x := by decide +kernel
theorem words4_ok : ∀ w ∈ words4, PyData.strOk w = true := by decide +kernel
theorem ds_rec {α : Type} {p : List α → Prop} (h0 : p []) (h1 : ∀ l x, p l → p (l ++ [x])) : ∀ (n : Nat) (l : List α), l.length = n → p l := by
  intro n
  induction n with
  | zero => intro l h; rw [List.length_eq_zero_iff.mp h]; exact h0
  | succ n ih =>
    intro l h
    have hne : l ≠ [] := fun e => by rw [e] at h; cases h
    rw [← List.dropLast_concat_getLast hne]
    exact h1 _ _ (ih _ (by rw [List.length_dropLast]; omega))
def Words (ds : List De) : Prop := ∀ d ∈ ds, d.1 ∈ words3
theorem Words.init {ds : List De} {d : De} (h : Words (ds ++ [d])) : Words ds := fun x hx => h x (List.mem_append_left _ hx)
theorem Words.last {ds : List De} {d : De} (h : Words (ds ++ [d])) : d.1 ∈ words3 := h d (List.mem_append_right _ (List.mem_singleton.mpr rfl))
theorem stepE_mem {rs : List Row} {d : De} {e : Str → Str} (hd : d.1 ∈ words3) (he : ∀ b, e b ∈ words4) : ∀ b, stepE rs d e b ∈ words4 := fun b => by
  unfold stepE
  split
  · split
    · exact flp_mem _ (he b)
    · exact words_sub _ hd
  · exact he b
theorem eff_mem {rs : List Row} : ∀ {ds : List De}, Words ds → ∀ b, eff rs ds b ∈ words4 := fun {ds} =>
  ds_rec (p := fun ds => Words ds → ∀ b, eff rs ds b ∈ words4) (fun _ _ => w_keep) (fun l x ih h b => by
    rw [eff_snoc]
    exact stepE_mem h.last (ih h.init) b) _ ds rfl
theorem done_eff {rs : List Row} : ∀ {ds : List De}, Words ds → ∀ (v : Str → Bool) b, doneV rs v ds b = vb (eff rs ds b) (v b) := fun {ds} =>
  ds_rec (p := fun ds => Words ds → ∀ (v : Str → Bool) b, doneV rs v ds b = vb (eff rs ds b) (v b)) (fun _ v b => (vb_keep _).symm) (fun l x ih h v b => by
    rw [eff_snoc, doneV_snoc]
    unfold stepV stepE
    by_cases c : within rs x.2 b = true
    · rw [if_pos c, if_pos c]
      by_cases f : x.1 = ("flip" : Str)
      · rw [if_pos f, if_pos f, vb_flp _ (eff_mem h.init b), ih h.init]
      · rw [if_neg f, if_neg f, vb_word _ h.last f]
    · rw [if_neg c, if_neg c]
      exact ih h.init v b) _ ds rfl
/-- what two rows of deeds make of all on and all off tells whether they are alike -/
def alikeE (rs : List Row) (ds es : List De) : Bool := (plc rs).all fun z => decide (eff rs ds z = eff rs es z)
theorem led_alike {rs : List Row} {ds es : List De} (h1 : Words ds) (h2 : Words es) : (allE (fun z => .bl (doneV rs (fun _ => true) ds z)) (fun z => .bl (doneV rs (fun _ => true) es z)) (plc rs) && allE (fun z => .bl (doneV rs (fun _ => false) ds z)) (fun z => .bl (doneV rs (fun _ => false) es z)) (plc rs)) = alikeE rs ds es := by
  have eb : ∀ a b : Bool, eqV (.bl a) (.bl b) = decide (a = b) := by intro a b; cases a <;> cases b <;> rfl
  unfold allE alikeE
  rw [Bool.eq_iff_iff, Bool.and_eq_true, List.all_eq_true, List.all_eq_true, List.all_eq_true]
  constructor
  · rintro ⟨a, b⟩ z hz
    have a1 := a z hz
    have b1 := b z hz
    rw [eb, decide_eq_true_eq, done_eff h1, done_eff h2] at a1 b1
    exact decide_eq_true (vb_inj _ (eff_mem h1 z) _ (eff_mem h2 z) a1 b1)
  · intro h
    refine ⟨fun z hz => ?_, fun z hz => ?_⟩ <;>
    · have := of_decide_eq_true (h z hz)
      rw [eb, decide_eq_true_eq, done_eff h1, done_eff h2, this]
theorem eff_alike {rs : List Row} {ds es : List De} : allE (fun z => .str (eff rs ds z)) (fun z => .str (eff rs es z)) (plc rs) = alikeE rs ds es := by
  have eb : ∀ a b : Str, eqV (.str a) (.str b) = decide (a = b) := fun a b => by
    show (a == b) = decide (a = b)
    exact str_beq a b
  unfold allE alikeE
  exact List.all_congr rfl fun z => eb _ _
/-! ### within -/
theorem mem_below {rs : List Row} {p b : Str} : b ∈ belowL rs p ↔ b ∈ names rs ∧ b ≠ p ∧ (p = ("top" : Str) ∨ p ∈ wayOf rs b) := by
  unfold belowL isIn
  rw [List.mem_map]
  constructor
  · rintro ⟨r, hr, rfl⟩
    rw [List.mem_filter, Bool.and_eq_true, Bool.or_eq_true, decide_eq_true_eq, decide_eq_true_eq, decide_eq_true_eq] at hr
    exact ⟨List.mem_map.mpr ⟨r, hr.1, rfl⟩, hr.2.1, hr.2.2⟩
  · rintro ⟨hb, hn, hw⟩
    obtain ⟨r, hr, rfl⟩ := List.mem_map.mp hb
    refine ⟨r, List.mem_filter.mpr ⟨hr, ?_⟩, rfl⟩
    rw [Bool.and_eq_true, Bool.or_eq_true, decide_eq_true_eq, decide_eq_true_eq, decide_eq_true_eq]
    exact ⟨hn, hw⟩
theorem below_not {rs : List Row} {p : Str} : p ∉ belowL rs p := fun h => (mem_below.mp h).2.1 rfl
theorem below_nd {rs : List Row} (hv : Valid rs) (p : Str) : (belowL rs p).Nodup := (List.Sublist.map _ List.filter_sublist).nodup hv.nodup
theorem in_nd {rs : List Row} (hv : Valid rs) (p : Str) : (p :: belowL rs p).Nodup := List.nodup_cons.mpr ⟨below_not, below_nd hv p⟩
theorem in_plc {rs : List Row} {p : Str} (hp : p ∈ plc rs) : ∀ z ∈ p :: belowL rs p, z ∈ plc rs := fun z hz => by
  rcases List.mem_cons.mp hz with rfl | hz
  · exact hp
  · exact List.mem_cons_of_mem _ (mem_below.mp hz).1
theorem within_mem {rs : List Row} {p b : Str} : within rs p b = true ↔ b ∈ p :: belowL rs p := by
  unfold within
  rw [Bool.or_eq_true, decide_eq_true_eq, decide_eq_true_eq, List.mem_cons]
theorem within_law {rs : List Row} (hv : Valid rs) {p b : Str} (hb : b ∈ plc rs) : within rs p b = true ↔ (b = p ∨ p = ("top" : Str) ∨ (b ≠ ("top" : Str) ∧ p ∈ wayOf rs b)) := by
  rw [within_mem, List.mem_cons, mem_below]
  rcases mem_plc.mp hb with rfl | hn
  · have := top_not hv
    constructor
    · rintro (h | ⟨h, _⟩)
      · exact .inl h
      · exact absurd h this
    · rintro (h | h | ⟨h, _⟩)
      · exact .inl h
      · exact .inl h.symm
      · exact absurd rfl h
  · have nt : b ≠ ("top" : Str) := fun e => top_not hv (e ▸ hn)
    by_cases e : b = p
    · simp [e]
    · constructor
      · rintro (h | ⟨_, _, h | h⟩)
        · exact .inl h
        · exact .inr (.inl h)
        · exact .inr (.inr ⟨nt, h⟩)
      · rintro (h | h | ⟨_, h⟩)
        · exact .inl h
        · exact .inr ⟨hn, e, .inl h⟩
        · exact .inr ⟨hn, e, .inr h⟩
/-! ### dicts of words -/
def kvS (f : Str → Str) (l : List Str) : List (Key × V) := kvX (fun z => .str (f z)) l
theorem kvX_congr {f g : Str → V} {l : List Str} (h : ∀ z ∈ l, f z = g z) : kvX f l = kvX g l := List.map_congr_left fun z hz => by rw [h z hz]
theorem kvX_put {f : Str → V} {z : Str} {v : V} {l : List Str} (hz : z ∈ l) : putK (kvX f l) (.inr z) v = kvX (fun x => if x = z then v else f x) l := by
  unfold putK
  rw [if_pos (by
    rw [List.any_eq_true]
    exact ⟨_, List.mem_map.mpr ⟨z, hz, rfl⟩, decide_eq_true rfl⟩)]
  unfold kvX
  rw [List.map_map]
  refine List.map_congr_left fun x _ => ?_
  show (if (Sum.inr x : Key) = .inr z then ((.inr x : Key), v) else ((.inr x : Key), f x)) = ((.inr x : Key), if x = z then v else f x)
  by_cases e : x = z
  · rw [if_pos (by rw [e]), if_pos e]
  · rw [if_neg (fun q => e (Sum.inr.inj q)), if_neg e]
theorem kvX_more {l : List Str} (nd : l.Nodup) (f : Str → V) {i : Nat} {z : Str} (h : l[i]? = some z) : putK (kvX f (l.take i)) (.inr z) (f z) = kvX f (l.take (i + 1)) := by
  have hn : z ∉ l.take i := fun hm => by
    obtain ⟨j, hj, e⟩ := List.mem_take_iff_getElem.mp hm
    obtain ⟨hi, e2⟩ := List.getElem?_eq_some_iff.mp h
    have := (List.getElem_inj nd).mp (e.trans e2.symm)
    omega
  have hv : valV (kvX f (l.take i)) (.inr z : Key) = none := by
    generalize l.take i = m at hn
    induction m with
    | nil => rfl
    | cons x m ih =>
      show valV (((.inr x : Key), f x) :: kvX f m) _ = _
      rw [valV_neg (fun q => hn (by rw [Sum.inr.inj q]; exact List.mem_cons_self ..))]
      exact ih fun q => hn (List.mem_cons_of_mem _ q)
  rw [putK_new _ hv, take_more h]
  unfold kvX
  rw [List.map_append]
  rfl
theorem kvX_len (f : Str → V) (l : List Str) : (kvX f l).length = l.length := by unfold kvX; rw [List.length_map]
theorem kvX_at {f : Str → V} {l : List Str} {j : Nat} {k : Key} {x : V} (h : (kvX f l)[j]? = some (k, x)) : ∃ z : Str, k = .inr z ∧ l[j]? = some z := by
  unfold kvX at h
  rw [List.getElem?_map] at h
  obtain ⟨z, hz, e⟩ := Option.map_eq_some_iff.mp h
  exact ⟨z, (Prod.mk.inj e).1.symm, hz⟩
theorem plc_nd {rs : List Row} (hv : Valid rs) : (plc rs).Nodup := by
  unfold plc
  rw [List.nodup_cons]
  exact ⟨top_not hv, hv.nodup⟩
theorem plc_len' (rs : List Row) : (plc rs).length = rs.length + 1 := by unfold plc names; rw [List.length_cons, List.length_map]
end Ts

set_option maxRecDepth 100000
set_option maxHeartbeats 4000000
namespace Ts
open PySem L2
/-! ### an own error class with one field, as it stands -/
structure ErrT (K : PySem.W.Frag) (mg : Str → Option Value) (E : Addr) (nm fn : Str) : Prop where
  O : OexC K E
  X : XfC K E
  nb : PySem.W.findIn K (.ref E) fn = some none
  g : mg nm = some (.ref E)
  te : PySem.W.exmOne K (.ref E) (.ref E) = some true
theorem exm_self {K : PySem.W.Frag} {S : Addr} (h1 : PySem.W.subIn K (.ref S) (.type "BaseException") = some true) (h2 : PySem.W.isClsIn K S = true) (h3 : PySem.W.typeIn K (.ref S) = some (.type "type")) (h4 : PySem.W.subIn K (.ref S) (.ref S) = some true) :
    PySem.W.exmOne K (.ref S) (.ref S) = some true := by
  have e1 : (PySem.W.subIn K (.ref S) (.type "BaseException") == some true) = true := by rw [h1] <;> rfl
  have e2 : ((PySem.W.clsIn K S).isSome && PySem.W.typeIn K (.ref S) == some (.type "type")) = true := by
    have h2' : (PySem.W.clsIn K S).isSome = true := h2
    rw [h2', h3] <;> rfl
  show (if (PySem.W.subIn K (.ref S) (.type "BaseException") == some true) = true then (if ((PySem.W.clsIn K S).isSome && PySem.W.typeIn K (.ref S) == some (.type "type")) = true then PySem.W.subIn K (.ref S) (.ref S) else none) else none) = some true
  rw [if_pos e1, if_pos e2]
  exact h4
/-- an error of the class at S is not what «except D» names -/
theorem exm_other {K : PySem.W.Frag} {S D : Addr} (h1 : PySem.W.subIn K (.ref D) (.type "BaseException") = some true) (h2 : PySem.W.isClsIn K D = true) (h3 : PySem.W.typeIn K (.ref D) = some (.type "type")) (h4 : PySem.W.subIn K (.ref S) (.ref D) = some false) :
    PySem.W.exmOne K (.ref S) (.ref D) = some false := by
  have e1 : (PySem.W.subIn K (.ref D) (.type "BaseException") == some true) = true := by rw [h1] <;> rfl
  have e2 : ((PySem.W.clsIn K D).isSome && PySem.W.typeIn K (.ref D) == some (.type "type")) = true := by
    have h2' : (PySem.W.clsIn K D).isSome = true := h2
    rw [h2', h3] <;> rfl
  show (if (PySem.W.subIn K (.ref D) (.type "BaseException") == some true) = true then (if ((PySem.W.clsIn K D).isSome && PySem.W.typeIn K (.ref D) == some (.type "type")) = true then PySem.W.subIn K (.ref S) (.ref D) else none) else none) = some false
  rw [if_pos e1, if_pos e2]
  exact h4
theorem errAll {K : PySem.W.Frag} {h : Heap} {mg : Str → Option Value} (X : K.In h) (G : h.Ns mainGlobals mg) {E BE f : Addr} {cn fn iq : Str} {st : Stmt} {nm q : Str} {N : Addr} {bs : List Value} {sn : List Str} {sub : List Value} {ab : Bool} {col : Option Bool} {dd : Option Addr} {m0 m1 m2 m3 m5 : Option Value}
    {od an : Option Addr} {sl : Array (Option Value)} {oc kV dc pm cd ct : Value}
    (aC : PySem.W.nsIn K mainGlobals cn = some (some (.ref E)))
    (xL : K.lookup E = some (excClassObj nm q E N bs [.ref BE, .type "ValueError", .type "Exception", .type "BaseException", .type "object"] true sn sub ab col dd m0 m1 m2 m3 m5 "ValueError.__new__"))
    (sa : PySem.W.findIn K (.ref E) "__setattr__" = some (some (.builtin "object.__setattr__"))) (ga : PySem.W.findIn K (.ref E) "__getattribute__" = some (some (.builtin "BaseException.__getattribute__"))) (gg : PySem.W.findIn K (.ref E) "__getattr__" = some none) (nb : PySem.W.findIn K (.ref E) fn = some none)
    (a1 : PySem.W.findIn K (.ref E) "__init__" = some (some (.ref f))) (t1 : PySem.W.typeIn K (.ref f) = some (.type "function"))
    (l1 : K.lookup f = some ⟨oc, od, .func (PySem.W.fnOf "__init__" iq (defArgs st) (defBody st) (defScope st) .none kV dc pm an cd ct), sl⟩) (c1 : PySem.W.codeIn K cd iq = true) (k1 : PySem.W.keepIn K (.ref f) = true)
    (kC : PySem.W.keepIn K (.ref E) = true) (eC : PySem.W.subIn K (.ref E) (.type "BaseException") = some true) (tC : PySem.W.typeIn K (.ref E) = some (.type "type")) (hC : PySem.W.hasDictIn K E = true) (iC : PySem.W.isClsIn K E = true) (sC : PySem.W.subIn K (.ref E) (.ref E) = some true) :
    ErrT K mg E cn fn ∧ ∃ (f : Addr) (fd : FuncData), PySem.W.findIn K (.ref E) "__init__" = some (some (.ref f)) ∧ PySem.W.typeIn K (.ref f) = some (.type "function") ∧ Fun K "__init__" iq st f fd :=
  ⟨⟨⟨⟨nm, q, N, bs, _, sn, sub, ab, col, dd, m0, m1, m2, m3, m5, xL, rfl⟩, sa, eC, tC, kC⟩, ⟨ga, gg, eC, hC⟩, nb, PySem.W.mg_of X G aC, exm_self eC iC tC sC⟩, f, _, a1, t1, fun_mk l1 c1 k1⟩
end Ts

set_option maxRecDepth 100000
set_option maxHeartbeats 4000000
namespace Ts
open PySem L2
/-! ### an own error with one field that its own __init__ stores -/
def spErr1 (CC : Addr) (fn : Str) : Sp := fun vs H Q _ => ∃ (a : Addr) (x : V), vs = [.ref a, x] ∧ H a = some (exo a CC none) ∧ ∀ d, H d = none → d ≠ a → Q .non (upd (upd H d (exd d [(fn, x)])) a (exo a CC (some d)))
section
variable {CC : Addr}
/-- what stands behind a raise: the error's own dict, new -/
theorem rd_err1 {fn : Str} {H1 : Hp} {x : V} {Q : XK} (k : ∀ d, H1 d = none → Q (.ref CC) (some d) (upd H1 d (.xd [(fn, x)]))) : ([x] : List V).length ≤ 1000 ∧ ∀ a, H1 a = none → spErr1 CC fn (.ref a :: ([x] ++ [])) (upd H1 a (exo a CC none)) (fun v H2 => v = .non ∧ ∃ (d : Addr) (fs : List (Str × V)), H2 a = some (exo a CC (some d)) ∧ H2 d = some (exd d fs) ∧ H1 d = none ∧ Q (.ref CC) (some d) (upd (del H2 a) d (.xd fs))) (fun _ _ _ => False) := by
  refine ⟨(by show 1 ≤ 1000; decide), fun a ha => ⟨a, x, rfl, upd_same, fun d hd ne => ⟨rfl, d, [(fn, x)], upd_same, by rw [upd_ne ne]; exact upd_same, by rw [upd_ne ne] at hd; exact hd, ?_⟩⟩⟩
  have hd1 : H1 d = none := by rw [upd_ne ne] at hd; exact hd
  have e : upd (del (upd (upd (upd H1 a (exo a CC none)) d (exd d [(fn, x)])) a (exo a CC (some d))) a) d (.xd [(fn, x)]) = upd H1 d (.xd [(fn, x)]) := by
    funext b
    by_cases q : b = d
    · rw [q, upd_same, upd_same]
    · rw [upd_ne q, upd_ne q]
      unfold del
      by_cases r : b = a
      · rw [if_pos r, r]; exact ha.symm
      · rw [if_neg r, upd_ne r, upd_ne q, upd_ne r]
  rw [e]
  exact k d hd1
end
section
variable {P : Program} {w : World} {K : PySem.W.Frag} {mg : Str → Option Value} {base : Heap}
/-- where nothing is raised, a def that may raise is as one that may not -/
theorem calm {k : Nat} {f : Addr} {fd : FuncData} {ps : List Str} {sp sp' : Sp} (F : FnOk P w K mg base (L2.CX P w) k f fd ps sp) (h : ∀ vs H Q E, sp' vs H Q E → sp vs H Q E0) : FnOk P w K mg base CX0 k f fd ps sp' :=
  ⟨fun vs H Q E q => F.len vs H Q E0 (h _ _ _ _ q), fun A outer s H args us vs Q E hr he hb hv hs => codeAny_mono (F.run A outer s H args us vs Q E0 hr he hb hv (h _ _ _ _ hs)) fun r s' q => by
    cases r with
    | ok f => cases f <;> exact q
    | error e =>
      obtain ⟨_, _, _, _, _, _, _, _, _, _, _, _, z⟩ := q
      exact z.elim⟩
end
end Ts

set_option maxRecDepth 100000
set_option maxHeartbeats 4000000
namespace Ts
open PySem L2
section
variable {P : Program} {w : World} {K : PySem.W.Frag} {mg : Str → Option Value} {base : Heap} {CC : Addr}
theorem sc_Locked_init : FnScope ["self", "box"] ["self", "box"] (defScope s_Locked_init) := ⟨rfl, rfl, rfl, by decide +kernel, rfl, by decide +kernel, by decide +kernel⟩
theorem ok_Locked_init {f : Addr} {fd : FuncData} (F : Fun K "__init__" "Locked.__init__" s_Locked_init f fd) (O : OexC K CC) (nb : PySem.W.findIn K (.ref CC) "box" = some none) : FnOk P w K mg base CX0 2 f fd ["self", "box"] (spErr1 CC "box") := by
  refine F.ok sc_Locked_init (fun vs H Q E h => ?_) (fun cdv A outer s H vs Q E hr h => ?_)
  · obtain ⟨a, x, rfl, _⟩ := h
    rfl
  · obtain ⟨a, x, rfl, ha, hq⟩ := h
    refine ⟨_, pss_one (ps_ost (pv 0) (pv 1)), ?_⟩
    exact ⟨_, rfl, _, rfl, a, CC, rfl, O, nb, .inl ⟨ha, fun d hd ne => hq d hd ne⟩⟩
end
end Ts

set_option maxRecDepth 100000
set_option maxHeartbeats 4000000
namespace Ts
open PySem L2
/-! ### turns that may be locked -/
def lockedB (rs : List Row) (z : Str) : Bool := match rowOf rs z with
  | some r => decide (r.pr = none)
  | none => false
def firstLk (rs : List Row) (xs : List Str) : Option Str := xs.find? (lockedB rs)
theorem lk_free {rs : List Row} {z : Str} (hz : z ∈ names rs) (h : lockedB rs z = false) : Free rs z := by
  obtain ⟨r, e, _, _⟩ := rowOf_some hz
  unfold lockedB at h
  rw [e] at h
  exact ⟨r, e, of_decide_eq_false h⟩
theorem free_lk {rs : List Row} {z : Str} (h : Free rs z) : lockedB rs z = false := by
  obtain ⟨r, e, hp⟩ := h
  unfold lockedB
  rw [e]
  exact decide_eq_false hp
theorem first_free {rs : List Row} {xs : List Str} (h : ∀ x ∈ xs, Free rs x) : firstLk rs xs = none := List.find?_eq_none.mpr fun x hx => by rw [free_lk (h x hx)]; exact Bool.false_ne_true
def spCheckTurnsX (K : PySem.W.Frag) (C CL : Addr) : Sp := fun vs H Q E => ∃ (t u : Addr) (xs : List Str) (rs : List Row), vs = [.ref t, .ref u] ∧ TreeAt C H t rs ∧ SqX K H u (xs.map V.str) ∧ (∀ x ∈ xs, x ∈ names rs) ∧
  (∀ z, firstLk rs xs = some z → ∀ d H', H d = none → Same H H' → H' d = some (.xd [("box", .str z)]) → E (.ref CL) (some d) H') ∧ (firstLk rs xs = none → Q .non H)
def spMeaningInitX (K : PySem.W.Frag) (C CM CL : Addr) : Sp := fun vs H Q E => ∃ (m dx t h : Addr) (d : Bool) (xs : List Str) (rs : List Row), vs = [.ref m, .ref t, .bl d, .ref h] ∧ H m = some (.ins CM dx []) ∧ TreeAt C H t rs ∧ SqX K H h (xs.map V.str) ∧ (∀ x ∈ xs, x ∈ names rs) ∧
  (∀ z, firstLk rs xs = some z → ∀ d H', H d = none → Same H H' → H' d = some (.xd [("box", .str z)]) → E (.ref CL) (some d) H') ∧ (firstLk rs xs = none → ∀ H', SB m H H' → MeanAt C CM H' m t rs d (turnsL rs xs) → Q .non H')
section
variable {P : Program} {w : World} {K : PySem.W.Frag} {mg : Str → Option Value} {base : Heap} {C CM CL : Addr}
theorem ok_check_turnsX {fI : Addr} {fdI : FuncData} (D : DefAt K mg "check_turns" s_check_turns ["tree", "turns"]) (Db : DefAt K mg "check_box" s_check_box ["tree", "thing"]) (Gb : FnOk P w K mg base CX0 3 Db.f Db.fd ["tree", "thing"] (spBox C)) (T : TxT K mg C)
    (mP : MethAt K C "price" "Tree.price" s_Tree_price ["self", "box"]) (GP : FnOk P w K mg base CX0 4 mP.f mP.fd ["self", "box"] (spGet C fun r => prV r.pr))
    (TL : ErrT K mg CL "Locked" "box") (iC : PySem.W.findIn K (.ref CL) "__init__" = some (some (.ref fI))) (tI : PySem.W.typeIn K (.ref fI) = some (.type "function")) (GI : FnOk P w K mg base CX0 2 fI fdI ["self", "box"] (spErr1 CL "box")) (bI : Binds K fdI ["self", "box"] []) :
    FnOk P w K mg base (L2.CX P w) 5 D.f D.fd ["tree", "turns"] (spCheckTurnsX K C CL) := by
  refine D.F.okX sc_check_turns (fun vs H Q E h => ?_) (fun cdv A outer s H vs Q E hr h => ?_)
  · obtain ⟨t, u, xs, rs, rfl, _⟩ := h
    rfl
  · have hr2 : Room 3 _ := hr.mono (by decide)
    refine ⟨_, pss_cons (ps_for PassesOwn.leaving rfl (pi_seqX (i := 1) (pv 1)) (pg_name (i := 2) sc_check_turns.nd rfl (.inl rfl))
        (pss_one (ps_expr (pe_call Gb hr2 rfl Db.g Db.F.kp Db.b .nil pass0 (pa_cons (pv 0) (pa_cons (pv 2) pa_nil))))))
      (pss_one (ps_for PassesOwn.leaving rfl (pi_seqX (i := 1) (pv 1)) (pg_name (i := 2) sc_check_turns.nd rfl (.inl rfl))
        (pss_one (ps_if (pt_cmpR op_isN (pe_meth (pv 0) T.cl mP.m GP hr mP.b .nil pass0 (pa_cons (pv 2) pa_nil)) pe_non (nomark _)) (pss_one (ps_raise rfl (takes_of rfl rfl rfl rfl) (pmk_oex TL.O iC tI GI hr2 bI .nil pass0 rfl TL.g (by exact pa_cons (pv 2) pa_nil)))) pss_nil)))), ?_⟩
    obtain ⟨t, u, xs, rs, rfl, ht, hx, hmem, hE, hq⟩ := h
    obtain ⟨dx, q, f, k, p, qs, h1, h2, h3, h4, h5, h6⟩ := id ht.ex
    have noP : (tf q f k p).lookup ("price" : Str) = none := tf_no _ _ _ _ (by decide +kernel) (by decide +kernel) (by decide +kernel) (by decide +kernel)
    have at_ : ∀ {i : Nat} {x : V}, (xs.map V.str)[i]? = some x → ∃ z, x = .str z ∧ xs[i]? = some z ∧ z ∈ names rs := fun {i x} hx => by
      rw [List.getElem?_map] at hx
      obtain ⟨z, hz, rfl⟩ := Option.map_eq_some_iff.mp hx
      exact ⟨z, rfl, hz, hmem z (List.mem_of_getElem? hz)⟩
    refine ⟨u, _, rfl, hx, fun J W => ?_⟩
    refine for_it W (fun i σ H' => ∃ v : Option V, σ = [some (.ref t), some (.ref u), v] ∧ H' = H) ⟨none, rfl, rfl⟩ (fun i σ H' _ ⟨_, _, e⟩ => by rw [e]) ?_ ?_
    · rintro i x σ H2 H3 hi ⟨v, rfl, rfl⟩ ⟨rfl, hxi⟩
      obtain ⟨z, rfl, _, hz⟩ := at_ hxi
      exact ⟨_, rfl, _, rfl, t, z, rs, rfl, ht, hz, _, rfl, rfl⟩
    rintro σ H2 ⟨v, rfl, rfl⟩
    refine ⟨u, _, rfl, hx, fun J W => ?_⟩
    refine for_it W (fun i σ H' => ∃ v : Option V, σ = [some (.ref t), some (.ref u), v] ∧ H' = H2 ∧ ∀ x ∈ xs.take i, lockedB rs x = false) ⟨v, rfl, rfl, fun x hx => by simp at hx⟩ (fun i σ H' _ ⟨_, _, e, _⟩ => by rw [e]) ?_ ?_
    · rintro i x σ H3 H4 hi ⟨v, rfl, rfl, hall⟩ ⟨rfl, hxi⟩
      obtain ⟨z, rfl, hzi, hz⟩ := at_ hxi
      obtain ⟨r, hr', _, _⟩ := rowOf_some hz
      refine ⟨_, rfl, t, dx, _, rfl, h1, noP, _, rfl, t, z, rs, r, rfl, ht, hr', ?_⟩
      have e2 : decide ((fun r : Row => prV r.pr) r = V.non) = lockedB rs z := by
        unfold lockedB
        rw [hr']
        show decide (prV r.pr = V.non) = decide (r.pr = none)
        cases r.pr <;> rfl
      refine ⟨rfl, _, rfl, ?_⟩
      rw [e2]
      refine ite2 (fun hc => ?_) (fun hc => ?_)
      · have ef : firstLk rs xs = some z := find_at hall hzi hc
        exact ⟨_, rfl, rd_err1 fun d hd => hE z ef d _ hd (Same.new hd) upd_same⟩
      · refine ⟨_, rfl, rfl, fun y hy => ?_⟩
        rw [take_more hzi] at hy
        rcases List.mem_append.mp hy with hy | hy
        · exact hall y hy
        · rw [List.mem_singleton.mp hy]
          simpa using hc
    · rintro σ H3 ⟨v, rfl, rfl, hall⟩
      refine hq (List.find?_eq_none.mpr fun y hy => ?_)
      rw [List.length_map, List.take_length] at hall
      rw [hall y hy]
      exact Bool.false_ne_true
theorem ok_M_initX {f : Addr} {fd : FuncData} {dvs : List V} (F : FunD K "__init__" "Meaning.__init__" (defArgs s_Meaning_init) (defBody s_Meaning_init) (defScope s_Meaning_init) dvs [] f fd) (B : TxB mg) (TC : TxC K mg) (T : TxT K mg C) (M : TxM K mg CM)
    (Dc : DefAt K mg "check_turns" s_check_turns ["tree", "turns"]) (Gc : FnOk P w K mg base (L2.CX P w) 5 Dc.f Dc.fd ["tree", "turns"] (spCheckTurnsX K C CL))
    (Dv : DefAt K mg "values_of" s_values_of ["tree", "default", "turns"]) (Gv : FnOk P w K mg base CX0 6 Dv.f Dv.fd ["tree", "default", "turns"] (spValues C))
    (mB : MethAt K C "below" "Tree.below" s_Tree_below ["self", "box"]) (GB : FnOk P w K mg base CX0 5 mB.f mB.fd ["self", "box"] (spListOf C belowL)) :
    FnOk P w K mg base (L2.CX P w) 7 f fd ["self", "tree", "default", "turns"] (spMeaningInitX K C CM CL) := by
  obtain ⟨t1, gT⟩ := TC.top
  refine F.ok sc_M_init (fun vs H Q E h => ?_) (fun cdv A outer s H vs Q E hr h => ?_)
  · obtain ⟨m, dx, t, h, d, xs, rs, rfl, _⟩ := h
    rfl
  · have hr4 : Room 5 _ := hr.mono (by decide)
    refine ⟨_, pss_cons (ps_if (pt_not (pt_val (pe_callB call_isi (by rfl) B.isinstance (by decide +kernel) (pa_cons (pv 2) (pa_cons (pe_bltn (by rfl) B.bool (by decide +kernel) (v := .ty "bool") rfl) pa_nil))))) (pss_one ps_never) pss_nil)
      (pss_cons (ps_expr (pe_call Gc hr4 rfl Dc.g Dc.F.kp Dc.b .nil (passes_call (takes_of rfl rfl rfl rfl) (fun _ _ _ _ h => h)) (pa_cons (pv 1) (pa_cons (pv 3) pa_nil))))
      (pss_cons (ps_fld (pv 0) (pv 1) rfl)
      (pss_cons (ps_fld (pv 0) (pv 2) rfl)
      (pss_cons (ps_fld (pv 0) (pe_callTy call_tuple_of (by rfl) B.tuple (by decide +kernel) (pa_cons (pe_lc (own := [("box", 4)]) (g := gName 4) (tt := tTest (tOp (rIn K false) (tVar 4) (tVar 3))) (te := tVar 4) rfl sc_M_init.nd (pi_list (pe_meth (pv 1) T.cl mB.m GB hr4 mB.b .nil pass0 (pa_cons (pe_glob (by rfl) gT (v := .str ("top" : Str)) ⟨_, rfl⟩) pa_nil))) (blkOk_by (N := nMInit) (sc := defScope s_Meaning_init) (by decide +kernel))
          (fun _ _ _ _ _ => pg_name (i := 4) sc_M_init.nd rfl (Or.inl rfl)) (fun _ _ _ _ _ => by exact pts_one (pt_cmpR op_in_seq (pv 4) (pv 3) (by rfl))) (fun _ _ _ _ _ => pv 4)) pa_nil)) rfl)
      (pss_one (ps_fld (pv 0) (pe_call Gv hr rfl Dv.g Dv.F.kp Dv.b .nil pass0 (pa_cons (pv 1) (pa_cons (pv 2) (pa_cons (pe_fld (pv 0) rfl) pa_nil)))) rfl)))))), ?_⟩
    obtain ⟨m, dx, t, h, d, xs, rs, rfl, hm, ht, hx, hmem, hE, hq⟩ := h
    have hv := ht.val
    have l100 := ht.len
    obtain ⟨tx, q, f, k, p, qs, h1, _⟩ := id ht.ex
    have noB : (tf q f k p).lookup ("below" : Str) = none := tf_no _ _ _ _ (by decide +kernel) (by decide +kernel) (by decide +kernel) (by decide +kernel)
    refine ⟨_, rfl, _, _, _, _, true, rfl, .ty "bool", .base (.bl d), kit_ty (by decide +kernel), _, rfl, iteF ?_⟩
    refine ⟨_, rfl, _, rfl, t, h, xs, rs, rfl, ht, hx, hmem, hE, fun hn => ?_⟩
    refine ⟨_, rfl, _, rfl, m, CM, dx, _, rfl, hm, M.cl, M.nt, (by show 0 < 1000; decide), ?_⟩
    refine ⟨_, rfl, _, rfl, m, CM, dx, _, rfl, upd_same, M.cl, M.nd, (Nat.lt_of_le_of_lt (putF_len _ _ _) (by decide)), ?_⟩
    obtain ⟨Hb, Eb⟩ : ∃ Hx, Hx = upd (upd H m (.ins CM dx (putF "tree" (.ref t) []))) m (.ins CM dx (putF "default" (.bl d) (putF "tree" (.ref t) []))) := ⟨_, rfl⟩
    have bm : Hb m = some (.ins CM dx (putF "default" (.bl d) (putF "tree" (.ref t) []))) := by rw [Eb]; exact upd_same
    have sb : SB m H Hb := fun b o nb e => by rw [Eb, upd_ne nb, upd_ne nb]; exact e
    rw [← Eb]
    clear Eb
    have tb := ht.sbm hm sb
    have hxb : SqX K Hb h (xs.map V.str) := hx.sbm hm sb
    have htm : Hb t = some (.ins C tx (tf q f k p)) := by
      refine sb _ _ (fun e => ?_) h1
      rw [e, hm] at h1
      have e3 := Option.some.inj h1
      injection e3 with _ _ e3
      have e4 := tf_p q f k p
      rw [← e3] at e4
      cases e4
    refine ⟨_, rfl, t, tx, _, rfl, htm, noB, t, ("top" : Str), rs, rfl, tb, .inl rfl, fun bl H2 hbl s2 e2 => ?_⟩
    rw [below_top hv] at e2
    refine ⟨bl, rfl, ⟨_, SqL.of e2⟩, fun D hD => ?_⟩
    have hx2 := hxb.same s2
    refine lc_list (K := K) (a := bl) (xs := (names rs).map V.str) (fun i H' => Same H2 H' ∧ H' D = some (.lst (((names (rs.take i)).filter (fun z => decide (z ∈ xs))).map V.str))) ⟨Same.new hD, upd_same⟩ (fun i H' _ m => m.1.seq (SqL.of e2)) ?_ ?_
    · rintro i x H3 hxi ⟨s3, hD3⟩
      unfold names at hxi
      rw [List.getElem?_map, List.getElem?_map] at hxi
      obtain ⟨n1, hn1, rfl⟩ := Option.map_eq_some_iff.mp hxi
      obtain ⟨r, hr', rfl⟩ := Option.map_eq_some_iff.mp hn1
      have sz : (((names (rs.take i)).filter (fun z => decide (z ∈ xs))).map V.str).length < sizeLine := small1000 (by
        rw [List.length_map]
        have h1 := List.length_filter_le (fun z => decide (z ∈ xs)) (names (rs.take i))
        unfold names at h1 ⊢
        rw [List.length_map, List.length_take] at h1
        omega)
      refine ⟨rfl, _, rfl, _, rfl, h, _, rfl, (hx2.same s3), rfl, flat_strs _, _, rfl, ?_⟩
      have e : (if false = true then !inV (.str r.nm) (xs.map V.str) else inV (.str r.nm) (xs.map V.str)) = decide (r.nm ∈ xs) := by
        rw [if_neg Bool.false_ne_true, inV_strs]
      rw [e]
      refine ite2 (fun hc => ?_) (fun hc => ?_)
      · refine ⟨_, rfl, _, hD3, sz, fun b o eb => ?_, ?_⟩
        · rw [upd_ne (fun y => by rw [y, hD] at eb; cases eb)]
          exact s3 _ _ eb
        · rw [upd_same, turns_more hr', if_pos hc, List.map_append]; rfl
      · refine ⟨s3, ?_⟩
        rw [turns_more hr', if_neg hc, List.append_nil]
        exact hD3
    rintro H3 ⟨s3, hD3⟩
    rw [show ((names rs).map V.str).length = rs.length from by unfold names; rw [List.length_map, List.length_map], List.take_length] at hD3
    refine ⟨D, _, rfl, .inl ⟨SqL.of hD3, fun u hu => ?_⟩⟩
    have s4 := (s2.trans s3).trans (Same.new (o := .tup ((turnsL rs xs).map V.str)) hu)
    have e4 : (upd H3 u (.tup ((turnsL rs xs).map V.str))) u = some (.tup ((turnsL rs xs).map V.str)) := upd_same
    have e4' : (upd H3 u (.tup (((names rs).filter (fun z => decide (z ∈ xs))).map V.str))) = upd H3 u (.tup ((turnsL rs xs).map V.str)) := rfl
    rw [e4']
    have num : u ≠ m := fun e => by rw [e, (s2.trans s3) _ _ bm] at hu; cases hu
    generalize upd H3 u (.tup ((turnsL rs xs).map V.str)) = H4 at s4 e4
    refine ⟨_, rfl, m, CM, dx, _, rfl, s4 _ _ bm, M.cl, M.nu, (Nat.lt_of_le_of_lt (Nat.le_trans (putF_len _ _ _) (Nat.succ_le_succ (putF_len _ _ _))) (by decide)), ?_⟩
    obtain ⟨H5, E5⟩ : ∃ Hx, Hx = upd H4 m (.ins CM dx (putF "turns" (.ref u) (putF "default" (.bl d) (putF "tree" (.ref t) [])))) := ⟨_, rfl⟩
    have m5 : H5 m = some (.ins CM dx (putF "turns" (.ref u) (putF "default" (.bl d) (putF "tree" (.ref t) [])))) := by rw [E5]; exact upd_same
    have sb5 : SB m H H5 := fun b o nb e => by rw [E5, upd_ne nb]; exact s4 _ _ (sb b o nb e)
    have u5 : H5 u = some (.tup ((turnsL rs xs).map V.str)) := by rw [E5, upd_ne num]; exact e4
    rw [← E5]
    clear E5
    refine ⟨_, rfl, _, rfl, _, rfl, m, CM, dx, _, _, rfl, m5, M.cl, M.nu, (by rw [lookup_putF, if_pos rfl]), t, u, d, turnsL rs xs, rs, rfl, ht.sbm hm sb5, u5, fun kd H6 hkd s6 e6 => ?_⟩
    refine ⟨_, rfl, m, CM, dx, _, rfl, s6 _ _ m5, M.cl, M.nk, (Nat.lt_of_le_of_lt (Nat.le_trans (putF_len _ _ _) (Nat.succ_le_succ (Nat.le_trans (putF_len _ _ _) (Nat.succ_le_succ (putF_len _ _ _))))) (by decide)), ?_⟩
    have sb7 : SB m H (upd H6 m (.ins CM dx (mf t u kd d))) := fun b o nb e => by rw [upd_ne nb]; exact s6 _ _ (sb5 b o nb e)
    have nkm : kd ≠ m := fun e => by rw [e, m5] at hkd; cases hkd
    exact hq hn _ sb7 ⟨⟨dx, u, kd, upd_same, by rw [upd_ne num]; exact s6 _ _ u5, by rw [upd_ne nkm]; exact e6⟩, ht.sbm hm sb7, turnsL_norm rs xs⟩
theorem calm_init {f : Addr} {fd : FuncData} {k : Nat} {ps : List Str} (G : FnOk P w K mg base (L2.CX P w) k f fd ps (spMeaningInitX K C CM CL)) : FnOk P w K mg base CX0 k f fd ps (spMeaningInit K C CM) := calm G fun vs H Q E h => by
  obtain ⟨m, dx, t, h', d, xs, rs, rfl, hm, ht, hx, hf, hq⟩ := h
  exact ⟨m, dx, t, h', d, xs, rs, rfl, hm, ht, hx, fun x hx => (hf x hx).mem, (fun z ez => by rw [first_free hf] at ez; cases ez), fun _ => hq⟩
end
end Ts

set_option maxRecDepth 100000
set_option maxHeartbeats 4000000
namespace Ts
open PySem L2
theorem in_below {rs : List Row} (h : Valid rs) {z : Str} {r : Row} (hr : r ∈ rs) : decide (r.nm ∈ belowL rs z) = isIn rs z r := by
  by_cases i : isIn rs z r = true
  · rw [i]
    exact decide_eq_true (List.mem_map.mpr ⟨r, List.mem_filter.mpr ⟨hr, i⟩, rfl⟩)
  · rw [Bool.not_eq_true] at i
    rw [i]
    refine decide_eq_false fun hm => ?_
    obtain ⟨q, hq, e⟩ := List.mem_map.mp hm
    obtain ⟨q1, q2⟩ := List.mem_filter.mp hq
    rw [names_inj h q1 hr e, i] at q2
    cases q2
theorem filter_two (p : Row → Bool) : ∀ l : List Row, (l.filter p).length + (l.filter fun r => !p r).length = l.length
  | [] => rfl
  | r :: l => by
    have ih := filter_two p l
    by_cases e : p r = true
    · rw [List.filter_cons_of_pos e, List.filter_cons_of_neg (by simp [e]), List.length_cons, List.length_cons]; omega
    · rw [List.filter_cons_of_neg e, List.filter_cons_of_pos (by simp [e]), List.length_cons, List.length_cons]; omega
section
variable {P : Program} {w : World} {K : PySem.W.Frag} {mg : Str → Option Value} {base : Heap} {C : Addr}
abbrev nMoved : List Str := ["self", "box", "folder", "below", "ahead", "behind", "row"]
theorem sc_Tree_moved : FnScope nMoved ["self", "box", "folder"] (defScope s_Tree_moved) := ⟨rfl, rfl, rfl, by decide +kernel, rfl, by decide +kernel, by decide +kernel⟩
theorem ok_Tree_moved {f fT : Addr} {fd fdT : FuncData} (F : Fun K "moved" "Tree.moved" s_Tree_moved f fd) (Db : DefAt K mg "check_box" s_check_box ["tree", "thing"]) (Gb : FnOk P w K mg base CX0 3 Db.f Db.fd ["tree", "thing"] (spBox C))
    (Dp : DefAt K mg "check_place" s_check_place ["tree", "thing"]) (Gp : FnOk P w K mg base CX0 4 Dp.f Dp.fd ["tree", "thing"] (spPlace C)) (TC : TxC K mg) (T : TxT K mg C)
    (mB : MethAt K C "below" "Tree.below" s_Tree_below ["self", "box"]) (GB : FnOk P w K mg base CX0 5 mB.f mB.fd ["self", "box"] (spListOf C belowL))
    (MT : Mk K C fT) (bT : Binds K fdT ["self", "rows"] []) (GT : FnOk P w K mg base CX0 5 fT fdT ["self", "rows"] (spTreeInit C)) : FnOk P w K mg base CX0 7 f fd ["self", "box", "folder"] (spMoved C) := by
  obtain ⟨t1, gT⟩ := TC.top
  obtain ⟨t2, gF⟩ := TC.folder
  refine F.ok sc_Tree_moved (fun vs H Q E h => ?_) (fun cdv A outer s H vs Q E hr h => ?_)
  · obtain ⟨t, m, fo, rs, rfl, _⟩ := h
    rfl
  · obtain ⟨t, m, fo, rs, rfl, ht, hm, hfo, hq⟩ := h
    have hu := hu_of hr
    have hv := ht.val
    have l100 := ht.len
    have hz : m.nm ∈ names rs := List.mem_map.mpr ⟨m, hm, rfl⟩
    have zt : m.nm ≠ ("top" : Str) := fun e => top_not hv (e ▸ hz)
    obtain ⟨dx, q, f, k, p, qs, h1, h2, h3, h4, h5, h6⟩ := ht.ex
    refine ⟨_, pss_cons (ps_expr (pe_call Gb (hr.mono (by decide)) rfl Db.g Db.F.kp Db.b .nil pass0 (pa_cons (pv 0) (pa_cons (pv 1) pa_nil))))
      (pss_cons (ps_expr (pe_call Gp (hr.mono (by decide)) rfl Dp.g Dp.F.kp Dp.b .nil pass0 (pa_cons (pv 0) (pa_cons (pv 2) pa_nil))))
      (pss_cons (ps_set (i := 3) sc_Tree_moved.nd rfl (.inr rfl) (pe_meth (pv 0) T.cl mB.m GB (hr.mono (by decide)) mB.b .nil pass0 (pa_cons (pv 1) pa_nil)))
      (C8.pss_cut (ps_if (PW.pt (pw_and (pt_cmpR op_ne (pv 2) (pe_glob (by rfl) gT (v := .str ("top" : Str)) ⟨_, rfl⟩) (nomark _)) (pw_and1 (PW.pt (pw_or (pt_cmpR op_ne (pe_dget hu (pe_fld (pv 0) rfl) (pv 2) (fun _ _ => rfl)) (pe_glob (by rfl) gF (v := .str ("folder" : Str)) ⟨_, rfl⟩) (nomark _)) (pw_or (pt_cmpR op_eq (pv 2) (pv 1) (nomark _)) (pw_or1 (pt_cmpR op_in_seq (pv 2) (pv 3) (by rfl))))))))) (pss_one ps_never) pss_nil)
      (pss_cons (ps_setLc (i := 4) (own := [("row", 6)]) (g := gName 6) (tt := tAnd (tTest (tOp rNe (tOp (rIxT K) (tVar 6) (tC (.int 0))) (tVar 1))) (tTest (tOp (rIn K true) (tOp (rIxT K) (tVar 6) (tC (.int 0))) (tVar 3)))) (te := tVar 6) rfl sc_Tree_moved.nd rfl rfl (sw_true rfl rfl rfl (by decide +kernel)) (pi_tup (pe_fld (pv 0) rfl)) (blkOk_by (N := nMoved) (sc := defScope s_Tree_moved) (by decide +kernel))
        (fun _ _ _ _ _ => pg_name (i := 6) sc_Tree_moved.nd rfl (Or.inl rfl)) (fun _ _ _ _ _ => by exact pts_one (PW.pt (pw_and (pt_cmpR op_ne (pe_ix ix_tup (pv 6) pe_int (fun _ _ => rfl)) (pv 1) (nomark _)) (pw_and1 (pt_cmpR op_notIn_seq (pe_ix ix_tup (pv 6) pe_int (fun _ _ => rfl)) (pv 3) (by rfl)))))) (fun _ _ _ _ _ => pv 6))
      (pss_cons (ps_setLc (i := 5) (own := [("row", 6)]) (g := gName 6) (tt := tTest (tOp (rIn K false) (tOp (rIxT K) (tVar 6) (tC (.int 0))) (tVar 3))) (te := tVar 6) rfl sc_Tree_moved.nd rfl rfl (sw_true rfl rfl rfl (by decide +kernel)) (pi_tup (pe_fld (pv 0) rfl)) (blkOk_by (N := nMoved) (sc := defScope s_Tree_moved) (by decide +kernel))
        (fun _ _ _ _ _ => pg_name (i := 6) sc_Tree_moved.nd rfl (Or.inl rfl)) (fun _ _ _ _ _ => by exact pts_one (pt_cmpR op_in_seq (pe_ix ix_tup (pv 6) pe_int (fun _ _ => rfl)) (pv 3) (by rfl))) (fun _ _ _ _ _ => pv 6))
      (pss_one (ps_ret (pe_make MT GT hr rfl T.g bT .nil pass0 (pa_cons (pe_op op_cat (pe_op op_cat (pv 4) (pe_lst (pa_cons (pe_tup (pa_cons (pv 1) (pa_cons (pv 2) (pa_cons (pe_dget hu (pe_fld (pv 0) rfl) (pv 1) (fun _ _ => rfl)) (pa_cons (pe_dget hu (pe_fld (pv 0) rfl) (pv 1) (fun _ _ => rfl)) pa_nil))))) pa_nil))) (pv 5)) pa_nil))))))))), ?_⟩
    have noB : (tf q f k p).lookup ("below" : Str) = none := tf_no _ _ _ _ (by decide +kernel) (by decide +kernel) (by decide +kernel) (by decide +kernel)
    have hfo' : fo = ("top" : Str) ∨ fo ∈ names rs := hfo.imp id fun ⟨q, hq, e, _⟩ => List.mem_map.mpr ⟨q, hq, e⟩
    refine ⟨_, rfl, _, rfl, t, m.nm, rs, rfl, ht, hz, ?_⟩
    refine ⟨_, rfl, _, rfl, t, fo, rs, rfl, ht, hfo', ?_⟩
    refine ⟨_, rfl, t, dx, _, rfl, h1, noB, _, rfl, t, m.nm, rs, rfl, ht, .inr hz, fun bl H1 hbl s1 e1 => ?_⟩
    have lbe := List.length_filter_le (isIn rs m.nm) rs
    refine ⟨fun σ' H' => σ' = [some (.ref t), some (.str m.nm), some (.str fo), some (.ref bl), none, none, none] ∧ H' = H1, ?_, ?_⟩
    · refine ⟨_, rfl, rfl, _, rfl, ?_⟩
      refine ite2 (fun hc => ?_) (fun hc => iteF ⟨rfl, rfl⟩)
      have hn : fo ≠ ("top" : Str) := fun e => by rw [e] at hc; simp at hc
      obtain ⟨q', hq', eq', kq', uq'⟩ := hfo.resolve_left hn
      obtain ⟨j, hj, ej⟩ := List.mem_iff_getElem.mp hq'
      have ro := rowOf_at hv (i := j) (r := q') (by rw [← ej]; exact List.getElem?_eq_getElem hj)
      have dg := DGet.k (k := Sum.inr fo) (s1 _ _ h5)
      rw [valV_kvF, show (rs.find? fun q => decide (q.nm = fo)) = some q' from by rw [← eq']; exact ro] at dg
      refine ⟨_, rfl, t, C, dx, _, _, rfl, s1 _ _ h1, T.cl, T.nk, tf_k _ _ _ _, _, rfl, k, _, rfl, dg, rfl, _, rfl, ?_⟩
      rw [decide_eq_true (congrArg V.str kq')]
      refine iteF ?_
      refine ⟨_, rfl, _, rfl, rfl, _, rfl, ?_⟩
      have ne1 : fo ≠ m.nm := fun e => by
        rw [under_self hv hq' (eq'.trans e)] at uq'
        cases uq'
      rw [decide_eq_false (fun e => ne1 (V.str.inj e))]
      refine iteF ?_
      refine ⟨_, rfl, _, rfl, bl, _, rfl, .inl (SqL.of e1), rfl, flat_strs _, _, rfl, ?_⟩
      have e : (if false = true then !inV (.str fo) ((belowL rs m.nm).map V.str) else inV (.str fo) ((belowL rs m.nm).map V.str)) = false := by
        rw [if_neg Bool.false_ne_true, inV_strs, ← eq', in_below hv hq']
        rw [under_iff hv zt hq', decide_eq_false (by rw [eq']; exact ne1), Bool.false_or] at uq'
        exact uq'
      rw [e]
      exact iteF ⟨rfl, rfl⟩
    rintro σ' H' ⟨rfl, rfl⟩
    -- ahead
    refine ⟨_, rfl, t, C, dx, _, _, rfl, s1 _ _ h1, T.cl, T.nq, tf_q _ _ _ _, q, rfl, ⟨_, sqT (s1 _ _ h2)⟩, fun D hD => ?_⟩
    have r1 := h3.same s1
    refine lc_tup (K := K) (a := q) (xs := qs.map V.ref) (fun i H2 => KeepI H' H2 D ((rs.take i).filter fun r => !under rs m.nm r)) (KeepI.nil hD) (fun i H2 _ m => sqT (m.same _ _ (s1 _ _ h2))) ?_ ?_
    · rintro i x H4 hx mi
      obtain ⟨ra, r, rfl, hra, hr', e0⟩ := rows_at r1 hx
      have e4 := mi.same _ _ e0
      have hrm := List.mem_of_getElem? hr'
      refine ⟨rfl, _, rfl, ra, _, _, _, rfl, rfl, sqT e4, atI0 _ _ _ _, _, rfl, rfl, _, rfl, ?_⟩
      refine ite2 (fun hc => ?_) (fun hc => ?_)
      · have hne : r.nm ≠ m.nm := fun e => by rw [e] at hc; simp at hc
        refine ⟨_, rfl, ra, _, _, _, rfl, rfl, sqT e4, atI0 _ _ _ _, _, rfl, bl, _, rfl, .inl (SqL.of (mi.same _ _ e1)), rfl, flat_strs _, _, rfl, ?_⟩
        have e : (if true = true then !inV (.str r.nm) ((belowL rs m.nm).map V.str) else inV (.str r.nm) ((belowL rs m.nm).map V.str)) = !under rs m.nm r := by
          rw [if_pos rfl, inV_strs, in_below hv hrm, under_iff hv zt hrm, decide_eq_false hne, Bool.false_or]
        rw [e]
        refine ite2 (fun hc => ?_) (fun hc => ?_)
        · have g := mi.grow hD (Same.refl _) e4 (by have := List.length_filter_le (fun r => !under rs m.nm r) (rs.take i); rw [List.length_take] at this; omega)
          refine ⟨_, rfl, ?_⟩
          rw [filter_more hr', if_pos hc]
          exact g
        · rw [filter_more hr', if_neg hc, List.append_nil]
          exact mi
      · have he : r.nm = m.nm := Classical.byContradiction fun e => hc (by
          show (!decide (V.str r.nm = V.str m.nm)) = true
          rw [decide_eq_false (fun q => e (V.str.inj q))]; rfl)
        refine iteF ?_
        rw [filter_more hr', if_neg (by rw [under_self hv hrm he]; simp), List.append_nil]
        exact mi
    rintro H4 mA
    rw [List.length_map, h3.len, List.take_length] at mA
    have s4 := s1.trans mA.same
    -- behind
    refine ⟨_, rfl, t, C, dx, _, _, rfl, s4 _ _ h1, T.cl, T.nq, tf_q _ _ _ _, q, rfl, ⟨_, sqT (s4 _ _ h2)⟩, fun D2 hD2 => ?_⟩
    have r4 := h3.same s4
    refine lc_tup (K := K) (a := q) (xs := qs.map V.ref) (fun i H2 => KeepI H4 H2 D2 ((rs.take i).filter (isIn rs m.nm))) (KeepI.nil hD2) (fun i H2 _ m => sqT (m.same _ _ (s4 _ _ h2))) ?_ ?_
    · rintro i x H5 hx mi
      obtain ⟨ra, r, rfl, hra, hr', e0⟩ := rows_at r4 hx
      have e4 := mi.same _ _ e0
      have hrm := List.mem_of_getElem? hr'
      refine ⟨rfl, _, rfl, ra, _, _, _, rfl, rfl, sqT e4, atI0 _ _ _ _, _, rfl, bl, _, rfl, .inl (SqL.of (mi.same _ _ (mA.same _ _ e1))), rfl, flat_strs _, _, rfl, ?_⟩
      have e : (if false = true then !inV (.str r.nm) ((belowL rs m.nm).map V.str) else inV (.str r.nm) ((belowL rs m.nm).map V.str)) = isIn rs m.nm r := by
        rw [if_neg Bool.false_ne_true, inV_strs, in_below hv hrm]
      rw [e]
      refine ite2 (fun hc => ?_) (fun hc => ?_)
      · have g := mi.grow hD2 (Same.refl _) e4 (by have := List.length_filter_le (isIn rs m.nm) (rs.take i); rw [List.length_take] at this; omega)
        refine ⟨_, rfl, ?_⟩
        rw [filter_more hr', if_pos hc]
        exact g
      · rw [filter_more hr', if_neg hc, List.append_nil]
        exact mi
    rintro H5 mB'
    rw [List.length_map, h3.len, List.take_length] at mB'
    have s5 := s4.trans mB'.same
    have mA5 := mA.on mB'.same
    obtain ⟨as, d1, d2⟩ := mA5.ex
    obtain ⟨bs, b1, b2⟩ := mB'.ex
    obtain ⟨j, hj, ej⟩ := List.mem_iff_getElem.mp hm
    have ro := rowOf_at hv (i := j) (r := m) (by rw [← ej]; exact List.getElem?_eq_getElem hj)
    have dgk := DGet.k (k := Sum.inr m.nm) (s5 _ _ h5)
    rw [valV_kvF, show (rs.find? fun q => decide (q.nm = m.nm)) = some m from ro] at dgk
    have dgp := DGet.k (k := Sum.inr m.nm) (s5 _ _ h6)
    rw [valV_kvF, show (rs.find? fun q => decide (q.nm = m.nm)) = some m from ro] at dgp
    have la : as.length ≤ 100 := by
      have := List.length_filter_le (fun r => !under rs m.nm r) rs
      rw [d2.len]; omega
    have lb : bs.length ≤ 100 := by rw [b2.len]; omega
    refine ⟨_, rfl, _, rfl, _, rfl, _, rfl, t, C, dx, _, _, rfl, s5 _ _ h1, T.cl, T.nk, tf_k _ _ _ _, _, rfl, k, _, rfl, dgk, _, rfl, t, C, dx, _, _, rfl, s5 _ _ h1, T.cl, T.np, tf_p _ _ _ _, _, rfl, p, _, rfl, dgp, (by show 4 ≤ sizeLine; decide), fun u1 hu1 => ⟨(by show 1 ≤ sizeLine; decide), fun u2 hu2 => ?_⟩⟩
    have s6 := (Same.new (o := .tup [V.str m.nm, .str fo, .str m.ki, prV m.pr]) hu1).trans (Same.new (o := .lst [V.ref u1]) hu2)
    have e6 := (Same.new (o := .lst [V.ref u1]) hu2) u1 _ upd_same
    refine ⟨D, u2, _, _, rfl, rfl, s6 _ _ d1, upd_same, szl (by rw [List.length_map]; show _ + 1 ≤ 1000; omega), fun u3 hu3 => ?_⟩
    have s7 := s6.trans (Same.new (o := .lst (as.map V.ref ++ [V.ref u1])) hu3)
    refine ⟨_, rfl, u3, D2, _, _, rfl, rfl, upd_same, s7 _ _ b1, szl (by rw [List.length_append, List.length_map, List.length_map]; show _ + 1 + _ ≤ 1000; omega), fun u4 hu4 => ?_⟩
    have s8 := s7.trans (Same.new (o := .lst (as.map V.ref ++ [V.ref u1] ++ bs.map V.ref)) hu4)
    intro x d nx nd _
    have s9 := mk_same0 (C := C) nx nd
    have e8 := ((Same.new (o := .lst (as.map V.ref ++ [V.ref u1])) hu3).trans (Same.new (o := .lst (as.map V.ref ++ [V.ref u1] ++ bs.map V.ref)) hu4)) _ _ e6
    have rr : SeqRows (upd (upd (upd (upd H5 u1 (.tup [V.str m.nm, .str fo, .str m.ki, prV m.pr])) u2 (.lst [V.ref u1])) u3 (.lst (as.map V.ref ++ [V.ref u1]))) u4 (.lst (as.map V.ref ++ [V.ref u1] ++ bs.map V.ref))) (as ++ (u1 :: bs)) (movedL rs m fo) := by
      refine SeqRows.append (d2.same s8).seq ?_
      have := SeqRows.append (SeqRows.snoc (as := []) (rs := []) ⟨rfl, fun _ _ _ h => by simp at h⟩ (.inl (show _ = some (HO.tup (rowVs { m with fo := fo })) from e8))) (b2.same s8).seq
      simpa using this
    have e9 : (upd (upd (upd (upd H5 u1 (.tup [V.str m.nm, .str fo, .str m.ki, prV m.pr])) u2 (.lst [V.ref u1])) u3 (.lst (as.map V.ref ++ [V.ref u1]))) u4 (.lst (as.map V.ref ++ [V.ref u1] ++ bs.map V.ref))) u4 = some (.lst ((as ++ (u1 :: bs)).map V.ref)) := by rw [upd_same]; simp
    have lm : (movedL rs m fo).length ≤ 100 := by
      have e1 : (rs.filter (under rs m.nm)).length + (rs.filter fun r => !under rs m.nm r).length = rs.length := by
        exact filter_two (under rs m.nm) rs
      rw [under_split hv hm, List.length_cons] at e1
      unfold movedL lessL
      rw [List.length_append, List.length_cons]
      omega
    exact ⟨x, d, u4, _, movedL rs m fo, rfl, upd_same, .inr (s9 _ _ e9), rr.same s9, lm, moved_valid hv hm hfo, fun H6 sb tr => ⟨rfl, hq x H6 ((s5.trans s8).trans (mk_same nx nd sb)) tr⟩⟩
end
end Ts

set_option maxRecDepth 100000
set_option maxHeartbeats 4000000
namespace Ts
open PySem L2
def beneathL (rs : List Row) (z : Str) : List Str := (rs.filter (under rs z)).map (·.nm)
theorem in_beneath {rs : List Row} (h : Valid rs) {z : Str} {r : Row} (hr : r ∈ rs) : decide (r.nm ∈ beneathL rs z) = under rs z r := by
  by_cases i : under rs z r = true
  · rw [i]
    exact decide_eq_true (List.mem_map.mpr ⟨r, List.mem_filter.mpr ⟨hr, i⟩, rfl⟩)
  · rw [Bool.not_eq_true] at i
    rw [i]
    refine decide_eq_false fun hm => ?_
    obtain ⟨q, hq, e⟩ := List.mem_map.mp hm
    obtain ⟨q1, q2⟩ := List.mem_filter.mp hq
    rw [names_inj h q1 hr e, i] at q2
    cases q2
def spBeneath : Sp := fun vs H Q _ => ∃ (p : Addr) (z : Str) (rs : List Row), vs = [.ref p, .str z] ∧ RowsL H p rs ∧ Valid rs ∧ rs.length ≤ 100 ∧
  ∀ D H', H D = none → Same H H' → H' D = some (.lst ((beneathL rs z).map V.str)) → Q (.ref D) H'
def moveR (m : Row) (fo : Str) (r : Row) : Row := if r.nm = m.nm then { r with fo := fo } else r
def spMovedRows : Sp := fun vs H Q _ => ∃ (p : Addr) (m : Row) (fo : Str) (rs : List Row), vs = [.ref p, .str m.nm, .str fo] ∧ RowsL H p rs ∧ Valid rs ∧ rs.length ≤ 100 ∧ m ∈ rs ∧
  ∀ D H', H D = none → Same H H' → RowsL H' D (movedL rs m fo) → Q (.ref D) H'
theorem movedL_eq {rs : List Row} (h : Valid rs) {m : Row} (hm : m ∈ rs) (fo : Str) : (rs.filter fun r => !under rs m.nm r) ++ (rs.filter (under rs m.nm)).map (moveR m fo) = movedL rs m fo := by
  unfold movedL lessL
  rw [under_split h hm, List.map_cons]
  have e1 : moveR m fo m = { m with fo := fo } := by unfold moveR; rw [if_pos rfl]
  have e2 : (rs.filter (isIn rs m.nm)).map (moveR m fo) = rs.filter (isIn rs m.nm) := by
    have : (rs.filter (isIn rs m.nm)).map (moveR m fo) = (rs.filter (isIn rs m.nm)).map id := by
      refine List.map_congr_left fun r hr => ?_
      have q := (List.mem_filter.mp hr).2
      unfold moveR
      rw [if_neg (fun e => by unfold isIn at q; simp [e] at q)]
      rfl
    rw [this, List.map_id]
  rw [e1, e2]
theorem RowsAt.append {H : Hp} : ∀ {bs : List Addr} {qs : List Row} {as : List Addr} {rs : List Row}, RowsAt H as rs → RowsAt H bs qs → RowsAt H (as ++ bs) (rs ++ qs)
  | [], [], as, rs, h, _ => by simpa using h
  | [], _ :: _, _, _, _, h => by have := h.len; simp at this
  | _ :: _, [], _, _, _, h => by have := h.len; simp at this
  | b :: bs, q :: qs, as, rs, h, h2 => by
    have h3 : RowsAt H bs qs := ⟨by simpa using h2.len, fun i a r ha hr => h2.at_ (i + 1) a r (by simpa using ha) (by simpa using hr)⟩
    have := RowsAt.append (RowsAt.snoc h (h2.at_ 0 b q rfl rfl)) h3
    simpa using this
section
variable {P : Program} {w : World} {K : PySem.W.Frag} {mg : Str → Option Value} {base : Heap} {C : Addr}
end
end Ts

set_option maxRecDepth 100000
set_option maxHeartbeats 4000000
namespace Ts
open PySem L2
theorem iteT' {b : Bool} {A B : Prop} (e : b = true) (h : A) : if b = true then A else B := by rw [if_pos e]; exact h
/-! ### what a move does to rows and values -/
/-- a move that is let -/
def LetM (rs : List Row) (m : Row) (fo : Str) : Prop := m ∈ rs ∧ (fo = ("top" : Str) ∨ ∃ q ∈ rs, q.nm = fo ∧ q.ki = ("folder" : Str) ∧ under rs m.nm q = false)
theorem LetM.place {rs : List Row} {m : Row} {fo : Str} (h : LetM rs m fo) : fo = ("top" : Str) ∨ fo ∈ names rs := h.2.imp id fun ⟨q, hq, e, _⟩ => List.mem_map.mpr ⟨q, hq, e⟩
theorem nm_ne_top {rs : List Row} (h : Valid rs) {m : Row} (hm : m ∈ rs) : m.nm ≠ ("top" : Str) := fun e => top_not h (by rw [← e]; exact List.mem_map.mpr ⟨m, hm, rfl⟩)
theorem mem_moved {rs : List Row} (h : Valid rs) {m r : Row} (hm : m ∈ rs) (hr : r ∈ rs) (ne : r.nm ≠ m.nm) (fo : Str) : r ∈ movedL rs m fo := by
  unfold movedL
  by_cases u : under rs m.nm r = true
  · rw [under_iff h (nm_ne_top h hm) hr, decide_eq_false ne, Bool.false_or] at u
    exact List.mem_append_right _ (List.mem_cons_of_mem _ (List.mem_filter.mpr ⟨hr, u⟩))
  · exact List.mem_append_left _ (List.mem_filter.mpr ⟨hr, by simpa using u⟩)
theorem moved_self (rs : List Row) (m : Row) (fo : Str) : { m with fo := fo } ∈ movedL rs m fo := List.mem_append_right _ (List.mem_cons_self ..)
theorem rowOf_mem {rs : List Row} (h : Valid rs) {r : Row} (hr : r ∈ rs) : rowOf rs r.nm = some r := by
  obtain ⟨i, hi, e⟩ := List.mem_iff_getElem.mp hr
  exact rowOf_at h (i := i) (by rw [← e]; exact List.getElem?_eq_getElem hi)
theorem locked_moved {rs : List Row} (h : Valid rs) {m : Row} {fo : Str} (hl : LetM rs m fo) {z : Str} (hz : z ∈ names rs) : lockedB (movedL rs m fo) z = lockedB rs z := by
  have v' := moved_valid h hl.1 hl.2
  obtain ⟨r, hr, rfl⟩ := List.mem_map.mp hz
  unfold lockedB
  rw [rowOf_mem h hr]
  by_cases e : r.nm = m.nm
  · have : r = m := names_inj h hr hl.1 e
    subst this
    rw [show r.nm = ({ r with fo := fo } : Row).nm from rfl, rowOf_mem v' (moved_self rs r fo)]
  · rw [rowOf_mem v' (mem_moved h hl.1 hr e fo)]
theorem names_moved {rs : List Row} (h : Valid rs) {m : Row} {fo : Str} (hl : LetM rs m fo) {z : Str} (hz : z ∈ names rs) : z ∈ names (movedL rs m fo) := by
  obtain ⟨r, hr, rfl⟩ := List.mem_map.mp hz
  by_cases e : r.nm = m.nm
  · exact List.mem_map.mpr ⟨_, moved_self rs m fo, e.symm⟩
  · exact List.mem_map.mpr ⟨r, mem_moved h hl.1 hr e fo, rfl⟩
def rules3 : List Str := ["told", "turned", "meant"]
/-- whether the box needs a turn behind the move -/
def needs (rs : List Row) (d : Bool) (ts : List Str) (z fo rule : Str) : Bool :=
  if rule = "meant" then valOf rs d ts z != valOf rs d ts fo else if rule = "told" then decide (z ∈ ts) && (valOf rs d ts z != valOf rs d ts fo) else decide (z ∈ ts)
def turnsB (rs : List Row) (d : Bool) (ts : List Str) (z fo rule : Str) : List Str := (ts.filter fun x => decide (x ≠ z)) ++ (if needs rs d ts z fo rule = true then [z] else [])
theorem turnsB_ne {rs : List Row} {d : Bool} {ts : List Str} {z fo rule x : Str} (h : x ≠ z) : x ∈ turnsB rs d ts z fo rule ↔ x ∈ ts := by
  unfold turnsB
  rw [List.mem_append, List.mem_filter]
  constructor
  · rintro (⟨a, _⟩ | a)
    · exact a
    · split at a
      · exact absurd (List.mem_singleton.mp a) h
      · cases a
  · intro a
    exact .inl ⟨a, decide_eq_true h⟩
theorem turnsB_self {rs : List Row} {d : Bool} {ts : List Str} {z fo rule : Str} : decide (z ∈ turnsB rs d ts z fo rule) = needs rs d ts z fo rule := by
  unfold turnsB
  cases e : needs rs d ts z fo rule with
  | true => exact decide_eq_true (List.mem_append_right _ (by rw [if_pos rfl]; exact List.mem_singleton.mpr rfl))
  | false =>
    refine decide_eq_false fun h => ?_
    rw [if_neg Bool.false_ne_true, List.append_nil] at h
    exact of_decide_eq_true (List.mem_filter.mp h).2 rfl
theorem turnsB_names {rs : List Row} {d : Bool} {ts : List Str} {m : Row} {fo rule : Str} (hm : m ∈ rs) (ht : ∀ z ∈ ts, z ∈ names rs) : ∀ x ∈ turnsB rs d ts m.nm fo rule, x ∈ names rs := by
  intro x hx
  by_cases e : x = m.nm
  · rw [e]; exact List.mem_map.mpr ⟨m, hm, rfl⟩
  · exact ht x ((turnsB_ne e).mp hx)
theorem first_moved {rs : List Row} (h : Valid rs) {m : Row} {fo rule : Str} {d : Bool} {ts : List Str} (hl : LetM rs m fo) (hf : ∀ z ∈ ts, Free rs z) :
    firstLk (movedL rs m fo) (turnsB rs d ts m.nm fo rule) = if (needs rs d ts m.nm fo rule && decide (m.pr = none)) = true then some m.nm else none := by
  have hA : firstLk (movedL rs m fo) (ts.filter fun x => decide (x ≠ m.nm)) = none := List.find?_eq_none.mpr fun x hx => by
    have fx := hf x (List.mem_filter.mp hx).1
    rw [locked_moved h hl fx.mem, free_lk fx]
    exact Bool.false_ne_true
  unfold firstLk at hA ⊢
  unfold turnsB
  rw [List.find?_append, hA, Option.none_or]
  cases needs rs d ts m.nm fo rule with
  | false => rw [Bool.false_and]; rfl
  | true =>
    rw [Bool.true_and, if_pos rfl, List.find?_cons, List.find?_nil, locked_moved h hl (List.mem_map.mpr ⟨m, hl.1, rfl⟩)]
    have : lockedB rs m.nm = decide (m.pr = none) := by unfold lockedB; rw [rowOf_mem h hl.1]
    rw [this]
    cases decide (m.pr = none) <;> rfl
/-- outside the box all values are as before -/
theorem val_out {rs : List Row} (h : Valid rs) {m : Row} {fo rule : Str} {d : Bool} {ts : List Str} (hl : LetM rs m fo) : ∀ (i : Nat) (r : Row), rs[i]? = some r → under rs m.nm r = false → valOf (movedL rs m fo) d (turnsB rs d ts m.nm fo rule) r.nm = valOf rs d ts r.nm := by
  have v' := moved_valid h hl.1 hl.2
  intro i
  induction i using Nat.strongRecOn with
  | _ i ih =>
    intro r hr hu
    have hrm := List.mem_of_getElem? hr
    have ne : r.nm ≠ m.nm := fun e => by rw [under_self h hrm e] at hu; cases hu
    have hr' := mem_moved h hl.1 hrm ne fo
    have fov : valOf (movedL rs m fo) d (turnsB rs d ts m.nm fo rule) r.fo = valOf rs d ts r.fo := by
      rcases h.fo hr with e | e
      · rw [e, val_top v', val_top h]
      · obtain ⟨q, hq, eq⟩ := List.mem_map.mp e
        obtain ⟨j, hj, ej⟩ := List.mem_take_iff_getElem.mp hq
        have hjq : rs[j]? = some q := by rw [← ej]; exact List.getElem?_eq_getElem _
        have uq : under rs m.nm q = false := by
          cases u : under rs m.nm q with
          | false => rfl
          | true => rw [under_up h hrm (List.mem_of_getElem? hjq) eq u] at hu; cases hu
        rw [← eq]
        exact ih j (by omega) q hjq uq
    rw [val_step v' _ _ hr', val_step h _ _ hrm, fov]
    congr 1
    exact decide_eq_decide.mpr (turnsB_ne ne)
theorem val_outZ {rs : List Row} (h : Valid rs) {m : Row} {fo rule : Str} {d : Bool} {ts : List Str} (hl : LetM rs m fo) {z : Str} (hz : z ∈ plc rs) (ho : z ∉ beneathL rs m.nm) : valOf (movedL rs m fo) d (turnsB rs d ts m.nm fo rule) z = valOf rs d ts z := by
  rcases mem_plc.mp hz with rfl | hz
  · rw [val_top (moved_valid h hl.1 hl.2), val_top h]
  · obtain ⟨r, hr, rfl⟩ := List.mem_map.mp hz
    obtain ⟨i, hi, e⟩ := List.mem_iff_getElem.mp hr
    refine val_out h hl i r (by rw [← e]; exact List.getElem?_eq_getElem hi) ?_
    rw [← in_beneath h hr]
    exact decide_eq_false ho
/-- the folder lies outside -/
theorem val_fo {rs : List Row} (h : Valid rs) {m : Row} {fo rule : Str} {d : Bool} {ts : List Str} (hl : LetM rs m fo) : valOf (movedL rs m fo) d (turnsB rs d ts m.nm fo rule) fo = valOf rs d ts fo := by
  rcases hl.2 with e | ⟨q, hq, e, _, hu⟩
  · rw [e, val_top (by rw [← e]; exact moved_valid h hl.1 hl.2), val_top h]
  · refine val_outZ h hl (mem_plc.mpr (.inr (List.mem_map.mpr ⟨q, hq, e⟩))) ?_
    rw [← e]
    have := in_beneath h hq (z := m.nm)
    rw [hu] at this
    exact of_decide_eq_false this
theorem val_box {rs : List Row} (h : Valid rs) {m : Row} {fo rule : Str} {d : Bool} {ts : List Str} (hl : LetM rs m fo) : valOf (movedL rs m fo) d (turnsB rs d ts m.nm fo rule) m.nm = (valOf rs d ts fo != needs rs d ts m.nm fo rule) := by
  have := val_step (moved_valid h hl.1 hl.2) d (turnsB rs d ts m.nm fo rule) (moved_self rs m fo)
  rw [show ({ m with fo := fo } : Row).nm = m.nm from rfl, show ({ m with fo := fo } : Row).fo = fo from rfl, val_fo h hl, turnsB_self] at this
  exact this
theorem val_meant {rs : List Row} (h : Valid rs) {m : Row} {fo : Str} {d : Bool} {ts : List Str} (hl : LetM rs m fo) : valOf (movedL rs m fo) d (turnsB rs d ts m.nm fo "meant") m.nm = valOf rs d ts m.nm := by
  rw [val_box h hl]
  unfold needs
  rw [if_pos rfl]
  cases valOf rs d ts m.nm <;> cases valOf rs d ts fo <;> rfl
/-- within the box all values are as before, or none is -/
theorem val_in {rs : List Row} (h : Valid rs) {m : Row} {fo rule : Str} {d : Bool} {ts : List Str} (hl : LetM rs m fo) : ∀ (i : Nat) (r : Row), rs[i]? = some r → under rs m.nm r = true →
    (valOf rs d ts r.nm == valOf (movedL rs m fo) d (turnsB rs d ts m.nm fo rule) r.nm) = (valOf rs d ts m.nm == valOf (movedL rs m fo) d (turnsB rs d ts m.nm fo rule) m.nm) := by
  have v' := moved_valid h hl.1 hl.2
  intro i
  induction i using Nat.strongRecOn with
  | _ i ih =>
    intro r hr hu
    have hrm := List.mem_of_getElem? hr
    by_cases ne : r.nm = m.nm
    · rw [ne]
    · have hr' := mem_moved h hl.1 hrm ne fo
      have hw : m.nm ∈ wayOf rs r.fo := by
        have u2 : m.nm ∈ wayOf rs r.nm := of_decide_eq_true hu
        rw [way_step h hrm] at u2
        rcases List.mem_append.mp u2 with u2 | u2
        · exact u2
        · exact absurd (List.mem_singleton.mp u2).symm ne
      have e : r.fo ∈ names (rs.take i) := by
        rcases h.fo hr with e | e
        · rw [e, way_top h] at hw; cases hw
        · exact e
      obtain ⟨q, hq, eq⟩ := List.mem_map.mp e
      obtain ⟨j, hj, ej⟩ := List.mem_take_iff_getElem.mp hq
      have hjq : rs[j]? = some q := by rw [← ej]; exact List.getElem?_eq_getElem _
      have uq : under rs m.nm q = true := decide_eq_true (by rw [eq]; exact hw)
      have iq := ih j (by omega) q hjq uq
      rw [eq] at iq
      rw [val_step v' _ _ hr', val_step h _ _ hrm, ← iq, show decide (r.nm ∈ turnsB rs d ts m.nm fo rule) = decide (r.nm ∈ ts) from decide_eq_decide.mpr (turnsB_ne ne)]
      generalize valOf rs d ts r.fo = a
      generalize valOf (movedL rs m fo) d (turnsB rs d ts m.nm fo rule) r.fo = b
      generalize decide (r.nm ∈ ts) = c
      cases a <;> cases b <;> cases c <;> rfl
theorem val_inZ {rs : List Row} (h : Valid rs) {m : Row} {fo rule : Str} {d : Bool} {ts : List Str} (hl : LetM rs m fo) {z : Str} (hz : z ∈ beneathL rs m.nm) :
    (valOf rs d ts z == valOf (movedL rs m fo) d (turnsB rs d ts m.nm fo rule) z) = (valOf rs d ts m.nm == valOf (movedL rs m fo) d (turnsB rs d ts m.nm fo rule) m.nm) := by
  obtain ⟨r, hr, rfl⟩ := List.mem_map.mp hz
  obtain ⟨hr, hu⟩ := List.mem_filter.mp hr
  obtain ⟨i, hi, e⟩ := List.mem_iff_getElem.mp hr
  exact val_in h hl i r (by rw [← e]; exact List.getElem?_eq_getElem hi) hu
end Ts

set_option maxRecDepth 100000
set_option maxHeartbeats 4000000
namespace Ts
open PySem L2
structure TxV (K : PySem.W.Frag) (mg : Str → Option Value) where
  told : ∃ t, mg "TOLD" = some (.str "told" t)
  meant : ∃ t, mg "MEANT" = some (.str "meant" t)
  rulesA : Addr
  rules : mg "RULES" = some (.ref rulesA)
  rulesT : ∃ (o : Obj) (its : Array Value) (n : Nat), K.lookup rulesA = some o ∧ o.cls = .type "tuple" ∧ o.data = .seq its n ∧ its.size ≤ sizeLine ∧ Vals (rules3.map V.str) its.toList
def spRule : Sp := fun vs H Q _ => ∃ r : Str, vs = [.str r] ∧ r ∈ rules3 ∧ Q .non H
def spBehindT (C CM : Addr) : Sp := fun vs H Q _ => ∃ (m t : Addr) (z fo rule : Str) (rs : List Row) (d : Bool) (ts : List Str), vs = [.ref m, .str z, .str fo, .str rule] ∧ MeanAt C CM H m t rs d ts ∧ (z = ("top" : Str) ∨ z ∈ names rs) ∧ (fo = ("top" : Str) ∨ fo ∈ names rs) ∧ rule ∈ rules3 ∧
  Q (.bl (needs rs d ts z fo rule)) H
def spMovedM (C CM CL : Addr) : Sp := fun vs H Q E => ∃ (m t : Addr) (b : Row) (fo rule : Str) (rs : List Row) (d : Bool) (ts : List Str), vs = [.ref m, .str b.nm, .str fo, .str rule] ∧ MeanAt C CM H m t rs d ts ∧ (∀ z ∈ ts, Free rs z) ∧ LetM rs b fo ∧ rule ∈ rules3 ∧
  ((needs rs d ts b.nm fo rule && decide (b.pr = none)) = true → ∀ e H', H e = none → Same H H' → H' e = some (.xd [("box", .str b.nm)]) → E (.ref CL) (some e) H') ∧
  ((needs rs d ts b.nm fo rule && decide (b.pr = none)) = false → ∀ m' t' H', H m' = none → Same H H' → MeanAt C CM H' m' t' (movedL rs b fo) d (turnsL (movedL rs b fo) (turnsB rs d ts b.nm fo rule)) → Q (.ref m') H')
section
variable {P : Program} {w : World} {K : PySem.W.Frag} {mg : Str → Option Value} {base : Heap} {C CM CL : Addr}
theorem sc_rule : FnScope ["thing"] ["thing"] (defScope s_check_rule) := ⟨rfl, rfl, rfl, by decide +kernel, rfl, by decide +kernel, by decide +kernel⟩
theorem ok_rule (D : DefAt K mg "check_rule" s_check_rule ["thing"]) (TV : TxV K mg) : FnOk P w K mg base CX0 2 D.f D.fd ["thing"] spRule := by
  refine D.F.ok sc_rule (fun vs H Q E h => ?_) (fun cdv A outer s H vs Q E hr h => ?_)
  · obtain ⟨r, rfl, _⟩ := h
    rfl
  · obtain ⟨r, rfl, hr', hq⟩ := h
    refine ⟨_, pss_one (ps_if (pt_cmpR op_notIn_seq (pv 0) (pe_glob (by rfl) TV.rules (v := .ref TV.rulesA) rfl) (by rfl)) (pss_one ps_never) pss_nil), ?_⟩
    refine ⟨_, rfl, TV.rulesA, _, rfl, .inr (.inr TV.rulesT), rfl, flat_strs _, _, rfl, ?_⟩
    have e : (if true = true then !inV (.str r) (rules3.map V.str) else inV (.str r) (rules3.map V.str)) = false := by
      rw [if_pos rfl, inV_strs, decide_eq_true hr']; rfl
    rw [e]
    exact iteF hq
abbrev nBehindT : List Str := ["meaning", "box", "folder", "rule", "turned"]
theorem sc_behindT : FnScope nBehindT ["meaning", "box", "folder", "rule"] (defScope s_turns_behind) := ⟨rfl, rfl, rfl, by decide +kernel, rfl, by decide +kernel, by decide +kernel⟩
theorem ok_behindT (D : DefAt K mg "turns_behind" s_turns_behind ["meaning", "box", "folder", "rule"]) (TV : TxV K mg) (M : TxM K mg CM) (mV : MethAt K CM "value" "Meaning.value" s_Meaning_value ["self", "box"]) (GV : FnOk P w K mg base CX0 5 mV.f mV.fd ["self", "box"] (spMValue C CM)) :
    FnOk P w K mg base CX0 6 D.f D.fd ["meaning", "box", "folder", "rule"] (spBehindT C CM) := by
  obtain ⟨t1, gT⟩ := TV.told
  obtain ⟨t2, gM⟩ := TV.meant
  refine D.F.ok sc_behindT (fun vs H Q E h => ?_) (fun cdv A outer s H vs Q E hr h => ?_)
  · obtain ⟨m, t, z, fo, rule, rs, d, ts, rfl, _⟩ := h
    rfl
  · obtain ⟨m, t, z, fo, rule, rs, d, ts, rfl, hm, hz, hf, hru, hq⟩ := h
    obtain ⟨dx, u, k, h1, h2, h3⟩ := id hm.ex
    have noV : (mf t u k d).lookup ("value" : Str) = none := mf_no _ _ _ _ (by decide +kernel) (by decide +kernel) (by decide +kernel) (by decide +kernel)
    refine ⟨_, pss_cons (ps_set (i := 4) sc_behindT.nd rfl (.inl rfl) (pe_cmpR op_in_seq (pv 1) (pe_fld (pv 0) rfl) (by rfl)))
      (pss_cons (ps_if (PW.pt (pw_or (pt_cmpR op_eq (pv 3) (pe_glob (by rfl) gM (v := .str ("meant" : Str)) ⟨_, rfl⟩) (nomark _)) (pw_or1 (PW.pt (pw_and (pt_cmpR op_eq (pv 3) (pe_glob (by rfl) gT (v := .str ("told" : Str)) ⟨_, rfl⟩) (nomark _)) (pw_and1 (pt_val (pv 4))))))))
        (pss_one (ps_ret (pe_cmpR op_ne (pe_meth (pv 0) M.cl mV.m GV hr mV.b .nil pass0 (pa_cons (pv 1) pa_nil)) (pe_meth (pv 0) M.cl mV.m GV hr mV.b .nil pass0 (pa_cons (pv 2) pa_nil)) (nomark _)))) pss_nil)
      (pss_one (ps_ret (pv 4)))), ?_⟩
    refine ⟨_, rfl, _, rfl, m, CM, dx, _, _, rfl, h1, M.cl, M.nu, mf_u _ _ _ _, u, _, rfl, .inr (sqT h2), rfl, flat_strs _, ?_⟩
    have e : (if false = true then !inV (.str z) (ts.map V.str) else inV (.str z) (ts.map V.str)) = decide (z ∈ ts) := by
      rw [if_neg Bool.false_ne_true, inV_strs]
    rw [e]
    have bl : ∀ a b : Bool, (!decide (V.bl a = V.bl b)) = (a != b) := by intro a b; cases a <;> cases b <;> rfl
    simp only [rules3, List.mem_cons, List.not_mem_nil, or_false] at hru
    unfold needs at hq
    rcases hru with rfl | rfl | rfl
    · rw [if_neg (by decide +kernel), if_pos rfl] at hq
      refine ⟨_, rfl, rfl, _, rfl, iteF' (by decide +kernel) ⟨_, rfl, rfl, _, rfl, iteT' (by decide +kernel) ⟨_, rfl, ?_⟩⟩⟩
      cases hzt : decide (z ∈ ts) with
      | true =>
        rw [hzt, Bool.true_and] at hq
        refine ⟨_, rfl, iteT ⟨_, rfl, m, dx, _, rfl, h1, noV, _, rfl, m, t, z, rs, d, ts, rfl, hm, hz, _, rfl, m, dx, _, rfl, h1, noV, _, rfl, m, t, fo, rs, d, ts, rfl, hm, hf, rfl, ?_⟩⟩
        rw [bl]
        exact hq
      | false =>
        rw [hzt, Bool.false_and] at hq
        exact ⟨_, rfl, iteF ⟨_, rfl, hq⟩⟩
    · rw [if_neg (by decide +kernel), if_neg (by decide +kernel)] at hq
      exact ⟨_, rfl, rfl, _, rfl, iteF' (by decide +kernel) ⟨_, rfl, rfl, _, rfl, iteF' (by decide +kernel) (iteF ⟨_, rfl, hq⟩)⟩⟩
    · rw [if_pos rfl] at hq
      refine ⟨_, rfl, rfl, _, rfl, iteT' (by decide +kernel) (iteT ⟨_, rfl, m, dx, _, rfl, h1, noV, _, rfl, m, t, z, rs, d, ts, rfl, hm, hz, _, rfl, m, dx, _, rfl, h1, noV, _, rfl, m, t, fo, rs, d, ts, rfl, hm, hf, rfl, ?_⟩)⟩
      rw [bl]
      exact hq
abbrev nMovedM : List Str := ["meaning", "box", "folder", "rule", "tree", "turns", "turn"]
theorem sc_movedM : FnScope nMovedM ["meaning", "box", "folder", "rule"] (defScope s_moved) := ⟨rfl, rfl, rfl, by decide +kernel, rfl, by decide +kernel, by decide +kernel⟩
theorem ok_movedM {fM : Addr} {fdM : FuncData} (D : DefAt K mg "moved" s_moved ["meaning", "box", "folder", "rule"]) (T : TxT K mg C) (M : TxM K mg CM)
    (mM : MethAt K C "moved" "Tree.moved" s_Tree_moved ["self", "box", "folder"]) (GMv : FnOk P w K mg base CX0 7 mM.f mM.fd ["self", "box", "folder"] (spMoved C))
    (Dr : DefAt K mg "check_rule" s_check_rule ["thing"]) (Gr : FnOk P w K mg base CX0 2 Dr.f Dr.fd ["thing"] spRule)
    (Db : DefAt K mg "turns_behind" s_turns_behind ["meaning", "box", "folder", "rule"]) (Gb : FnOk P w K mg base CX0 6 Db.f Db.fd ["meaning", "box", "folder", "rule"] (spBehindT C CM))
    (MM : Mk K CM fM) (bM : Binds K fdM ["self", "tree", "default", "turns"] []) (GM : FnOk P w K mg base (L2.CX P w) 7 fM fdM ["self", "tree", "default", "turns"] (spMeaningInitX K C CM CL)) :
    FnOk P w K mg base (L2.CX P w) 9 D.f D.fd ["meaning", "box", "folder", "rule"] (spMovedM C CM CL) := by
  refine D.F.okX sc_movedM (fun vs H Q E h => ?_) (fun cdv A outer s H vs Q E hr h => ?_)
  · obtain ⟨m, t, b, fo, rule, rs, d, ts, rfl, _⟩ := h
    rfl
  · have r2 : Room 2 _ := hr.mono (by decide)
    have r6 : Room 6 _ := hr.mono (by decide)
    have r7 : Room 7 _ := hr.mono (by decide)
    refine ⟨_, pss_cons (ps_set (i := 4) sc_movedM.nd rfl (.inl rfl) (pe_meth (pe_fld (pv 0) rfl) T.cl mM.m GMv r7 mM.b .nil pass0 (pa_cons (pv 1) (pa_cons (pv 2) pa_nil))))
      (pss_cons (ps_expr (pe_call Gr r2 rfl Dr.g Dr.F.kp Dr.b .nil pass0 (pa_cons (pv 3) pa_nil)))
      (pss_cons (ps_setLc (i := 5) (own := [("turn", 6)]) (g := gName 6) (tt := tTest (tOp rNe (tVar 6) (tVar 1))) (te := tVar 6) rfl sc_movedM.nd rfl rfl (sw_true rfl rfl rfl (by decide +kernel)) (pi_tup (pe_fld (pv 0) rfl)) (blkOk_by (N := nMovedM) (sc := defScope s_moved) (by decide +kernel))
          (fun _ _ _ _ _ => pg_name (i := 6) sc_movedM.nd rfl (Or.inl rfl)) (fun _ _ _ _ _ => by exact pts_one (pt_cmpR op_ne (pv 6) (pv 1) (nomark _))) (fun _ _ _ _ _ => pv 6))
      (C8.pss_cut (ps_if (pt_val (pe_call Gb r6 rfl Db.g Db.F.kp Db.b .nil pass0 (pa_cons (pv 0) (pa_cons (pv 1) (pa_cons (pv 2) (pa_cons (pv 3) pa_nil)))))) (pss_one (ps_expr (pe_bm PySem.F.plainAttrs_list PySem.F.slot_list_append PySem.F.type_list_append mt_append (pv 5) (pa_cons (pv 1) pa_nil)))) pss_nil)
      (pss_one (ps_ret (pe_make MM GM hr rfl M.g bM .nil (passes_call (takes_of rfl rfl rfl rfl) (fun _ _ _ _ h => h)) (pa_cons (pv 4) (pa_cons (pe_fld (pv 0) rfl) (pa_cons (pv 5) pa_nil))))))))), ?_⟩
    obtain ⟨m, t, b, fo, rule, rs, d, ts, rfl, hm, hfree, hl, hru, hE, hq⟩ := h
    obtain ⟨dx, u, k, h1, h2, h3⟩ := id hm.ex
    obtain ⟨tdx, q, f, tk, p, qs, g1, _⟩ := id hm.tree.ex
    have hv := hm.tree.val
    have l100 := hm.len
    have noM : (tf q f tk p).lookup ("moved" : Str) = none := tf_no _ _ _ _ (by decide +kernel) (by decide +kernel) (by decide +kernel) (by decide +kernel)
    refine ⟨_, rfl, m, CM, dx, _, _, rfl, h1, M.cl, M.nt, mf_t _ _ _ _, t, tdx, _, rfl, g1, noM, _, rfl, _, rfl, t, b, fo, rs, rfl, hm.tree, hl.1, hl.2, fun t' H1 s1 ht1 => ?_⟩
    refine ⟨_, rfl, rule, rfl, hru, ?_⟩
    refine ⟨_, rfl, m, CM, dx, _, _, rfl, s1 _ _ h1, M.cl, M.nu, mf_u _ _ _ _, u, rfl, ⟨_, sqT (s1 _ _ h2)⟩, fun D2 hD2 => ?_⟩
    have lf : ∀ i, ((ts.take i).filter fun z => decide (z ≠ b.nm)).length ≤ 100 := fun i => by
      have := List.length_filter_le (fun z => decide (z ≠ b.nm)) (ts.take i)
      rw [List.length_take] at this
      omega
    refine lc_tup (K := K) (a := u) (xs := ts.map V.str) (fun i H' => Same H1 H' ∧ H' D2 = some (.lst (((ts.take i).filter fun z => decide (z ≠ b.nm)).map V.str))) ⟨Same.new hD2, upd_same⟩ (fun i H' _ m => sqT ((s1.trans m.1) _ _ h2)) ?_ ?_
    · rintro i x H3 hx ⟨s3, e3⟩
      rw [List.getElem?_map] at hx
      obtain ⟨z, hz, rfl⟩ := Option.map_eq_some_iff.mp hx
      refine ⟨rfl, _, rfl, _, rfl, rfl, _, rfl, ?_⟩
      have e0 : (!decide (V.str z = V.str b.nm)) = decide (z ≠ b.nm) := by
        by_cases q : z = b.nm
        · rw [q]; simp
        · have : V.str z ≠ V.str b.nm := fun e => q (V.str.inj e)
          simp [q, this]
      rw [e0]
      refine ite2 (fun hc => ?_) (fun hc => ?_)
      · refine ⟨_, rfl, _, e3, small1000 (by rw [List.length_map]; have := lf i; omega), fun b' o eb => ?_, ?_⟩
        · rw [upd_ne (fun y => by rw [y, hD2] at eb; cases eb)]
          exact s3 _ _ eb
        · rw [upd_same, take_more hz, List.filter_append, List.filter_cons_of_pos (p := fun z => decide (z ≠ b.nm)) hc, List.map_append]; rfl
      · refine ⟨s3, ?_⟩
        rw [take_more hz, List.filter_append, List.filter_cons_of_neg (p := fun z => decide (z ≠ b.nm)) hc, List.filter_nil, List.append_nil]
        exact e3
    rintro H3 ⟨s3, e3⟩
    rw [List.length_map, List.take_length] at e3
    have l3 : (ts.filter fun z => decide (z ≠ b.nm)).length ≤ 100 := by have := lf ts.length; rw [List.take_length] at this; exact this
    have hm3 := hm.same (s1.trans s3)
    have ht3 := ht1.same s3
    have nD : H D2 = none := s1.free hD2
    have bz : b.nm = ("top" : Str) ∨ b.nm ∈ names rs := .inr (List.mem_map.mpr ⟨b, hl.1, rfl⟩)
    refine ⟨fun σ' H' => σ' = [some (.ref m), some (.str b.nm), some (.str fo), some (.str rule), some (.ref t'), some (.ref D2), none] ∧ SB D2 H3 H' ∧ H' D2 = some (.lst ((turnsB rs d ts b.nm fo rule).map V.str)), ?_, ?_⟩
    · refine ⟨_, rfl, _, rfl, _, rfl, _, rfl, m, t, b.nm, fo, rule, rs, d, ts, rfl, hm3, bz, hl.place, hru, ?_⟩
      cases hn : needs rs d ts b.nm fo rule with
      | true =>
        refine ⟨_, rfl, iteT ⟨_, rfl, .inl ⟨rfl, _, SqL.of e3⟩, _, rfl, D2, _, _, rfl, rfl, e3, small1000 (by rw [List.length_map]; omega), rfl, fun b' o nb e => by rw [upd_ne nb]; exact e, ?_⟩⟩
        rw [upd_same]
        unfold turnsB
        rw [hn, if_pos rfl, List.map_append]; rfl
      | false =>
        refine ⟨_, rfl, iteF ⟨rfl, fun b' o nb e => e, ?_⟩⟩
        unfold turnsB
        rw [hn, if_neg Bool.false_ne_true, List.append_nil]
        exact e3
    rintro σ' H4 ⟨rfl, sb4, e4⟩
    have sH : Same H H4 := fun b' o e => sb4 b' o (ne_of_none e nD) ((s1.trans s3) b' o e)
    have kl : KL H3 H4 := fun b' o e no => sb4 b' o (fun y => by rw [y, e3] at e; exact no _ (Option.some.inj e).symm) e
    have ht4 := ht3.kl kl
    have hn4 : ∀ x ∈ turnsB rs d ts b.nm fo rule, x ∈ names (movedL rs b fo) := fun x hx => names_moved hv hl (turnsB_names hl.1 (fun z hz => (hfree z hz).mem) x hx)
    have ff := first_moved (rule := rule) (d := d) hv hl hfree
    refine ⟨_, rfl, _, rfl, m, CM, dx, _, _, rfl, sH _ _ h1, M.cl, M.nd, mf_d _ _ _ _, _, rfl, fun m' dm nm nd _ => ⟨m', dm, t', D2, d, _, movedL rs b fo, rfl, upd_same, ht4.same (mk_same0 nm nd), SqX.same (.inl (SqL.of e4)) (mk_same0 nm nd), hn4, fun z ez e H5 he s5 ex => ?_, fun en H5 sb5 hmA => ⟨rfl, ?_⟩⟩⟩
    · rw [ff] at ez
      split at ez
      · rename_i hc
        cases ez
        exact hE hc e H5 ((sH.trans (mk_same0 nm nd)).free he) ((sH.trans (mk_same0 nm nd)).trans s5) ex
      · cases ez
    · rw [ff] at en
      split at en
      · cases en
      · rename_i hc
        exact hq (by simpa using hc) m' t' H5 (sH.free nm) (sH.trans (mk_same nm nd sb5)) hmA
end
end Ts

set_option maxRecDepth 100000
set_option maxHeartbeats 4000000
namespace Ts
open PySem L2
/-! ### goals -/
def foldL (rs : List Row) : List Str := (rs.filter fun r => decide (r.ki = ("folder" : Str))).map (·.nm)
theorem mem_foldL {rs : List Row} {z : Str} : z ∈ foldL rs ↔ ∃ q ∈ rs, q.nm = z ∧ q.ki = ("folder" : Str) := by
  unfold foldL
  rw [List.mem_map]
  refine ⟨fun ⟨q, hq, e⟩ => ?_, fun ⟨q, hq, e1, e2⟩ => ⟨q, List.mem_filter.mpr ⟨hq, decide_eq_true e2⟩, e1⟩⟩
  obtain ⟨h1, h2⟩ := List.mem_filter.mp hq
  exact ⟨q, h1, e, of_decide_eq_true h2⟩
theorem foldL_len (rs : List Row) : (foldL rs).length ≤ rs.length := by unfold foldL; rw [List.length_map]; exact List.length_filter_le _ _
def gOk (rs : List Row) (z f : Str) : Bool := decide (f ≠ z) && !decide (f ∈ belowL rs z)
def goalsL (rs : List Row) (z : Str) : List Str := "top" :: (foldL rs).filter (gOk rs z)
def spGoals (C : Addr) : Sp := fun vs H Q _ => ∃ (t : Addr) (z : Str) (rs : List Row), vs = [.ref t, .str z] ∧ TreeAt C H t rs ∧ z ∈ names rs ∧ ∀ D H', H D = none → Same H H' → H' D = some (.lst ((goalsL rs z).map V.str)) → Q (.ref D) H'
/-- a list of texts that keeps some of others -/
theorem filter_moreS {ns : List Str} {i : Nat} {z : Str} (h : ns[i]? = some z) (p : Str → Bool) : (ns.take (i + 1)).filter p = (ns.take i).filter p ++ (if p z = true then [z] else []) := by
  rw [take_more h, List.filter_append, List.filter_cons, List.filter_nil]
section
variable {P : Program} {w : World} {K : PySem.W.Frag} {mg : Str → Option Value} {base : Heap} {C CM CL : Addr}
theorem kind_names {rs : List Row} (h : Valid rs) {i : Nat} {z : Str} (hz : (names rs)[i]? = some z) : ∃ r, rs[i]? = some r ∧ r.nm = z ∧ rowOf rs z = some r := by
  unfold names at hz
  rw [List.getElem?_map] at hz
  obtain ⟨r, hr, e⟩ := Option.map_eq_some_iff.mp hz
  exact ⟨r, hr, e, by rw [← e]; exact rowOf_at h hr⟩
abbrev nGoals : List Str := ["tree", "box", "below", "folders", "name"]
theorem sc_goals : FnScope nGoals ["tree", "box"] (defScope s_goals) := ⟨rfl, rfl, rfl, by decide +kernel, rfl, by decide +kernel, by decide +kernel⟩
theorem ok_goals (D : DefAt K mg "goals" s_goals ["tree", "box"]) (TC : TxC K mg) (T : TxT K mg C) (mB : MethAt K C "below" "Tree.below" s_Tree_below ["self", "box"]) (GB : FnOk P w K mg base CX0 5 mB.f mB.fd ["self", "box"] (spListOf C belowL))
    (mK : MethAt K C "kind" "Tree.kind" s_Tree_kind ["self", "box"]) (GK : FnOk P w K mg base CX0 4 mK.f mK.fd ["self", "box"] (spGet C fun r => .str r.ki)) : FnOk P w K mg base CX0 6 D.f D.fd ["tree", "box"] (spGoals C) := by
  obtain ⟨t1, gT⟩ := TC.top
  obtain ⟨t2, gF⟩ := TC.folder
  refine D.F.ok sc_goals (fun vs H Q E h => ?_) (fun cdv A outer s H vs Q E hr h => ?_)
  · obtain ⟨t, z, rs, rfl, _⟩ := h
    rfl
  · obtain ⟨t, z, rs, rfl, ht, hz, hq⟩ := h
    have r4 : Room 4 _ := hr.mono (by decide)
    have hv := ht.val
    have l100 := ht.len
    obtain ⟨dx, q, f, k, p, qs, h1, h2, h3, h4, h5, h6⟩ := id ht.ex
    refine ⟨_, pss_cons (ps_set (i := 2) sc_goals.nd rfl (.inr rfl) (pe_meth (pv 0) T.cl mB.m GB hr mB.b .nil pass0 (pa_cons (pv 1) pa_nil)))
      (pss_cons (ps_setLc (i := 3) (own := [("name", 4)]) (g := gName 4) (tt := tTest (tOp rEq (tMeth C "kind" (spGet C fun r => .str r.ki) [] E0 (tVar 0) (tCons (tVar 4) tNil)) (tC (.str "folder")))) (te := tVar 4) rfl sc_goals.nd rfl rfl (sw_true rfl rfl rfl (by decide +kernel)) (pi_list (pe_meth (pv 0) T.cl mB.m GB hr mB.b .nil pass0 (pa_cons (pe_glob (by rfl) gT (v := .str ("top" : Str)) ⟨_, rfl⟩) pa_nil))) (blkOk_by (N := nGoals) (sc := defScope s_goals) (by decide +kernel))
        (fun _ _ _ _ _ => pg_name (i := 4) sc_goals.nd rfl (Or.inl rfl)) (fun _ _ _ _ _ => by exact pts_one (pt_cmpR op_eq (pe_meth (pv 0) T.cl mK.m GK r4 mK.b .nil pass0 (pa_cons (pv 4) pa_nil)) (pe_glob (by rfl) gF (v := .str ("folder" : Str)) ⟨_, rfl⟩) (nomark _))) (fun _ _ _ _ _ => pv 4))
      (pss_one (ps_ret (pe_op op_cat (pe_lst (pa_cons (pe_glob (by rfl) gT (v := .str ("top" : Str)) ⟨_, rfl⟩) pa_nil)) (pe_lc (own := [("name", 4)]) (g := gName 4) (tt := tAnd (tTest (tOp rNe (tVar 4) (tVar 1))) (tTest (tOp (rIn K true) (tVar 4) (tVar 2)))) (te := tVar 4) rfl sc_goals.nd (pi_list (pv 3)) (blkOk_by (N := nGoals) (sc := defScope s_goals) (by decide +kernel))
        (fun _ _ _ _ _ => pg_name (i := 4) sc_goals.nd rfl (Or.inl rfl)) (fun _ _ _ _ _ => by exact pts_one (PW.pt (pw_and (pt_cmpR op_ne (pv 4) (pv 1) (nomark _)) (pw_and1 (pt_cmpR op_notIn_seq (pv 4) (pv 2) (by rfl)))))) (fun _ _ _ _ _ => pv 4)))))), ?_⟩
    have noB : (tf q f k p).lookup ("below" : Str) = none := tf_no _ _ _ _ (by decide +kernel) (by decide +kernel) (by decide +kernel) (by decide +kernel)
    have noK : (tf q f k p).lookup ("kind" : Str) = none := tf_no _ _ _ _ (by decide +kernel) (by decide +kernel) (by decide +kernel) (by decide +kernel)
    refine ⟨_, rfl, t, dx, _, rfl, h1, noB, _, rfl, t, z, rs, rfl, ht, .inr hz, fun bl H1 hbl s1 e1 => ?_⟩
    refine ⟨_, rfl, t, dx, _, rfl, s1 _ _ h1, noB, t, ("top" : Str), rs, rfl, ht.same s1, .inl rfl, fun al H2 hal s2 e2 => ?_⟩
    rw [below_top hv] at e2
    have sA := s1.trans s2
    refine ⟨al, rfl, ⟨_, SqL.of e2⟩, fun Df hDf => ?_⟩
    have lnN : (names rs).length ≤ 100 := by unfold names; rw [List.length_map]; exact l100
    refine lc_list (K := K) (a := al) (xs := (names rs).map V.str) (fun i H' => Same H2 H' ∧ H' Df = some (.lst ((foldL (rs.take i)).map V.str))) ⟨Same.new hDf, upd_same⟩ (fun i H' _ m => m.1.seq (SqL.of e2)) ?_ ?_
    · rintro i x H7 hx ⟨s7, e7⟩
      rw [List.getElem?_map] at hx
      obtain ⟨u, hu, rfl⟩ := Option.map_eq_some_iff.mp hx
      obtain ⟨r, hr', rfl, hro⟩ := kind_names hv hu
      refine ⟨rfl, _, rfl, t, dx, _, rfl, s7 _ _ (sA _ _ h1), noK, _, rfl, t, r.nm, rs, r, rfl, (ht.same sA).same s7, hro, rfl, _, rfl, ?_⟩
      refine ite2 (fun hi => ?_) (fun hi => ?_)
      · have hk : r.ki = ("folder" : Str) := V.str.inj (of_decide_eq_true hi)
        refine ⟨_, rfl, _, e7, small1000 (by rw [List.length_map]; have := foldL_len (rs.take i); rw [List.length_take] at this; omega), fun b o eb => ?_, ?_⟩
        · rw [upd_ne (fun y => by rw [y, hDf] at eb; cases eb)]
          exact s7 _ _ eb
        · unfold foldL
          rw [upd_same, filter_take hr', if_pos (decide_eq_true hk), List.map_append]; rfl
      · have hk : ¬ r.ki = ("folder" : Str) := fun e => hi (decide_eq_true (congrArg V.str e))
        refine ⟨s7, ?_⟩
        unfold foldL
        rw [filter_take hr', if_neg (fun q => hk (of_decide_eq_true q)), List.append_nil]
        exact e7
    rintro H3 ⟨s3, e3⟩
    rw [List.length_map, show (names rs).length = rs.length from by unfold names; rw [List.length_map], List.take_length] at e3
    have sB := sA.trans s3
    refine ⟨(by show 1 ≤ sizeLine; decide), fun l1 hl1 => ?_⟩
    have s4 : Same H3 (upd H3 l1 (.lst [V.str ("top" : Str)])) := Same.new hl1
    have e4 : (upd H3 l1 (.lst [V.str ("top" : Str)])) l1 = some (.lst [V.str ("top" : Str)]) := upd_same
    generalize upd H3 l1 (.lst [V.str ("top" : Str)]) = H4 at s4 e4
    have eB4 := s4 _ _ (s3 _ _ (s2 _ _ e1))
    have eF4 := s4 _ _ e3
    have sC := sB.trans s4
    have lf := foldL_len rs
    refine ⟨_, rfl, Df, rfl, ⟨_, SqL.of eF4⟩, fun Dg hDg => ?_⟩
    refine lc_list (K := K) (a := Df) (xs := (foldL rs).map V.str) (fun i H' => Same H4 H' ∧ H' Dg = some (.lst ((((foldL rs).take i).filter (gOk rs z)).map V.str))) ⟨Same.new hDg, upd_same⟩ (fun i H' _ m => m.1.seq (SqL.of eF4)) ?_ ?_
    · rintro i x H7 hx ⟨s7, e7⟩
      rw [List.getElem?_map] at hx
      obtain ⟨u, hu, rfl⟩ := Option.map_eq_some_iff.mp hx
      have sz : (((foldL rs).take i).filter (gOk rs z)).length ≤ 100 := by
        have h1 := List.length_filter_le (gOk rs z) ((foldL rs).take i)
        rw [List.length_take] at h1
        omega
      have skip : gOk rs z u = false → H7 Dg = some (.lst ((((foldL rs).take (i + 1)).filter (gOk rs z)).map V.str)) := fun g => by
        rw [filter_moreS hu, if_neg (by rw [g]; exact Bool.false_ne_true), List.append_nil]; exact e7
      refine ⟨rfl, _, rfl, _, rfl, rfl, _, rfl, ?_⟩
      refine ite2 (fun hc => ?_) (fun hc => ?_)
      · have ne : u ≠ z := fun e => by rw [e] at hc; simp at hc
        refine ⟨_, rfl, _, rfl, bl, _, rfl, .inl (SqL.of (s7 _ _ eB4)), rfl, flat_strs _, _, rfl, ?_⟩
        have e : (if true = true then !inV (.str u) ((belowL rs z).map V.str) else inV (.str u) ((belowL rs z).map V.str)) = gOk rs z u := by
          rw [if_pos rfl, inV_strs]
          unfold gOk
          rw [decide_eq_true ne, Bool.true_and]
        rw [e]
        refine ite2 (fun hi => ?_) (fun hi => ?_)
        · refine ⟨_, rfl, _, e7, small1000 (by rw [List.length_map]; omega), fun b o eb => ?_, ?_⟩
          · rw [upd_ne (fun y => by rw [y, hDg] at eb; cases eb)]
            exact s7 _ _ eb
          · rw [upd_same, filter_moreS hu, if_pos hi, List.map_append]; rfl
        · exact ⟨s7, skip (by simpa using hi)⟩
      · have ne : u = z := Classical.byContradiction fun e => hc (by
          show (!decide (V.str u = V.str z)) = true
          rw [decide_eq_false (fun q => e (V.str.inj q))]; rfl)
        refine iteF ⟨s7, skip ?_⟩
        unfold gOk
        rw [ne, decide_eq_false (fun h => h rfl), Bool.false_and]
    rintro H5 ⟨s5, e5⟩
    rw [List.length_map, List.take_length] at e5
    have lg : ((foldL rs).filter (gOk rs z)).length ≤ 100 := by have := List.length_filter_le (gOk rs z) (foldL rs); omega
    refine ⟨l1, Dg, _, _, rfl, rfl, s5 _ _ e4, e5, szl (by rw [List.length_map]; show 1 + _ ≤ 1000; omega), fun D hD => ?_⟩
    exact hq D _ ((sC.trans s5).free hD) ((sC.trans s5).trans (Same.new hD)) (by rw [upd_same]; rfl)
end
end Ts

set_option maxRecDepth 100000
set_option maxHeartbeats 4000000
namespace Ts
open PySem L2
/-! ### unlike moves -/
structure PrAt (H : Hp) (as : List Addr) (ps : List (Str × Str)) : Prop where
  len : as.length = ps.length
  at_ : ∀ (i : Nat) (a : Addr) (p : Str × Str), as[i]? = some a → ps[i]? = some p → H a = some (.tup [.str p.1, .str p.2])
theorem PrAt.nil {H : Hp} : PrAt H [] [] := ⟨rfl, fun i a p ha => by simp at ha⟩
theorem PrAt.keep {H H' : Hp} {as : List Addr} {ps : List (Str × Str)} (h : PrAt H as ps) (s : ∀ b xs, H b = some (.tup xs) → H' b = some (.tup xs)) : PrAt H' as ps := ⟨h.len, fun i a p ha hp => s _ _ (h.at_ i a p ha hp)⟩
theorem PrAt.snoc {H : Hp} {as : List Addr} {ps : List (Str × Str)} {a : Addr} {p : Str × Str} (h : PrAt H as ps) (ha : H a = some (.tup [.str p.1, .str p.2])) : PrAt H (as ++ [a]) (ps ++ [p]) := by
  refine ⟨by rw [List.length_append, List.length_append, h.len]; rfl, fun i b q hb hq => ?_⟩
  by_cases c : i < as.length
  · rw [List.getElem?_append_left c] at hb
    rw [List.getElem?_append_left (by rw [← h.len]; exact c)] at hq
    exact h.at_ i b q hb hq
  · rw [List.getElem?_append_right (by omega)] at hb
    rw [List.getElem?_append_right (by rw [← h.len]; omega), ← h.len] at hq
    have i0 : i - as.length = 0 := by
      have := (List.getElem?_eq_some_iff.mp hb).1
      have e : ([a] : List Addr).length = 1 := rfl
      omega
    rw [i0] at hb hq
    cases hb
    cases hq
    exact ha
def opensL (rs : List Row) : List Str := (rs.filter fun r => decide (r.pr ≠ none)).map (·.nm)
def apart (rs : List Row) (d : Bool) (ts : List Str) (r1 r2 z f : Str) : Bool := needs rs d ts z f r1 != needs rs d ts z f r2
def pairsOf (rs : List Row) (d : Bool) (ts : List Str) (r1 r2 z : Str) (l : List Str) : List (Str × Str) := (l.filter (apart rs d ts r1 r2 z)).map fun f => (z, f)
def unlikeL (rs : List Row) (d : Bool) (ts : List Str) (r1 r2 : Str) (l : List Str) : List (Str × Str) := l.flatMap fun z => pairsOf rs d ts r1 r2 z (goalsL rs z)
theorem unlikeL_more {rs : List Row} {d : Bool} {ts : List Str} {r1 r2 z : Str} {l : List Str} {i : Nat} (h : l[i]? = some z) : unlikeL rs d ts r1 r2 (l.take (i + 1)) = unlikeL rs d ts r1 r2 (l.take i) ++ pairsOf rs d ts r1 r2 z (goalsL rs z) := by
  unfold unlikeL
  rw [take_more h, List.flatMap_append, List.flatMap_cons, List.flatMap_nil, List.append_nil]
theorem pairsOf_more {rs : List Row} {d : Bool} {ts : List Str} {r1 r2 z f : Str} {l : List Str} {i : Nat} (h : l[i]? = some f) : pairsOf rs d ts r1 r2 z (l.take (i + 1)) = pairsOf rs d ts r1 r2 z (l.take i) ++ (if apart rs d ts r1 r2 z f = true then [(z, f)] else []) := by
  unfold pairsOf
  rw [filter_moreS h, List.map_append]
  split <;> rfl
theorem goalsL_len (rs : List Row) (z : Str) : (goalsL rs z).length ≤ rs.length + 1 := by
  unfold goalsL
  rw [List.length_cons]
  have h1 := List.length_filter_le (gOk rs z) (foldL rs)
  have h2 := foldL_len rs
  omega
theorem goals_place {rs : List Row} {z f : Str} (h : f ∈ goalsL rs z) : f = ("top" : Str) ∨ f ∈ names rs := by
  rcases List.mem_cons.mp h with e | h
  · exact .inl e
  · obtain ⟨q, hq, e, _⟩ := mem_foldL.mp (List.mem_filter.mp h).1
    exact .inr (List.mem_map.mpr ⟨q, hq, e⟩)
theorem MeanAt.sb {C CM : Addr} {H H' : Hp} {m t D : Addr} {rs : List Row} {d : Bool} {ts : List Str} {xs : List V} (h : MeanAt C CM H m t rs d ts) (e : H D = some (.lst xs)) (s : SB D H H') : MeanAt C CM H' m t rs d ts := by
  have w : ∀ {b : Addr} {o : HO}, H b = some o → (∀ xs, o ≠ .lst xs) → H' b = some o := fun {b o} e1 no => s b o (fun eb => by rw [eb, e] at e1; exact no _ (Option.some.inj e1).symm) e1
  obtain ⟨dx, u, k, h1, h2, h3⟩ := h.ex
  obtain ⟨tdx, q, f, tk, p, qs, g1, g2, g3, g4, g5, g6⟩ := h.tree.ex
  exact ⟨⟨dx, u, k, w h1 (fun _ h => by cases h), w h2 (fun _ h => by cases h), w h3 (fun _ h => by cases h)⟩, ⟨⟨tdx, q, f, tk, p, qs, w g1 (fun _ h => by cases h), w g2 (fun _ h => by cases h), ⟨g3.len, fun i b r hb hr => w (g3.at_ i b r hb hr) (fun _ h => by cases h)⟩, w g4 (fun _ h => by cases h), w g5 (fun _ h => by cases h), w g6 (fun _ h => by cases h)⟩, h.tree.val, h.tree.len⟩, h.norm⟩
def spUnlikeM (C CM : Addr) : Sp := fun vs H Q _ => ∃ (m t : Addr) (r1 r2 : Str) (rs : List Row) (d : Bool) (ts : List Str), vs = [.ref m, .str r1, .str r2] ∧ MeanAt C CM H m t rs d ts ∧ rs.length ≤ 30 ∧ r1 ∈ rules3 ∧ r2 ∈ rules3 ∧
  ∀ D as H', H D = none → Same H H' → H' D = some (.lst (as.map V.ref)) → PrAt H' as (unlikeL rs d ts r1 r2 (opensL rs)) → Q (.ref D) H'
section
variable {P : Program} {w : World} {K : PySem.W.Frag} {mg : Str → Option Value} {base : Heap} {C CM CL : Addr}
abbrev nUnlike : List Str := ["meaning", "rule", "other", "pairs", "box", "folder", "name"]
theorem sc_unlikeM : FnScope nUnlike ["meaning", "rule", "other"] (defScope s_unlike_moves) := ⟨rfl, rfl, rfl, by decide +kernel, rfl, by decide +kernel, by decide +kernel⟩
theorem ok_unlikeM (D : DefAt K mg "unlike_moves" s_unlike_moves ["meaning", "rule", "other"]) (TC : TxC K mg) (T : TxT K mg C) (M : TxM K mg CM) (Dr : DefAt K mg "check_rule" s_check_rule ["thing"]) (Gr : FnOk P w K mg base CX0 2 Dr.f Dr.fd ["thing"] spRule)
    (Dg : DefAt K mg "goals" s_goals ["tree", "box"]) (Gg : FnOk P w K mg base CX0 6 Dg.f Dg.fd ["tree", "box"] (spGoals C))
    (Dt : DefAt K mg "turns_behind" s_turns_behind ["meaning", "box", "folder", "rule"]) (Gt : FnOk P w K mg base CX0 6 Dt.f Dt.fd ["meaning", "box", "folder", "rule"] (spBehindT C CM))
    (mB : MethAt K C "below" "Tree.below" s_Tree_below ["self", "box"]) (GB : FnOk P w K mg base CX0 5 mB.f mB.fd ["self", "box"] (spListOf C belowL))
    (mP : MethAt K C "price" "Tree.price" s_Tree_price ["self", "box"]) (GP : FnOk P w K mg base CX0 4 mP.f mP.fd ["self", "box"] (spGet C fun r => prV r.pr)) : FnOk P w K mg base CX0 7 D.f D.fd ["meaning", "rule", "other"] (spUnlikeM C CM) := by
  obtain ⟨t1, gT⟩ := TC.top
  refine D.F.ok sc_unlikeM (fun vs H Q E h => ?_) (fun cdv A outer s H vs Q E hr h => ?_)
  · obtain ⟨m, t, r1, r2, rs, d, ts, rfl, _⟩ := h
    rfl
  · obtain ⟨m, t, r1, r2, rs, d, ts, rfl, hm, l30, hr1, hr2, hq⟩ := h
    have r2' : Room 2 _ := hr.mono (by decide)
    have r4 : Room 4 _ := hr.mono (by decide)
    have r5 : Room 5 _ := hr.mono (by decide)
    have hv := hm.tree.val
    obtain ⟨dx, u, k, h1, h2, h3⟩ := id hm.ex
    obtain ⟨tdx, tq, tfo, tk, tp, tqs, g1, _⟩ := id hm.tree.ex
    refine ⟨_, pss_cons (ps_expr (pe_call Gr r2' rfl Dr.g Dr.F.kp Dr.b .nil pass0 (pa_cons (pv 1) pa_nil)))
      (pss_cons (ps_expr (pe_call Gr r2' rfl Dr.g Dr.F.kp Dr.b .nil pass0 (pa_cons (pv 2) pa_nil)))
      (pss_cons (ps_set (i := 3) sc_unlikeM.nd rfl (.inl rfl) (pe_lst pa_nil))
      (pss_cons (ps_for PassesOwn.never rfl (pi_list (pe_lc (own := [("name", 6)]) (g := gName 6) (tt := tTest (tOp (fun x y H Q => y = .non ∧ Q (.bl (!decide (x = .non))) H) (tMeth C "price" (spGet C fun r => prV r.pr) [] E0 (tFld K (tVar 0) "tree") (tCons (tVar 6) tNil)) (tC .non))) (te := tVar 6) rfl sc_unlikeM.nd (pi_list (pe_meth (pe_fld (pv 0) rfl) T.cl mB.m GB r5 mB.b .nil pass0 (pa_cons (pe_glob (by rfl) gT (v := .str ("top" : Str)) ⟨_, rfl⟩) pa_nil))) (blkOk_by (N := nUnlike) (sc := defScope s_unlike_moves) (by decide +kernel))
          (fun _ _ _ _ _ => pg_name (i := 6) sc_unlikeM.nd rfl (Or.inl rfl)) (fun _ _ _ _ _ => by exact pts_one (pt_cmpR op_notN (pe_meth (pe_fld (pv 0) rfl) T.cl mP.m GP r4 mP.b .nil pass0 (pa_cons (pv 6) pa_nil)) pe_non (nomark _))) (fun _ _ _ _ _ => pv 6))) (pg_name (i := 4) sc_unlikeM.nd rfl (.inl rfl))
        (pss_one (ps_for PassesOwn.never rfl (pi_list (pe_call Gg hr rfl Dg.g Dg.F.kp Dg.b .nil pass0 (pa_cons (pe_fld (pv 0) rfl) (pa_cons (pv 4) pa_nil)))) (pg_name (i := 5) sc_unlikeM.nd rfl (.inl rfl))
          (pss_one (ps_if (pt_cmpR op_ne (pe_call Gt hr rfl Dt.g Dt.F.kp Dt.b .nil pass0 (pa_cons (pv 0) (pa_cons (pv 4) (pa_cons (pv 5) (pa_cons (pv 1) pa_nil))))) (pe_call Gt hr rfl Dt.g Dt.F.kp Dt.b .nil pass0 (pa_cons (pv 0) (pa_cons (pv 4) (pa_cons (pv 5) (pa_cons (pv 2) pa_nil))))) (nomark _))
            (pss_one (ps_expr (pe_bm PySem.F.plainAttrs_list PySem.F.slot_list_append PySem.F.type_list_append mt_append (pv 3) (pa_cons (pe_tup (pa_cons (pv 4) (pa_cons (pv 5) pa_nil))) pa_nil)))) pss_nil)))))
      (pss_one (ps_ret (pv 3)))))), ?_⟩
    have noB : (tf tq tfo tk tp).lookup ("below" : Str) = none := tf_no _ _ _ _ (by decide +kernel) (by decide +kernel) (by decide +kernel) (by decide +kernel)
    have noP : (tf tq tfo tk tp).lookup ("price" : Str) = none := tf_no _ _ _ _ (by decide +kernel) (by decide +kernel) (by decide +kernel) (by decide +kernel)
    refine ⟨_, rfl, r1, rfl, hr1, ?_⟩
    refine ⟨_, rfl, r2, rfl, hr2, ?_⟩
    refine ⟨(by show 0 ≤ sizeLine; decide), fun D hD => ?_⟩
    have sD : Same H (upd H D (.lst [])) := Same.new hD
    have eD : (upd H D (.lst [])) D = some (.lst []) := upd_same
    generalize upd H D (.lst []) = H1 at sD eD
    refine ⟨_, rfl, m, CM, dx, _, _, rfl, sD _ _ h1, M.cl, M.nt, mf_t _ _ _ _, t, tdx, _, rfl, sD _ _ g1, noB, t, ("top" : Str), rs, rfl, hm.tree.same sD, .inl rfl, fun al H2 hal s2 e2 => ?_⟩
    rw [below_top hv] at e2
    have sA := sD.trans s2
    refine ⟨al, rfl, ⟨_, SqL.of e2⟩, fun Do hDo => ?_⟩
    have lo : ∀ l : List Row, (opensL l).length ≤ l.length := fun l => by unfold opensL; rw [List.length_map]; exact List.length_filter_le _ _
    refine lc_list (K := K) (a := al) (xs := (names rs).map V.str) (fun i H' => Same H2 H' ∧ H' Do = some (.lst ((opensL (rs.take i)).map V.str))) ⟨Same.new hDo, upd_same⟩ (fun i H' _ m => m.1.seq (SqL.of e2)) ?_ ?_
    · rintro i x H7 hx ⟨s7, e7⟩
      rw [List.getElem?_map] at hx
      obtain ⟨z, hz, rfl⟩ := Option.map_eq_some_iff.mp hx
      obtain ⟨r, hr', rfl, hro⟩ := kind_names hv hz
      have s07 := sA.trans s7
      refine ⟨rfl, _, rfl, m, CM, dx, _, _, rfl, s07 _ _ h1, M.cl, M.nt, mf_t _ _ _ _, t, tdx, _, rfl, s07 _ _ g1, noP, _, rfl, t, r.nm, rs, r, rfl, hm.tree.same s07, hro, rfl, _, rfl, ?_⟩
      have pn : decide (prV r.pr = .non) = decide (r.pr = none) := by
        cases r.pr with
        | none => rfl
        | some n =>
          have e1 : ¬ (prV (some n) = V.non) := fun h => by cases h
          have e2 : ¬ (some n = (none : Option Int)) := fun h => by cases h
          rw [decide_eq_false e1, decide_eq_false e2]
      rw [pn]
      refine ite2 (fun hi => ?_) (fun hi => ?_)
      · have hk : r.pr ≠ none := fun e => by rw [e] at hi; simp at hi
        refine ⟨_, rfl, _, e7, small1000 (by rw [List.length_map]; have := lo (rs.take i); rw [List.length_take] at this; omega), fun b o eb => ?_, ?_⟩
        · rw [upd_ne (fun y => by rw [y, hDo] at eb; cases eb)]
          exact s7 _ _ eb
        · unfold opensL
          rw [upd_same, filter_take hr', if_pos (decide_eq_true hk), List.map_append]; rfl
      · have hk : r.pr = none := Classical.byContradiction fun e => hi (by rw [decide_eq_false e]; rfl)
        refine ⟨s7, ?_⟩
        unfold opensL
        rw [filter_take hr', if_neg (fun q => (of_decide_eq_true q : r.pr ≠ none) hk), List.append_nil]
        exact e7
    rintro H3 ⟨s3, e3⟩
    rw [List.length_map, show (names rs).length = rs.length from by unfold names; rw [List.length_map], List.take_length] at e3
    have sB := sA.trans s3
    have eD3 := s3 _ _ (s2 _ _ eD)
    have hm3 := hm.same sB
    have loR := lo rs
    refine ⟨Do, rfl, ⟨_, SqL.of e3⟩, ?_⟩
    have nDo : Do ≠ D := fun e => by rw [e] at hDo; rw [s2 _ _ eD] at hDo; cases hDo
    refine for_list (K := K) (a := Do) (xs := (opensL rs).map V.str) (fun i σ H' => ∃ (v4 v5 : Option V) (as : List Addr), σ = [some (.ref m), some (.str r1), some (.str r2), some (.ref D), v4, v5, none] ∧ SB D H3 H' ∧ H' D = some (.lst (as.map V.ref)) ∧ PrAt H' as (unlikeL rs d ts r1 r2 ((opensL rs).take i)) ∧ as.length ≤ 31 * i ∧ i ≤ 30) ⟨_, _, [], rfl, SB.refl _ _, eD3, PrAt.nil, Nat.zero_le _, Nat.zero_le _⟩ (fun i σ H' _ ⟨_, _, _, _, s, _⟩ => SqL.of (s _ _ nDo e3)) ?_ ?_
    · rintro i x σ H4 hx ⟨v4, v5, as, rfl, s4, eD4, pr4, ln4, i30⟩
      rw [List.getElem?_map] at hx
      obtain ⟨z, hzi, rfl⟩ := Option.map_eq_some_iff.mp hx
      have hi : i < 30 := by
        have := (List.getElem?_eq_some_iff.mp hzi).1
        omega
      have hz : z ∈ names rs := by
        obtain ⟨r, hr', e⟩ := List.mem_map.mp (List.mem_of_getElem? hzi)
        exact List.mem_map.mpr ⟨r, (List.mem_filter.mp hr').1, e⟩
      have hm4 := hm3.sb eD3 s4
      obtain ⟨dx4, u4, k4, h14, _⟩ := id hm4.ex
      obtain ⟨tdx4, _, _, _, _, _, g14, _⟩ := id hm4.tree.ex
      refine ⟨_, rfl, m, CM, dx4, _, _, rfl, h14, M.cl, M.nt, mf_t _ _ _ _, _, rfl, t, z, rs, rfl, hm4.tree, hz, fun G H5 hG s5 e5 => ⟨G, rfl, ⟨_, SqL.of e5⟩, ?_⟩⟩
      have nG : G ≠ D := fun e => by rw [e, eD4] at hG; cases hG
      have eD5 := s5 _ _ eD4
      have pr5 := pr4.keep (H' := H5) fun b xs e => s5 _ _ e
      have hm5 := hm4.same s5
      have lgl := goalsL_len rs z
      refine for_list (K := K) (a := G) (xs := (goalsL rs z).map V.str) (fun j σ H' => ∃ (v5 : Option V) (as : List Addr), σ = [some (.ref m), some (.str r1), some (.str r2), some (.ref D), some (.str z), v5, none] ∧ SB D H5 H' ∧ H' D = some (.lst (as.map V.ref)) ∧ PrAt H' as (unlikeL rs d ts r1 r2 ((opensL rs).take i) ++ pairsOf rs d ts r1 r2 z ((goalsL rs z).take j)) ∧ as.length ≤ 31 * i + j) ⟨_, as, rfl, SB.refl _ _, eD5, by rw [List.take_zero]; unfold pairsOf; rw [List.filter_nil, List.map_nil, List.append_nil]; exact pr5, by omega⟩ (fun j σ H' _ ⟨_, _, _, s, _⟩ => SqL.of (s _ _ nG e5)) ?_ ?_
      · rintro j y σ H6 hy ⟨v5', as6, rfl, s6, eD6, pr6, ln6⟩
        rw [List.getElem?_map] at hy
        obtain ⟨f, hfj, rfl⟩ := Option.map_eq_some_iff.mp hy
        have hj := (List.getElem?_eq_some_iff.mp hfj).1
        have hm6 := hm5.sb eD5 s6
        have pf := goals_place (List.mem_of_getElem? hfj)
        refine ⟨_, rfl, _, rfl, _, rfl, _, rfl, m, t, z, f, r1, rs, d, ts, rfl, hm6, .inr hz, pf, hr1, _, rfl, _, rfl, _, rfl, _, rfl, m, t, z, f, r2, rs, d, ts, rfl, hm6, .inr hz, pf, hr2, rfl, _, rfl, ?_⟩
        have ap : (!decide (V.bl (needs rs d ts z f r1) = V.bl (needs rs d ts z f r2))) = apart rs d ts r1 r2 z f := by
          unfold apart
          cases needs rs d ts z f r1 <;> cases needs rs d ts z f r2 <;> rfl
        rw [ap]
        refine ite2 (fun hc => ?_) (fun hc => ?_)
        · refine ⟨_, rfl, .inl ⟨rfl, _, SqL.of eD6⟩, _, rfl, _, rfl, (by show 2 ≤ sizeLine; decide), fun q hq => ⟨D, _, _, rfl, rfl, (Same.new hq) _ _ eD6, small1000 (by rw [List.length_map]; omega), ?_⟩⟩
          have nq : q ≠ D := fun e => by rw [e, eD6] at hq; cases hq
          refine ⟨_, as6 ++ [q], rfl, fun b o nb e => ?_, by rw [upd_same, List.map_append]; rfl, ?_, by rw [List.length_append]; show _ + 1 ≤ _; omega⟩
          · rw [upd_ne nb]; exact (Same.new hq) _ _ (s6 b o nb e)
          · rw [pairsOf_more hfj, if_pos hc, ← List.append_assoc]
            refine PrAt.snoc (pr6.keep fun b xs e => ?_) ?_
            · rw [upd_ne (fun z => by rw [z, eD6] at e; cases e)]
              exact (Same.new hq) _ _ e
            · rw [upd_ne nq]; exact upd_same
        · refine ⟨_, as6, rfl, s6, eD6, ?_, by omega⟩
          rw [pairsOf_more hfj, if_neg hc, List.append_nil]
          exact pr6
      · rintro σ H6 ⟨v5', as6, rfl, s6, eD6, pr6, ln6⟩
        rw [List.length_map] at ln6 pr6
        rw [List.take_length] at pr6
        refine ⟨_, _, as6, rfl, fun b o nb e => s6 b o nb (s5 _ _ (s4 b o nb e)), eD6, ?_, by omega, by omega⟩
        rw [unlikeL_more hzi]
        exact pr6
    rintro σ H4 ⟨v4, v5, as, rfl, s4, eD4, pr4, _⟩
    rw [List.length_map, List.take_length] at pr4
    refine ⟨_, rfl, hq D as H4 hD (fun b o e => s4 b o (ne_of_none e hD) (sB b o e)) eD4 pr4⟩
end
end Ts

set_option maxRecDepth 100000
set_option maxHeartbeats 4000000
namespace Ts
open PySem L2
/-! ### own operators between two objects of one class -/
def rBinC (C : Addr) (sp : Sp) (E : XK) : R2 := fun x y H Q => ∃ (a b dx dy : Addr) (fs gs : List (Str × V)), x = .ref a ∧ y = .ref b ∧ H a = some (.ins C dx fs) ∧ H b = some (.ins C dy gs) ∧ sp [.ref a, .ref b] H (fun v H' => ∃ r : Addr, v = .ref r ∧ Q v H') E
def rInvC (C : Addr) (sp : Sp) (E : XK) : V → Hp → VK → Prop := fun x H Q => ∃ (a dx : Addr) (fs : List (Str × V)), x = .ref a ∧ H a = some (.ins C dx fs) ∧ sp [.ref a] H Q E
section
variable {X : Cx} {k : Nat} {C f : Addr} {fd : FuncData} {ps : List Str} {sp : Sp} {CX : CXT} {E : XK}
theorem op_binC {op : Operator} {nm : Str} (F : FnOk X.prog X.w X.K X.mg X.base CX k f fd ps sp) (m : Meth X.K C nm f) (hn : PySem.dunder op.info.2 = nm) (hc : PySem.W.selfFirst X.K C = true) (hr : Room k X.A) (hb : Binds X.K fd ps []) (hx : Passes CX X E) : OpR X (binaryOp op) (rBinC C sp E) := by
  intro pins s σ H x y v u Q I rx ry hq
  obtain ⟨a, b, dx, dy, fs, gs, rfl, rfl, ha, hb', hsp⟩ := hq
  cases rx
  cases ry
  obtain ⟨mA, J, _⟩ := ins_get I.hok ha
  obtain ⟨od, J, _⟩ := J.look
  obtain ⟨mm, hF⟩ := I.fr
  refine PySem.W.binop_K hF I.ok.mod.kin J (ty_looks I (show RelV (.ref b) (.ref b) from rfl) (.ins hb')) hc (by rw [hn]; exact m.at_) m.fn ?_
  refine wpAny_mono (run_at F hr rfl hb hx I (us := [.ref a, .ref b]) (.cons (show RelV (.ref a) (.ref a) from rfl) (.cons (show RelV (.ref b) (.ref b) from rfl) .nil)) hsp) (fun r s' hq => ?_) fun _ _ x => x
  obtain ⟨z, H', I', rz, q, rfl, hQ⟩ := hq
  cases rz
  exact ⟨.ref q, H', I', rfl, hQ⟩
theorem un_invC (F : FnOk X.prog X.w X.K X.mg X.base CX k f fd ps sp) (m : Meth X.K C "__invert__" f) (hr : Room k X.A) (hb : Binds X.K fd ps []) (hx : Passes CX X E) : UnR X (unaryOp .Invert) (rInvC C sp E) := by
  intro pins s σ H x v Q I rx hq
  obtain ⟨a, dx, fs, rfl, ha, hsp⟩ := hq
  cases rx
  obtain ⟨mA, J, _⟩ := ins_get I.hok ha
  obtain ⟨od, J, _⟩ := J.look
  obtain ⟨mm, hF⟩ := I.fr
  exact PySem.W.ksp_inv hF I.ok.mod.kin J m.at_ m.fn (run_at F hr rfl hb hx I (us := [.ref a]) (.cons (show RelV (.ref a) (.ref a) from rfl) .nil) hsp)
end
end Ts

set_option maxRecDepth 100000
set_option maxHeartbeats 4000000
namespace Ts
open PySem L2
/-! ### meanings by their values -/
/-- the turns that give these values -/
def turnsG (rs : List Row) (v : Str → Bool) : List Str := (rs.filter fun r => decide (v r.nm ≠ v r.fo)).map (·.nm)
theorem row_same {rs : List Row} (hv : Valid rs) {r q : Row} (hr : r ∈ rs) (hq : q ∈ rs) (e : r.nm = q.nm) : r = q := by
  obtain ⟨i, hi, e1⟩ := List.mem_iff_getElem.mp hr
  obtain ⟨j, hj, e2⟩ := List.mem_iff_getElem.mp hq
  have h1 := rowOf_at hv (i := i) (r := r) (by rw [← e1]; exact List.getElem?_eq_getElem hi)
  have h2 := rowOf_at hv (i := j) (r := q) (by rw [← e2]; exact List.getElem?_eq_getElem hj)
  rw [e, h2] at h1
  exact (Option.some.inj h1).symm
theorem mem_turnsG {rs : List Row} (hv : Valid rs) {v : Str → Bool} {r : Row} (hr : r ∈ rs) : r.nm ∈ turnsG rs v ↔ v r.nm ≠ v r.fo := by
  unfold turnsG
  constructor
  · intro h
    obtain ⟨q, hq, e⟩ := List.mem_map.mp h
    rw [List.mem_filter, decide_eq_true_eq] at hq
    rw [row_same hv hr hq.1 e.symm]
    exact hq.2
  · intro h
    exact List.mem_map.mpr ⟨r, List.mem_filter.mpr ⟨hr, decide_eq_true h⟩, rfl⟩
theorem turnsG_sub (rs : List Row) (v : Str → Bool) : (turnsG rs v).Sublist (names rs) := List.Sublist.map _ List.filter_sublist
theorem val_turnsG {rs : List Row} (hv : Valid rs) (v : Str → Bool) : ∀ z ∈ plc rs, valOf rs (v "top") (turnsG rs v) z = v z := by
  have key : ∀ n : Nat, ∀ i, i < n → ∀ r, rs[i]? = some r → valOf rs (v "top") (turnsG rs v) r.nm = v r.nm := by
    intro n
    induction n with
    | zero => intro i hi; omega
    | succ n ih =>
      intro i hi r hr
      have hrm := List.mem_of_getElem? hr
      have hfo : valOf rs (v "top") (turnsG rs v) r.fo = v r.fo := by
        rcases hv.fo hr with e | e
        · rw [e, val_top hv]
        · obtain ⟨q, hq, e2⟩ := List.mem_map.mp e
          obtain ⟨j, hj, e3⟩ := List.mem_take_iff_getElem.mp hq
          rw [← e2]
          exact ih j (by omega) q (by rw [← e3]; exact List.getElem?_eq_getElem _)
      rw [val_step hv _ _ hrm, hfo]
      have e : decide (r.nm ∈ turnsG rs v) = decide (v r.nm ≠ v r.fo) := decide_eq_decide.mpr (mem_turnsG hv hrm)
      rw [e]
      cases v r.fo <;> cases v r.nm <;> rfl
  intro z hz
  rcases mem_plc.mp hz with rfl | hz
  · exact val_top hv _ _
  · obtain ⟨r, hr, rfl⟩ := List.mem_map.mp hz
    obtain ⟨i, hi, e⟩ := List.mem_iff_getElem.mp hr
    exact key (i + 1) i (by omega) r (by rw [← e]; exact List.getElem?_eq_getElem hi)
theorem fo_plc {rs : List Row} (hv : Valid rs) {r : Row} (hr : r ∈ rs) : r.fo ∈ plc rs := mem_plc.mpr (hv.foAll hr)
theorem nm_plc {rs : List Row} {r : Row} (hr : r ∈ rs) : r.nm ∈ plc rs := mem_plc.mpr (.inr (List.mem_map.mpr ⟨r, hr, rfl⟩))
structure MV (C CM : Addr) (H : Hp) (m t : Addr) (rs : List Row) (v : Str → Bool) : Prop where
  ex : ∃ (d : Bool) (ts : List Str), MeanAt C CM H m t rs d ts ∧ ∀ z ∈ plc rs, valOf rs d ts z = v z
  lk : ∀ r ∈ rs, r.pr = none → v r.nm = v r.fo
theorem MV.same {C CM : Addr} {H H' : Hp} {m t : Addr} {rs : List Row} {v : Str → Bool} (h : MV C CM H m t rs v) (s : Same H H') : MV C CM H' m t rs v := by
  obtain ⟨d, ts, hm, hv⟩ := h.ex
  exact ⟨⟨d, ts, hm.same s, hv⟩, h.lk⟩
theorem MV.at_ {C CM : Addr} {H : Hp} {m t : Addr} {rs : List Row} {v : Str → Bool} (h : MV C CM H m t rs v) : ∃ dx fs, H m = some (.ins CM dx fs) := by
  obtain ⟨d, ts, hm, hv⟩ := h.ex
  obtain ⟨dx, u, k, h1, _⟩ := hm.ex
  exact ⟨dx, _, h1⟩
theorem turns_of {rs : List Row} (hv : Valid rs) {d : Bool} {ts : List Str} {v : Str → Bool} (hn : ts = turnsL rs ts) (h : ∀ z ∈ plc rs, valOf rs d ts z = v z) : d = v "top" ∧ ts = turnsG rs v := by
  have h1 : turnsL rs (turnsG rs v) = turnsG rs v := turnsL_sub hv (turnsG_sub rs v)
  refine (val_all hv (d := d) (d2 := v "top") hn.symm h1).mp fun z hz => ?_
  rw [h z hz, val_turnsG hv v z hz]
theorem MV.turns {C CM : Addr} {H : Hp} {m t : Addr} {rs : List Row} {v : Str → Bool} (h : MV C CM H m t rs v) : MeanAt C CM H m t rs (v "top") (turnsG rs v) := by
  obtain ⟨d, ts, hm, hv⟩ := h.ex
  obtain ⟨e1, e2⟩ := turns_of hm.tree.val hm.norm hv
  rw [← e1, ← e2]
  exact hm
theorem MV.free {C CM : Addr} {H : Hp} {m t : Addr} {rs : List Row} {v : Str → Bool} (h : MV C CM H m t rs v) : ∀ z ∈ turnsG rs v, Free rs z := fun z hz => by
  have hv := h.turns.tree.val
  obtain ⟨r, hr, rfl⟩ := List.mem_map.mp hz
  rw [List.mem_filter, decide_eq_true_eq] at hr
  obtain ⟨i, hi, e⟩ := List.mem_iff_getElem.mp hr.1
  exact ⟨r, rowOf_at hv (by rw [← e]; exact List.getElem?_eq_getElem hi), fun q => hr.2 (h.lk r hr.1 q)⟩
theorem MV.valid {C CM : Addr} {H : Hp} {m t : Addr} {rs : List Row} {v : Str → Bool} (h : MV C CM H m t rs v) : Valid rs := h.turns.tree.val
/-- from a meaning -/
theorem MV.of {C CM : Addr} {H : Hp} {m t : Addr} {rs : List Row} {d : Bool} {ts : List Str} (h : MeanAt C CM H m t rs d ts) (hf : ∀ z ∈ ts, Free rs z) : MV C CM H m t rs (valOf rs d ts) := by
  refine ⟨⟨d, ts, h, fun _ _ => rfl⟩, fun r hr q => ?_⟩
  rw [val_step h.tree.val d ts hr]
  have : r.nm ∉ ts := fun hm => by
    obtain ⟨r2, e, hp⟩ := hf _ hm
    obtain ⟨i, hi, e2⟩ := List.mem_iff_getElem.mp hr
    rw [rowOf_at h.tree.val (i := i) (r := r) (by rw [← e2]; exact List.getElem?_eq_getElem hi)] at e
    cases e
    exact hp q
  rw [decide_eq_false this]
  cases valOf rs d ts r.fo <;> rfl
/-- a dict of values -/
def kvG (rs : List Row) (v : Str → Bool) : List (Key × V) := (plc rs).map fun z => ((.inr z : Key), V.bl (v z))
theorem kvM_kvG {rs : List Row} (hv : Valid rs) {d : Bool} {ts : List Str} {v : Str → Bool} (h : ∀ z ∈ plc rs, valOf rs d ts z = v z) : kvM rs d ts rs = kvG rs v := by
  unfold kvM kvG plc names kvF
  rw [List.map_cons, List.map_map]
  congr 1
  · rw [← h _ (mem_plc.mpr (.inl rfl)), val_top hv]
  · refine List.map_congr_left fun r hr => ?_
    show (Sum.inr r.nm, V.bl (valOf rs d ts r.nm)) = (Sum.inr r.nm, V.bl (v r.nm))
    rw [h _ (nm_plc hr)]
theorem valV_list (v : Str → Bool) {z : Str} : ∀ {l : List Str}, z ∈ l → valV (l.map fun z => ((.inr z : Key), V.bl (v z))) (.inr z : Key) = some (.bl (v z))
  | x :: l, hz => by
    rw [List.map_cons]
    by_cases e : x = z
    · subst e; rw [valV_pos rfl]
    · rw [valV_neg (fun q => e (Sum.inr.inj q))]
      exact valV_list v ((List.mem_cons.mp hz).resolve_left fun q => e q.symm)
theorem valV_kvG {rs : List Row} (v : Str → Bool) {z : Str} (hz : z ∈ plc rs) : valV (kvG rs v) (.inr z : Key) = some (.bl (v z)) := valV_list v hz
theorem kvG_at {rs : List Row} {v : Str → Bool} {j : Nat} {k : Key} {x : V} (h : (kvG rs v)[j]? = some (k, x)) : ∃ z : Str, k = .inr z ∧ (plc rs)[j]? = some z := by
  unfold kvG at h
  rw [List.getElem?_map] at h
  obtain ⟨z, hz, e⟩ := Option.map_eq_some_iff.mp h
  exact ⟨z, (Prod.mk.inj e).1.symm, hz⟩
theorem kvG_len (rs : List Row) (v : Str → Bool) : (kvG rs v).length = (plc rs).length := by unfold kvG; rw [List.length_map]
theorem plc_nodup {rs : List Row} (hv : Valid rs) : (plc rs).Nodup := by
  unfold plc
  rw [List.nodup_cons]
  exact ⟨top_not hv, hv.nodup⟩
/-- the values of the first places, one more -/
theorem kvP_more {l : List Str} (nd : l.Nodup) (v : Str → Bool) {i : Nat} {z : Str} (h : l[i]? = some z) : putK ((l.take i).map fun z => ((.inr z : Key), V.bl (v z))) (.inr z) (.bl (v z)) = (l.take (i + 1)).map fun z => ((.inr z : Key), V.bl (v z)) := by
  have hn : z ∉ l.take i := fun hm => by
    obtain ⟨j, hj, e⟩ := List.mem_take_iff_getElem.mp hm
    obtain ⟨hi, e2⟩ := List.getElem?_eq_some_iff.mp h
    have := (List.getElem_inj nd).mp (e.trans e2.symm)
    omega
  have hv : valV ((l.take i).map fun z => ((.inr z : Key), V.bl (v z))) (.inr z : Key) = none := by
    generalize l.take i = m at hn
    induction m with
    | nil => rfl
    | cons x m ih =>
      rw [List.map_cons, valV_neg (fun q => hn (by rw [Sum.inr.inj q]; exact List.mem_cons_self ..))]
      exact ih fun q => hn (List.mem_cons_of_mem _ q)
  rw [putK_new _ hv, take_more h, List.map_append]
  rfl
def eqV (rs : List Row) (v w : Str → Bool) : Bool := (plc rs).all fun z => v z == w z
theorem eqV_true {rs : List Row} {v w : Str → Bool} (h : ∀ z, v z = w z) : eqV rs v w = true := by
  unfold eqV
  rw [List.all_eq_true]
  intro z _
  rw [h z]; simp
theorem eqV_iff {rs : List Row} {v w : Str → Bool} : eqV rs v w = true ↔ ∀ z ∈ plc rs, v z = w z := by
  unfold eqV
  rw [List.all_eq_true]
  exact ⟨fun h z hz => by simpa using h z hz, fun h z hz => by simpa using h z hz⟩
def spBin (C CM : Addr) (f : Bool → Bool → Bool) : Sp := fun vs H Q _ => ∃ (m m2 t t2 : Addr) (rs : List Row) (v w : Str → Bool), vs = [.ref m, .ref m2] ∧ MV C CM H m t rs v ∧ MV C CM H m2 t2 rs w ∧ ∀ m3 H', Same H H' → MV C CM H' m3 t rs (fun z => f (v z) (w z)) → Q (.ref m3) H'
def spInv (C CM : Addr) : Sp := fun vs H Q _ => ∃ (m t : Addr) (rs : List Row) (v : Str → Bool), vs = [.ref m] ∧ MV C CM H m t rs v ∧ ∀ m3 H', Same H H' → MV C CM H' m3 t rs (fun z => !(v z)) → Q (.ref m3) H'
def spWith (C CM : Addr) : Sp := fun vs H Q _ => ∃ (t vd : Addr) (rs : List Row) (v : Str → Bool), vs = [.ref t, .ref vd] ∧ TreeAt C H t rs ∧ H vd = some (.dK (kvG rs v)) ∧ (∀ r ∈ rs, r.pr = none → v r.nm = v r.fo) ∧ ∀ m H', Same H H' → MV C CM H' m t rs v → Q (.ref m) H'
theorem rd_bin {C CM : Addr} {H : Hp} {m m2 t t2 : Addr} {rs : List Row} {v w : Str → Bool} {f : Bool → Bool → Bool} {E : XK} {Q : VK} (h1 : MV C CM H m t rs v) (h2 : MV C CM H m2 t2 rs w) (k : ∀ m3 H', Same H H' → MV C CM H' m3 t rs (fun z => f (v z) (w z)) → Q (.ref m3) H') : rBinC CM (spBin C CM f) E (.ref m) (.ref m2) H Q := by
  obtain ⟨dx, fs, e1⟩ := h1.at_
  obtain ⟨dy, gs, e2⟩ := h2.at_
  exact ⟨m, m2, dx, dy, fs, gs, rfl, rfl, e1, e2, m, m2, t, t2, rs, v, w, rfl, h1, h2, fun m3 H' s mv => ⟨m3, rfl, k m3 H' s mv⟩⟩
theorem rd_inv {C CM : Addr} {H : Hp} {m t : Addr} {rs : List Row} {v : Str → Bool} {E : XK} {Q : VK} (h1 : MV C CM H m t rs v) (k : ∀ m3 H', Same H H' → MV C CM H' m3 t rs (fun z => !(v z)) → Q (.ref m3) H') : rInvC CM (spInv C CM) E (.ref m) H Q := by
  obtain ⟨dx, fs, e1⟩ := h1.at_
  exact ⟨m, dx, fs, rfl, e1, m, t, rs, v, rfl, h1, k⟩
theorem eq_eqV {rs : List Row} (hv : Valid rs) (v w : Str → Bool) : (decide (rs = rs) && (decide (v "top" = w "top") && decide (turnsG rs v = turnsG rs w))) = eqV rs v w := by
  rw [decide_eq_true (rfl : rs = rs), Bool.true_and, Bool.eq_iff_iff, Bool.and_eq_true, decide_eq_true_eq, decide_eq_true_eq, eqV_iff, ← val_all hv (turnsL_sub hv (turnsG_sub rs v)) (turnsL_sub hv (turnsG_sub rs w))]
  exact ⟨fun h z hz => by have := h z hz; rw [val_turnsG hv v z hz, val_turnsG hv w z hz] at this; exact this, fun h z hz => by rw [val_turnsG hv v z hz, val_turnsG hv w z hz]; exact h z hz⟩
theorem rd_eq {K : PySem.W.Frag} {C CM : Addr} {H : Hp} {m m2 t t2 : Addr} {rs : List Row} {v w : Str → Bool} {E : XK} {Q : VK} (h1 : MV C CM H m t rs v) (h2 : MV C CM H m2 t2 rs w) (k : Q (.bl (eqV rs v w)) H) : rEqC K CM (spMEq K C CM) E (.ref m) (.ref m2) H Q := by
  obtain ⟨dx, fs, e1⟩ := h1.at_
  obtain ⟨dy, gs, e2⟩ := h2.at_
  refine ⟨m, dx, fs, .ref CM, rfl, e1, .ins e2, nfM, m, t, _, rs, _, _, rfl, h1.turns, .inl ⟨m2, t2, rs, _, _, rfl, h2.turns, _, rfl, ?_⟩⟩
  rw [eq_eqV h1.valid]
  exact k
theorem rd_ne {K : PySem.W.Frag} {C CM : Addr} {H : Hp} {m m2 t t2 : Addr} {rs : List Row} {v w : Str → Bool} {E : XK} {Q : VK} (h1 : MV C CM H m t rs v) (h2 : MV C CM H m2 t2 rs w) (k : Q (.bl (!eqV rs v w)) H) : rNeC K CM (spMEq K C CM) E (.ref m) (.ref m2) H Q := by
  obtain ⟨dx, fs, e1⟩ := h1.at_
  obtain ⟨dy, gs, e2⟩ := h2.at_
  refine ⟨m, dx, fs, .ref CM, rfl, e1, .ins e2, nfM, m, t, _, rs, _, _, rfl, h1.turns, .inl ⟨m2, t2, rs, _, _, rfl, h2.turns, _, rfl, ?_⟩⟩
  rw [eq_eqV h1.valid]
  exact k
theorem turned_not (ts : List Str) : ∀ (l : List Str) (d : Bool), turned (!d) ts l = !(turned d ts l)
  | [], _ => rfl
  | x :: l, d => by
    show turned (if x ∈ ts then !(!d) else !d) ts l = !(turned (if x ∈ ts then !d else d) ts l)
    rw [← turned_not ts l]
    by_cases h : x ∈ ts
    · rw [if_pos h, if_pos h]
    · rw [if_neg h, if_neg h]
end Ts

set_option maxRecDepth 100000
set_option maxHeartbeats 4000000
namespace Ts
open PySem L2
/-! ### there and back -/
def stuck (rs : List Row) (d : Bool) (ts : List Str) (b : Row) (fo rule : Str) : Bool := needs rs d ts b.nm fo rule && decide (b.pr = none)
def thereT (rs : List Row) (d : Bool) (ts : List Str) (b : Row) (fo rule : Str) : List Str := turnsL (movedL rs b fo) (turnsB rs d ts b.nm fo rule)
/-- whether the box needs a turn at home -/
def needsH (rs : List Row) (d : Bool) (ts : List Str) (b : Row) (fo rule : Str) : Bool := needs (movedL rs b fo) d (thereT rs d ts b fo rule) b.nm b.fo rule
def backR (rs : List Row) (d : Bool) (ts : List Str) (b : Row) (fo rule : Str) : Bool := needsH rs d ts b fo rule == decide (b.nm ∈ ts)
theorem home_out {rs : List Row} (h : Valid rs) {b : Row} (hb : b ∈ rs) : b.fo = ("top" : Str) ∨ ∃ q ∈ rs, q.nm = b.fo ∧ q.ki = ("folder" : Str) ∧ under rs b.nm q = false := by
  obtain ⟨i, hi, e⟩ := List.mem_iff_getElem.mp hb
  have hbi : rs[i]? = some b := by rw [← e]; exact List.getElem?_eq_getElem hi
  have f := h i b hbi
  rcases f.home with e | ⟨q, hq, e1, e2⟩
  · exact .inl e
  · refine .inr ⟨q, List.mem_of_mem_take hq, e1, e2, decide_eq_false fun hm => f.new ?_⟩
    exact way_pre h i (z := q.nm) (List.mem_map.mpr ⟨q, hq, rfl⟩) hm
theorem way_outM {rs : List Row} (h : Valid rs) {m : Row} {fo : Str} (hl : LetM rs m fo) : ∀ (i : Nat) (r : Row), rs[i]? = some r → under rs m.nm r = false → wayOf (movedL rs m fo) r.nm = wayOf rs r.nm := by
  have v' := moved_valid h hl.1 hl.2
  intro i
  induction i using Nat.strongRecOn with
  | _ i ih =>
    intro r hr hu
    have hrm := List.mem_of_getElem? hr
    have ne : r.nm ≠ m.nm := fun e => by rw [under_self h hrm e] at hu; cases hu
    have hr' := mem_moved h hl.1 hrm ne fo
    have fov : wayOf (movedL rs m fo) r.fo = wayOf rs r.fo := by
      rcases h.fo hr with e | e
      · rw [e, way_top v', way_top h]
      · obtain ⟨q, hq, eq⟩ := List.mem_map.mp e
        obtain ⟨j, hj, ej⟩ := List.mem_take_iff_getElem.mp hq
        have hjq : rs[j]? = some q := by rw [← ej]; exact List.getElem?_eq_getElem _
        have uq : under rs m.nm q = false := by
          cases u : under rs m.nm q with
          | false => rfl
          | true => rw [under_up h hrm (List.mem_of_getElem? hjq) eq u] at hu; cases hu
        rw [← eq]
        exact ih j (by omega) q hjq uq
    rw [way_step v' hr', way_step h hrm, fov]
theorem let_home {rs : List Row} (h : Valid rs) {b : Row} {fo : Str} (hl : LetM rs b fo) : LetM (movedL rs b fo) { b with fo := fo } b.fo := by
  refine ⟨moved_self rs b fo, ?_⟩
  rcases home_out h hl.1 with e | ⟨q, hq, e1, e2, e3⟩
  · exact .inl e
  · have ne : q.nm ≠ b.nm := fun e => by rw [under_self h hq e] at e3; cases e3
    refine .inr ⟨q, mem_moved h hl.1 hq ne fo, e1, e2, ?_⟩
    obtain ⟨i, hi, e⟩ := List.mem_iff_getElem.mp hq
    unfold under
    rw [way_outM h hl i q (by rw [← e]; exact List.getElem?_eq_getElem hi) e3]
    exact e3
theorem free_there {rs : List Row} (h : Valid rs) {b : Row} {fo rule : Str} {d : Bool} {ts : List Str} (hl : LetM rs b fo) (hf : ∀ z ∈ ts, Free rs z) (hs : stuck rs d ts b fo rule = false) : ∀ x ∈ turnsB rs d ts b.nm fo rule, Free (movedL rs b fo) x := fun x hx => by
  have hx1 := turnsB_names (d := d) hl.1 (fun z hz => (hf z hz).mem) x hx
  have ff := first_moved (rule := rule) (d := d) h hl hf
  rw [if_neg (by show ¬ stuck rs d ts b fo rule = true; rw [hs]; exact Bool.false_ne_true)] at ff
  refine lk_free (names_moved h hl hx1) ?_
  have := List.find?_eq_none.mp ff x hx
  simpa using this
theorem there_mem {rs : List Row} (h : Valid rs) {b : Row} {fo rule : Str} {d : Bool} {ts : List Str} (hl : LetM rs b fo) (hf : ∀ z ∈ ts, z ∈ names rs) (x : Str) : x ∈ thereT rs d ts b fo rule ↔ x ∈ turnsB rs d ts b.nm fo rule := by
  unfold thereT
  rw [mem_turnsL]
  exact ⟨fun e => e.2, fun e => ⟨names_moved h hl (turnsB_names hl.1 hf x e), e⟩⟩
/-- what is so at home, by what was so ahead -/
theorem needsH_eq {rs : List Row} (h : Valid rs) {b : Row} {fo rule : Str} {d : Bool} {ts : List Str} (hl : LetM rs b fo) (hf : ∀ z ∈ ts, z ∈ names rs) :
    needsH rs d ts b fo rule = if rule = "meant" then decide (b.nm ∈ ts) != ((valOf rs d ts fo != needs rs d ts b.nm fo rule) != valOf rs d ts b.nm) else if rule = "told" then needs rs d ts b.nm fo rule && (decide (b.nm ∈ ts) != ((valOf rs d ts fo != needs rs d ts b.nm fo rule) != valOf rs d ts b.nm)) else needs rs d ts b.nm fo rule := by
  have e1 : valOf (movedL rs b fo) d (thereT rs d ts b fo rule) b.nm = (valOf rs d ts fo != needs rs d ts b.nm fo rule) := by
    unfold thereT
    rw [val_norm, val_box h hl]
  have e2 : valOf (movedL rs b fo) d (thereT rs d ts b fo rule) b.fo = valOf rs d ts b.fo := by
    unfold thereT
    rw [val_norm]
    rcases home_out h hl.1 with e | ⟨q, hq, q1, q2, q3⟩
    · rw [e, val_top (moved_valid h hl.1 hl.2), val_top h]
    · rw [← q1]
      obtain ⟨i, hi, e⟩ := List.mem_iff_getElem.mp hq
      exact val_out h hl i q (by rw [← e]; exact List.getElem?_eq_getElem hi) q3
  have e3 : decide (b.nm ∈ thereT rs d ts b fo rule) = needs rs d ts b.nm fo rule := by
    rw [← turnsB_self (rs := rs)]
    exact decide_eq_decide.mpr (there_mem h hl hf _)
  have e4 := val_step h d ts hl.1
  have e5 : (valOf (movedL rs b fo) d (thereT rs d ts b fo rule) b.nm != valOf (movedL rs b fo) d (thereT rs d ts b fo rule) b.fo) = (decide (b.nm ∈ ts) != ((valOf rs d ts fo != needs rs d ts b.nm fo rule) != valOf rs d ts b.nm)) := by
    rw [e1, e2, e4]
    generalize valOf rs d ts b.fo = x
    generalize decide (b.nm ∈ ts) = y
    generalize (valOf rs d ts fo != needs rs d ts b.nm fo rule) = z
    cases x <;> cases y <;> cases z <;> rfl
  unfold needsH
  rw [show needs (movedL rs b fo) d (thereT rs d ts b fo rule) b.nm b.fo rule = (if rule = "meant" then valOf (movedL rs b fo) d (thereT rs d ts b fo rule) b.nm != valOf (movedL rs b fo) d (thereT rs d ts b fo rule) b.fo else if rule = "told" then decide (b.nm ∈ thereT rs d ts b fo rule) && (valOf (movedL rs b fo) d (thereT rs d ts b fo rule) b.nm != valOf (movedL rs b fo) d (thereT rs d ts b fo rule) b.fo) else decide (b.nm ∈ thereT rs d ts b fo rule)) from rfl, e3, e5]
theorem back_told {rs : List Row} (h : Valid rs) {b : Row} {fo : Str} {d : Bool} {ts : List Str} (hl : LetM rs b fo) (hf : ∀ z ∈ ts, z ∈ names rs) : backR rs d ts b fo "told" = !(decide (b.nm ∈ ts) && !(valOf rs d ts b.nm != valOf rs d ts fo)) := by
  unfold backR
  rw [needsH_eq h hl hf, if_neg (by decide +kernel), if_pos rfl]
  unfold needs
  rw [if_neg (by decide +kernel), if_pos rfl]
  generalize valOf rs d ts b.nm = x
  generalize decide (b.nm ∈ ts) = y
  generalize valOf rs d ts fo = z
  cases x <;> cases y <;> cases z <;> rfl
theorem back_turned {rs : List Row} (h : Valid rs) {b : Row} {fo : Str} {d : Bool} {ts : List Str} (hl : LetM rs b fo) (hf : ∀ z ∈ ts, z ∈ names rs) : backR rs d ts b fo "turned" = true := by
  unfold backR
  rw [needsH_eq h hl hf, if_neg (by decide +kernel), if_neg (by decide +kernel)]
  unfold needs
  rw [if_neg (by decide +kernel), if_neg (by decide +kernel)]
  simp
theorem back_meant {rs : List Row} (h : Valid rs) {b : Row} {fo : Str} {d : Bool} {ts : List Str} (hl : LetM rs b fo) (hf : ∀ z ∈ ts, z ∈ names rs) : backR rs d ts b fo "meant" = true := by
  unfold backR
  rw [needsH_eq h hl hf, if_pos rfl]
  unfold needs
  rw [if_pos rfl]
  generalize valOf rs d ts b.nm = x
  generalize decide (b.nm ∈ ts) = y
  generalize valOf rs d ts fo = z
  cases x <;> cases y <;> cases z <;> rfl
theorem free_box {rs : List Row} (h : Valid rs) {b : Row} (hb : b ∈ rs) {ts : List Str} (hf : ∀ z ∈ ts, Free rs z) : (decide (b.nm ∈ ts) && decide (b.pr = none)) = false := by
  cases e : decide (b.nm ∈ ts) with
  | false => rfl
  | true =>
    obtain ⟨r, hr, hp⟩ := hf _ (of_decide_eq_true e)
    rw [rowOf_mem h hb] at hr
    cases hr
    rw [Bool.true_and]
    exact decide_eq_false hp
theorem stuck_told {rs : List Row} (h : Valid rs) {b : Row} {fo : Str} {d : Bool} {ts : List Str} (hb : b ∈ rs) (hf : ∀ z ∈ ts, Free rs z) : stuck rs d ts b fo "told" = false := by
  have := free_box h hb hf
  unfold stuck needs
  rw [if_neg (by decide +kernel), if_pos rfl]
  cases e : decide (b.nm ∈ ts) with
  | false => rfl
  | true => rw [e, Bool.true_and] at this; rw [this, Bool.and_false]
theorem stuck_turned {rs : List Row} (h : Valid rs) {b : Row} {fo : Str} {d : Bool} {ts : List Str} (hb : b ∈ rs) (hf : ∀ z ∈ ts, Free rs z) : stuck rs d ts b fo "turned" = false := by
  unfold stuck needs
  rw [if_neg (by decide +kernel), if_neg (by decide +kernel)]
  exact free_box h hb hf
theorem stuck_meant (rs : List Row) (d : Bool) (ts : List Str) (b : Row) (fo : Str) : stuck rs d ts b fo "meant" = ((valOf rs d ts b.nm != valOf rs d ts fo) && decide (b.pr = none)) := by
  unfold stuck needs
  rw [if_pos rfl]
/-- at home nothing is in the way -/
theorem stuck_home {rs : List Row} (h : Valid rs) {b : Row} {fo rule : Str} {d : Bool} {ts : List Str} (hl : LetM rs b fo) (hf : ∀ z ∈ ts, Free rs z) (hr : rule ∈ rules3) (hs : stuck rs d ts b fo rule = false) : (needsH rs d ts b fo rule && decide (b.pr = none)) = false := by
  have hf' : ∀ z ∈ ts, z ∈ names rs := fun z hz => (hf z hz).mem
  have fb := free_box h hl.1 hf
  simp only [rules3, List.mem_cons, List.not_mem_nil, or_false] at hr
  rcases hr with rfl | rfl | rfl
  · rw [needsH_eq h hl hf', if_neg (by decide +kernel), if_pos rfl]
    unfold stuck at hs
    cases e : needs rs d ts b.nm fo "told" with
    | false => rfl
    | true => rw [e, Bool.true_and] at hs; rw [hs, Bool.and_false]
  · rw [needsH_eq h hl hf', if_neg (by decide +kernel), if_neg (by decide +kernel)]
    exact hs
  · have e := back_meant (d := d) h hl hf'
    unfold backR at e
    have e2 : needsH rs d ts b fo "meant" = decide (b.nm ∈ ts) := by
      revert e
      cases needsH rs d ts b fo "meant" <;> cases decide (b.nm ∈ ts) <;> simp
    rw [e2]
    exact fb
/-- the turns at home are those ahead just if the box is turned in both or in none -/
theorem home_perm {rs : List Row} (h : Valid rs) {b : Row} {fo rule : Str} {d : Bool} {ts : List Str} (hl : LetM rs b fo) (hn : turnsL rs ts = ts) (hf : ∀ z ∈ ts, z ∈ names rs) {rs2 : List Row} (hv2 : Valid rs2) (h2 : ∀ z, z ∈ names rs → z ∈ names rs2) :
    (turnsL rs2 (turnsB (movedL rs b fo) d (thereT rs d ts b fo rule) b.nm b.fo rule)).Perm ts ↔ backR rs d ts b fo rule = true := by
  have nd : ∀ {qs : List Row} {us : List Str}, Valid qs → (turnsL qs us).Nodup := fun {qs us} hq => (List.nodup_cons.mp (plc_nodup hq)).2.filter _
  rw [List.perm_ext_iff_of_nodup (nd hv2) (by rw [← hn]; exact nd h)]
  have mem : ∀ x, x ≠ b.nm → (x ∈ turnsL rs2 (turnsB (movedL rs b fo) d (thereT rs d ts b fo rule) b.nm b.fo rule) ↔ x ∈ ts) := fun x ne => by
    rw [mem_turnsL, turnsB_ne ne, there_mem h hl hf, turnsB_ne ne]
    exact ⟨fun e => e.2, fun e => ⟨h2 x (hf x e), e⟩⟩
  have memb : b.nm ∈ turnsL rs2 (turnsB (movedL rs b fo) d (thereT rs d ts b fo rule) b.nm b.fo rule) ↔ needsH rs d ts b fo rule = true := by
    rw [mem_turnsL]
    unfold needsH
    rw [← turnsB_self (rs := movedL rs b fo), decide_eq_true_eq]
    exact ⟨fun e => e.2, fun e => ⟨h2 _ (List.mem_map.mpr ⟨b, hl.1, rfl⟩), e⟩⟩
  unfold backR
  rw [beq_iff_eq]
  constructor
  · intro hx
    have := hx b.nm
    rw [memb] at this
    rw [Bool.eq_iff_iff, decide_eq_true_eq]
    exact this
  · intro e x
    by_cases ne : x = b.nm
    · rw [ne, memb, e, decide_eq_true_eq]
    · exact mem x ne
end Ts

set_option maxRecDepth 100000
set_option maxHeartbeats 4000000
namespace L2
open PySem PySem.Spec PyProof.Rows
section
variable {X : Cx}
/-- sorted(t) of a tuple of texts -/
theorem cr_sortedT : CallR X (.builtin "sorted") (fun vs H Q => ∃ (a : Addr) (xs : List Str), vs = [V.ref a] ∧ SqT X.K H a (xs.map V.str) ∧ xs.length < 64 ∧
    ∀ (ys : List Str) (p : Addr), ys.Perm xs → sortedS ys = true → H p = none → Q (.ref p) (upd H p (.lst (ys.map V.str)))) := by
  intro pins s σ H vs us Q I r h
  obtain ⟨a, xs, rfl, hs, h64, q⟩ := h
  obtain ⟨its, rv, pl, hz⟩ := I.tuple hs
  obtain ⟨o, ho, hc, n, hd⟩ := pl
  rw [Vals.ref1 r]
  have hal : its.length = xs.length := by rw [← rv.length, List.length_map]
  have hS : StrsAre its xs := rv.strs
  refine Calls.call_function_entry PyProof.Rows.kind_sorted PyProof.Rows.plain_sorted PyProof.Rows.entry_sorted (PyProof.Rows.args_sorted1 _) ?_
  unfold Builtin.«sorted»
  refine wpAny_bind (m := checkCount "sorted" 1 1 _) (wpAny_pure ?_)
  refine wpAny_bind (wpAny_collect_seq a (.inr rfl) ho hc hd (fun h' hk => ?_) (by simp only [List.size_toArray]; rw [hal, sizeLine_eq]; omega))
  have I1 : Inv X pins σ H { s with heap := h', toks := s.toks } := I.kept hk
  refine wpAny_bind (wpAny_newList ?_ (by simp only [List.size_toArray, Array.length_toList]; rw [hal, sizeLine_eq]; omega))
  have hoL : (h'.push (seqObj "list" its.toArray 0)).get? h'.objs.size = some (seqObj "list" its.toArray 0) := Heap.get?_push_size _ rfl
  have ea : its.toArray.toList.toArray = its.toArray := by simp
  show wpAny _ _ _ _ _ { s with heap := h'.push (seqObj "list" its.toArray 0) }
  refine wpAny_bind (wpAny_holding (wpAny_call_entry PyProof.Rows.slot_list_sort ⟨_, hoL, rfl⟩ PyProof.Rows.entry_list_sort
    (list_sort_treeK strKind_oneLt (s := { s with heap := h'.push (seqObj "list" its.toArray 0) }) hoL hS.keysOf (fun v₁ v₂ rest e => keyKind_strs (by rw [← e]; exact hS)) (by rw [hal]; exact h64) fun st' hp hs => ⟨_, rfl, ?_⟩)
    (PyProof.Rows.args_list_sort _)))
  obtain ⟨ys, g1, g2, g3⟩ := sorted_out_str hS hp hs
  obtain ⟨e', he'⟩ := PyProof.Rows.sortedHeap_at (vs := its) (out := (arrOf st').map (·.2)) hoL
  have hlen : (ys.map V.str).length ≤ sizeLine := by
    rw [List.length_map, g2.length_eq]
    exact Nat.le_trans (Nat.le_of_lt h64) (by decide)
  refine wpAny_pure ⟨_, rfl, .ref h'.objs.size, upd H h'.objs.size (.lst (ys.map V.str)), I1.laid (t' := s.toks) (fun b u e => ?_) (Nat.le_refl _)
    (show ObjOk X.prog X.w _ _ _ (.lst (ys.map V.str)) from ⟨hlen, ((arrOf st').map (·.2)).toList, e', vals_of_strs g1, by rw [Array.toArray_toList]; exact he'⟩), rfl, q ys _ g2 g3 (I1.hok.fresh (Nat.le_refl _))⟩
  have hb : b < h'.objs.size := Heap.lt_size e
  rw [PyProof.Rows.sortedHeap_old (Nat.ne_of_lt hb) (by rw [size_push']; exact Nat.lt_succ_of_lt hb)]
  exact Heap.get?_push_of_some _ e
end
end L2

set_option maxRecDepth 100000
set_option maxHeartbeats 4000000
namespace Ts
open PySem L2
def spBack (C CM CL : Addr) : Sp := fun vs H Q E => ∃ (m t : Addr) (b : Row) (fo rule : Str) (rs : List Row) (d : Bool) (ts : List Str), vs = [.ref m, .str b.nm, .str fo, .str rule] ∧ MeanAt C CM H m t rs d ts ∧ (∀ z ∈ ts, Free rs z) ∧ ts.length < 60 ∧ LetM rs b fo ∧ rule ∈ rules3 ∧
  (stuck rs d ts b fo rule = true → ∀ e H', H e = none → Same H H' → H' e = some (.xd [("box", .str b.nm)]) → E (.ref CL) (some e) H') ∧ (stuck rs d ts b fo rule = false → ∀ H', Same H H' → Q (.bl (backR rs d ts b fo rule)) H')
theorem turnsB_len {rs : List Row} {d : Bool} {ts : List Str} {z fo rule : Str} : (turnsB rs d ts z fo rule).length ≤ ts.length + 1 := by
  unfold turnsB
  rw [List.length_append]
  have h1 := List.length_filter_le (fun x => decide (x ≠ z)) ts
  split <;> simp <;> simp at h1 <;> omega
theorem nodup_len : ∀ {l m : List Str}, l.Nodup → (∀ x ∈ l, x ∈ m) → l.length ≤ m.length
  | [], _, _, _ => Nat.zero_le _
  | x :: l, m, hn, h => by
    rw [List.nodup_cons] at hn
    have hx := h x (List.mem_cons_self ..)
    have := nodup_len (m := m.erase x) hn.2 fun y hy => (List.mem_erase_of_ne (fun (e : y = x) => hn.1 (by rw [← e]; exact hy))).mpr (h y (List.mem_cons_of_mem _ hy))
    rw [List.length_erase_of_mem hx] at this
    have := List.length_pos_of_mem hx
    rw [List.length_cons]
    omega
theorem turnsL_len {rs : List Row} (h : Valid rs) (us : List Str) : (turnsL rs us).length ≤ us.length := by
  have nd : (turnsL rs us).Nodup := (List.nodup_cons.mp (plc_nodup h)).2.filter _
  exact nodup_len nd fun x hx => (mem_turnsL.mp hx).2
section
variable {P : Program} {w : World} {K : PySem.W.Frag} {mg : Str → Option Value} {base : Heap} {C CM CL : Addr}
abbrev nBack : List Str := ["meaning", "box", "folder", "rule", "there", "home"]
theorem sc_back : FnScope nBack ["meaning", "box", "folder", "rule"] (defScope s_back) := ⟨rfl, rfl, rfl, by decide +kernel, rfl, by decide +kernel, by decide +kernel⟩
theorem ok_back (D : DefAt K mg "back" s_back ["meaning", "box", "folder", "rule"]) (hSo : mg "sorted" = none) (T : TxT K mg C) (M : TxM K mg CM)
    (Dm : DefAt K mg "moved" s_moved ["meaning", "box", "folder", "rule"]) (Gm : FnOk P w K mg base (L2.CX P w) 9 Dm.f Dm.fd ["meaning", "box", "folder", "rule"] (spMovedM C CM CL))
    (mF : MethAt K C "folder" "Tree.folder" s_Tree_folder ["self", "box"]) (GF : FnOk P w K mg base CX0 4 mF.f mF.fd ["self", "box"] (spGet C fun r => .str r.fo)) :
    FnOk P w K mg base (L2.CX P w) 10 D.f D.fd ["meaning", "box", "folder", "rule"] (spBack C CM CL) := by
  refine D.F.okX sc_back (fun vs H Q E h => ?_) (fun cdv A outer s H vs Q E hr h => ?_)
  · obtain ⟨m, t, b, fo, rule, rs, d, ts, rfl, _⟩ := h
    rfl
  · have r4 : Room 4 _ := hr.mono (by decide)
    have h64 := hr.units
    refine ⟨_, pss_cons (ps_set (i := 4) sc_back.nd rfl (.inl rfl) (pe_call Gm hr rfl Dm.g Dm.F.kp Dm.b .nil (passes_call (takes_of rfl rfl rfl rfl) (fun _ _ _ _ h => h)) (pa_cons (pv 0) (pa_cons (pv 1) (pa_cons (pv 2) (pa_cons (pv 3) pa_nil))))))
      (pss_cons (ps_set (i := 5) sc_back.nd rfl (.inl rfl) (pe_call Gm hr rfl Dm.g Dm.F.kp Dm.b .nil (passes_call (takes_of rfl rfl rfl rfl) (fun _ _ _ _ h => h)) (pa_cons (pv 4) (pa_cons (pv 1) (pa_cons (pe_meth (pe_fld (pv 0) rfl) T.cl mF.m GF r4 mF.b .nil pass0 (pa_cons (pv 1) pa_nil)) (pa_cons (pv 3) pa_nil))))))
      (pss_one (ps_ret (pe_and (pe_cmpR op_eq (pe_fld (pv 5) rfl) (pe_fld (pv 0) rfl) (nomark _)) (pe_one (pe_cmpR (op_eqD h64) (pe_callB cr_sortedT (by rfl) hSo (by decide +kernel) (pa_cons (pe_fld (pv 5) rfl) pa_nil)) (pe_callB cr_sortedT (by rfl) hSo (by decide +kernel) (pa_cons (pe_fld (pv 0) rfl) pa_nil)) (nomark _))))))), ?_⟩
    obtain ⟨m, t, b, fo, rule, rs, d, ts, rfl, hm, hfree, hlen, hl, hru, hE, hQ⟩ := h
    have hv := hm.tree.val
    have hmem : ∀ z ∈ ts, z ∈ names rs := fun z hz => (hfree z hz).mem
    refine ⟨_, rfl, _, rfl, _, rfl, _, rfl, m, t, b, fo, rule, rs, d, ts, rfl, hm, hfree, hl, hru, fun hc e H' he s' ex => hE hc e H' he s' ex, fun hc m' t' H1 nm' s1 hm' => ?_⟩
    have hs : stuck rs d ts b fo rule = false := hc
    obtain ⟨dx, u, k, h1, h2, h3⟩ := id hm.ex
    obtain ⟨tdx, q, f, tk, p, qs, g1, _⟩ := id hm.tree.ex
    have noF : (tf q f tk p).lookup ("folder" : Str) = none := tf_no _ _ _ _ (by decide +kernel) (by decide +kernel) (by decide +kernel) (by decide +kernel)
    have hm1 := hm.same s1
    have v' := hm'.tree.val
    have hfr : ∀ z ∈ thereT rs d ts b fo rule, Free (movedL rs b fo) z := fun z hz => free_there hv hl hfree hs z ((there_mem hv hl hmem z).mp hz)
    have hl2 := let_home hv hl
    have sh := stuck_home hv hl hfree hru hs
    refine ⟨_, rfl, _, rfl, _, rfl, m, CM, dx, _, _, rfl, s1 _ _ h1, M.cl, M.nt, mf_t _ _ _ _, t, tdx, _, rfl, s1 _ _ g1, noF, _, rfl, t, b.nm, rs, b, rfl, hm1.tree, rowOf_mem hv hl.1, _, rfl, m', t', { b with fo := fo }, b.fo, rule, movedL rs b fo, d, thereT rs d ts b fo rule, rfl, hm', hfr, hl2, hru, (fun hc => by rw [show (needs (movedL rs b fo) d (thereT rs d ts b fo rule) ({ b with fo := fo } : Row).nm b.fo rule && decide (({ b with fo := fo } : Row).pr = none)) = false from sh] at hc; cases hc), fun _ m2 t2 H2 nm2 s2 hm2 => ?_⟩
    have s12 := s1.trans s2
    obtain ⟨dx2, u2, k2, f1, f2, f3⟩ := id hm2.ex
    refine ⟨_, rfl, m2, CM, dx2, _, _, rfl, f1, M.cl, M.nd, mf_d _ _ _ _, _, rfl, m, CM, dx, _, _, rfl, s12 _ _ h1, M.cl, M.nd, mf_d _ _ _ _, rfl, _, rfl, ?_⟩
    rw [decide_eq_true rfl]
    have l1 : (thereT rs d ts b fo rule).length ≤ ts.length + 1 := Nat.le_trans (turnsL_len v' _) turnsB_len
    have l2 := Nat.le_trans (turnsL_len hm2.tree.val (turnsB (movedL rs b fo) d (thereT rs d ts b fo rule) ({ b with fo := fo } : Row).nm b.fo rule)) turnsB_len
    refine iteT ⟨_, rfl, m2, CM, dx2, _, _, rfl, f1, M.cl, M.nu, mf_u _ _ _ _, u2, _, rfl, sqT f2, by omega, fun ys1 p1 hp1 hs1 hn1 => ?_⟩
    have s3 : Same H2 (upd H2 p1 (.lst (ys1.map V.str))) := Same.new hn1
    have e3 : (upd H2 p1 (.lst (ys1.map V.str))) p1 = some (.lst (ys1.map V.str)) := upd_same
    generalize upd H2 p1 (.lst (ys1.map V.str)) = H3 at s3 e3
    have s13 := s12.trans s3
    refine ⟨_, rfl, m, CM, dx, _, _, rfl, s13 _ _ h1, M.cl, M.nu, mf_u _ _ _ _, u, _, rfl, sqT (s13 _ _ h2), by omega, fun ys2 p2 hp2 hs2 hn2 => ?_⟩
    have s4 : Same H3 (upd H3 p2 (.lst (ys2.map V.str))) := Same.new hn2
    have ok1 : ∀ x ∈ ys1, PyData.strOk x = true := fun x hx => names_ok hm2.tree.val x (mem_turnsL.mp (hp1.subset hx)).1
    have ok2 : ∀ x ∈ ys2, PyData.strOk x = true := fun x hx => names_ok hv x (hmem x (hp2.subset hx))
    refine ⟨_, _, strs_dp (s4 _ _ e3), strs_dp upd_same, shaped_strs ok1, shaped_strs ok2, ?_⟩
    have ee : PyData.eqv (.list (ys1.map PyData.str)) (.list (ys2.map PyData.str)) = backR rs d ts b fo rule := by
      simp only [PyData.eqv]
      rw [strs_eqv, Bool.eq_iff_iff, decide_eq_true_eq, sorted_same hp1 hp2 hs1 hs2]
      exact home_perm hv hl hm.norm.symm hmem hm2.tree.val (fun z hz => names_moved v' hl2 (names_moved hv hl hz))
    rw [ee]
    exact hQ hs _ (s13.trans s4)
end
end Ts

set_option maxRecDepth 100000
set_option maxHeartbeats 4000000
namespace Ts
open PySem L2
/-! ### deeds in the memory -/
def deV (d : De) : List V := [.str d.1, .str d.2]
structure DsAt (H : Hp) (as : List Addr) (ds : List De) : Prop where
  len : as.length = ds.length
  at_ : ∀ (i : Nat) (a : Addr) (d : De), as[i]? = some a → ds[i]? = some d → H a = some (.tup (deV d))
structure SeqDs (H : Hp) (as : List Addr) (ds : List De) : Prop where
  len : as.length = ds.length
  at_ : ∀ (i : Nat) (a : Addr) (d : De), as[i]? = some a → ds[i]? = some d → Seq H a (deV d)
theorem DsAt.same {H H' : Hp} {as : List Addr} {ds : List De} (h : DsAt H as ds) (s : Same H H') : DsAt H' as ds := ⟨h.len, fun i a d x y => s _ _ (h.at_ i a d x y)⟩
theorem SeqDs.same {H H' : Hp} {as : List Addr} {ds : List De} (h : SeqDs H as ds) (s : Same H H') : SeqDs H' as ds := ⟨h.len, fun i a d x y => (h.at_ i a d x y).same s⟩
theorem DsAt.seq {H : Hp} {as : List Addr} {ds : List De} (h : DsAt H as ds) : SeqDs H as ds := ⟨h.len, fun i a d x y => .inl (h.at_ i a d x y)⟩
theorem DsAt.nil {H : Hp} : DsAt H [] [] := ⟨rfl, fun i a d h => by simp at h⟩
theorem DsAt.snoc {H : Hp} {as : List Addr} {ds : List De} {a : Addr} {d : De} (h : DsAt H as ds) (k : H a = some (.tup (deV d))) : DsAt H (as ++ [a]) (ds ++ [d]) := by
  refine ⟨by simp [h.len], fun i b e x y => ?_⟩
  rcases Nat.lt_or_ge i as.length with hi | hi
  · rw [List.getElem?_append_left hi] at x
    rw [List.getElem?_append_left (h.len ▸ hi)] at y
    exact h.at_ i b e x y
  · rw [List.getElem?_append_right hi] at x
    rw [List.getElem?_append_right (h.len ▸ hi), ← h.len] at y
    have e0 : i - as.length = 0 := by
      have := (List.getElem?_eq_some_iff.mp x).1
      simp at this
      omega
    rw [e0] at x y
    cases x; cases y
    exact k
theorem DsAt.append {H : Hp} {as bs : List Addr} {ds es : List De} (h : DsAt H as ds) (k : DsAt H bs es) : DsAt H (as ++ bs) (ds ++ es) := by
  refine ⟨by simp [h.len, k.len], fun i a d x y => ?_⟩
  rcases Nat.lt_or_ge i as.length with hi | hi
  · rw [List.getElem?_append_left hi] at x
    rw [List.getElem?_append_left (h.len ▸ hi)] at y
    exact h.at_ i a d x y
  · rw [List.getElem?_append_right hi] at x
    rw [List.getElem?_append_right (h.len ▸ hi), ← h.len] at y
    exact k.at_ _ a d x y
theorem DsAt.get {H : Hp} {as : List Addr} {ds : List De} (h : DsAt H as ds) {i : Nat} {x : V} (hx : (as.map V.ref)[i]? = some x) : ∃ a d, x = .ref a ∧ as[i]? = some a ∧ ds[i]? = some d ∧ H a = some (.tup (deV d)) := by
  rw [List.getElem?_map] at hx
  obtain ⟨a, ha, rfl⟩ := Option.map_eq_some_iff.mp hx
  have hi : i < ds.length := by rw [← h.len]; exact (List.getElem?_eq_some_iff.mp ha).1
  exact ⟨a, ds[i], rfl, ha, List.getElem?_eq_getElem hi, h.at_ i a _ ha (List.getElem?_eq_getElem hi)⟩
theorem SeqDs.get {H : Hp} {as : List Addr} {ds : List De} (h : SeqDs H as ds) {i : Nat} {x : V} (hx : (as.map V.ref)[i]? = some x) : ∃ a d, x = .ref a ∧ as[i]? = some a ∧ ds[i]? = some d ∧ Seq H a (deV d) := by
  rw [List.getElem?_map] at hx
  obtain ⟨a, ha, rfl⟩ := Option.map_eq_some_iff.mp hx
  have hi : i < ds.length := by rw [← h.len]; exact (List.getElem?_eq_some_iff.mp ha).1
  exact ⟨a, ds[i], rfl, ha, List.getElem?_eq_getElem hi, h.at_ i a _ ha (List.getElem?_eq_getElem hi)⟩
def VDs (rs : List Row) (ds : List De) : Prop := ∀ d ∈ ds, d.1 ∈ words3 ∧ d.2 ∈ plc rs
theorem VDs.words {rs : List Row} {ds : List De} (h : VDs rs ds) : Words ds := fun d hd => (h d hd).1
def Unl0 (rs : List Row) : Prop := ∀ r ∈ rs, r.pr ≠ none
/-- the written words of the module -/
structure TxD (K : PySem.W.Frag) (mg : Str → Option Value) (w : World) where
  flip : ∃ t, mg "FLIP" = some (.str "flip" t)
  keep : ∃ t, mg "KEEP" = some (.str "keep" t)
  wordsA : Addr
  words : mg "WORDS" = some (.ref wordsA)
  wordsT : ∃ (o : Obj) (its : Array Value) (n : Nat), K.lookup wordsA = some o ∧ o.cls = .type "tuple" ∧ o.data = .seq its n ∧ its.size ≤ sizeLine ∧ Vals (words3.map V.str) its.toList
  flA : Addr
  fl : mg "FLIPPED" = some (.ref flA)
  flD : ∀ z ∈ words4, KDct K w flA z (.str (flp z))
def spUnlocked (C : Addr) : Sp := fun vs H Q _ => ∃ (t : Addr) (rs : List Row), vs = [.ref t] ∧ TreeAt C H t rs ∧ Unl0 rs ∧ ∀ H', Same H H' → Q .non H'
def spIsDeed (C : Addr) : Sp := fun vs H Q _ => ∃ (t a : Addr) (rs : List Row) (d : De), vs = [.ref t, .ref a] ∧ TreeAt C H t rs ∧ Seq H a (deV d) ∧ d.1 ∈ words3 ∧ d.2 ∈ plc rs ∧ ∀ H', Same H H' → Q (.bl true) H'
def spCheckDeeds (C : Addr) : Sp := fun vs H Q _ => ∃ (t h : Addr) (rs : List Row) (as : List Addr) (ds : List De), vs = [.ref t, .ref h] ∧ TreeAt C H t rs ∧ Seq H h (as.map V.ref) ∧ SeqDs H as ds ∧ VDs rs ds ∧ ds.length ≤ 100 ∧ ∀ H', Same H H' → Q .non H'
def spEffects (C : Addr) : Sp := fun vs H Q _ => ∃ (t q : Addr) (rs : List Row) (as : List Addr) (ds : List De), vs = [.ref t, .ref q] ∧ TreeAt C H t rs ∧ H q = some (.tup (as.map V.ref)) ∧ DsAt H as ds ∧ VDs rs ds ∧
  ∀ D H', H D = none → Same H H' → H' D = some (.dK (kvS (eff rs ds) (plc rs))) → Q (.ref D) H'
theorem TreeAt.sb {C : Addr} {H H' : Hp} {t w : Addr} {rs : List Row} (h : TreeAt C H t rs) (hw : ∀ o, H w ≠ some o) (s : SB w H H') : TreeAt C H' t rs := by
  obtain ⟨dx, q, f, k, p, qs, h1, h2, h3, h4, h5, h6⟩ := h.ex
  have nw : ∀ {b : Addr} {o : HO}, H b = some o → b ≠ w := fun {b o} e q => hw o (q ▸ e)
  exact ⟨⟨dx, q, f, k, p, qs, s _ _ (nw h1) h1, s _ _ (nw h2) h2, ⟨h3.len, fun j b r hb hr => s _ _ (nw (h3.at_ j b r hb hr)) (h3.at_ j b r hb hr)⟩, s _ _ (nw h4) h4, s _ _ (nw h5) h5, s _ _ (nw h6) h6⟩, h.val, h.len⟩
section
variable {P : Program} {w : World} {K : PySem.W.Frag} {mg : Str → Option Value} {base : Heap} {C : Addr}
theorem sc_unlocked : FnScope ["tree", "box"] ["tree"] (defScope s_check_unlocked) := ⟨rfl, rfl, rfl, by decide +kernel, rfl, by decide +kernel, by decide +kernel⟩
theorem ok_unlocked (D : DefAt K mg "check_unlocked" s_check_unlocked ["tree"]) (TC : TxC K mg) (T : TxT K mg C)
    (mB : MethAt K C "below" "Tree.below" s_Tree_below ["self", "box"]) (GB : FnOk P w K mg base CX0 5 mB.f mB.fd ["self", "box"] (spListOf C belowL))
    (mP : MethAt K C "price" "Tree.price" s_Tree_price ["self", "box"]) (GP : FnOk P w K mg base CX0 4 mP.f mP.fd ["self", "box"] (spGet C fun r => prV r.pr)) : FnOk P w K mg base CX0 6 D.f D.fd ["tree"] (spUnlocked C) := by
  obtain ⟨t1, gT⟩ := TC.top
  refine D.F.ok sc_unlocked (fun vs H Q E h => ?_) (fun cdv A outer s H vs Q E hr h => ?_)
  · obtain ⟨t, rs, rfl, _⟩ := h
    rfl
  · obtain ⟨t, rs, rfl, ht, hun, hq⟩ := h
    have hr3 : Room 4 _ := hr.mono (by decide)
    refine ⟨_, pss_one (ps_for PassesOwn.never rfl (pi_list (pe_meth (pv 0) T.cl mB.m GB hr mB.b .nil pass0 (pa_cons (pe_glob (by rfl) gT (v := .str ("top" : Str)) ⟨_, rfl⟩) pa_nil))) (pg_name (i := 1) sc_unlocked.nd rfl (.inl rfl))
        (pss_one (ps_if (pt_cmpR op_isN (pe_meth (pv 0) T.cl mP.m GP hr3 mP.b .nil pass0 (pa_cons (pv 1) pa_nil)) pe_non (nomark _)) (pss_one ps_never) pss_nil))), ?_⟩
    have hv := ht.val
    obtain ⟨dx, q, f, k, p, qs, h1, _⟩ := id ht.ex
    have noB : (tf q f k p).lookup ("below" : Str) = none := tf_no _ _ _ _ (by decide +kernel) (by decide +kernel) (by decide +kernel) (by decide +kernel)
    have noP : (tf q f k p).lookup ("price" : Str) = none := tf_no _ _ _ _ (by decide +kernel) (by decide +kernel) (by decide +kernel) (by decide +kernel)
    refine ⟨_, rfl, t, dx, _, rfl, h1, noB, t, ("top" : Str), rs, rfl, ht, .inl rfl, fun bl H2 hbl s2 e2 => ?_⟩
    rw [below_top hv] at e2
    refine ⟨bl, rfl, ⟨_, SqL.of e2⟩, ?_⟩
    refine for_list (K := K) (a := bl) (xs := (names rs).map V.str) (fun i σ H' => ∃ v : Option V, σ = [some (.ref t), v] ∧ H' = H2) ⟨_, rfl, rfl⟩ (fun i σ H' _ ⟨_, _, e⟩ => by rw [e]; exact SqL.of e2) ?_ ?_
    · rintro i x σ H3 hx ⟨v, rfl, rfl⟩
      unfold names at hx
      rw [List.getElem?_map, List.getElem?_map] at hx
      obtain ⟨n1, hn1, rfl⟩ := Option.map_eq_some_iff.mp hx
      obtain ⟨r, hr', rfl⟩ := Option.map_eq_some_iff.mp hn1
      have hrm := List.mem_of_getElem? hr'
      have ro := rowOf_at hv hr'
      refine ⟨_, rfl, t, dx, _, rfl, s2 _ _ h1, noP, _, rfl, t, r.nm, rs, r, rfl, ht.same s2, ro, rfl, _, rfl, ?_⟩
      have e : decide ((fun r : Row => prV r.pr) r = V.non) = false := by
        cases h : r.pr with
        | none => exact absurd h (hun r hrm)
        | some c => show decide (prV r.pr = V.non) = false; rw [h]; exact decide_eq_false (fun h => by cases h)
      exact iteF' e ⟨_, rfl, rfl⟩
    · rintro σ H3 ⟨v, rfl, rfl⟩
      exact hq _ s2
abbrev nIsDeed : List Str := ["tree", "thing", "word", "place"]
theorem sc_is_deed : FnScope nIsDeed ["tree", "thing"] (defScope s_is_deed) := ⟨rfl, rfl, rfl, by decide +kernel, rfl, by decide +kernel, by decide +kernel⟩
theorem ok_is_deed (D : DefAt K mg "is_deed" s_is_deed ["tree", "thing"]) (B : TxB mg) (TD : TxD K mg w) (Dp : DefAt K mg "is_place" s_is_place ["tree", "thing"]) (Gp : FnOk P w K mg base CX0 3 Dp.f Dp.fd ["tree", "thing"] (spIsPlace C)) : FnOk P w K mg base CX0 4 D.f D.fd ["tree", "thing"] (spIsDeed C) := by
  refine D.F.ok sc_is_deed (fun vs H Q E h => ?_) (fun cdv A outer s H vs Q E hr h => ?_)
  · obtain ⟨t, a, rs, d, rfl, _⟩ := h
    rfl
  · obtain ⟨t, a, rs, d, rfl, ht, ha, hw, hp, hq⟩ := h
    refine ⟨_, pss_cons (ps_if (PW.pt (pw_or (pt_not (pt_val (pe_callB call_isiT (by rfl) B.isinstance (by decide +kernel) (pa_cons (pv 1) (pa_cons (pe_tup (pa_cons (pe_bltn (by rfl) B.list (by decide +kernel) (v := .ty "list") rfl) (pa_cons (pe_bltn (by rfl) B.tuple (by decide +kernel) (v := .ty "tuple") rfl) pa_nil))) pa_nil)))))
        (pw_or1 (pt_cmpR op_ne (pe_callB call_len_seq (by rfl) B.len PySem.boot_len (pa_cons (pv 1) pa_nil)) pe_int (nomark _))))) (pss_one (ps_ret pe_bl)) pss_nil)
      (C8.pss_cut (ps_asg (pv 1) (pg_or (pg_tup rfl (pgs_cons (pg_name (i := 2) sc_is_deed.nd rfl (.inl rfl)) (pgs_cons (pg_name (i := 3) sc_is_deed.nd rfl (.inl rfl)) pgs_nil)))
          (pg_unl rfl (pgs_cons (pg_name (i := 2) sc_is_deed.nd rfl (.inl rfl)) (pgs_cons (pg_name (i := 3) sc_is_deed.nd rfl (.inl rfl)) pgs_nil)))))
      (pss_one (ps_ret (pe_and (pe_cmpR op_in_seq (pv 2) (pe_glob (by rfl) TD.words (v := .ref TD.wordsA) rfl) (by rfl)) (pe_one (pe_call Gp hr rfl Dp.g Dp.F.kp Dp.b .nil pass0 (pa_cons (pv 0) (pa_cons (pv 3) pa_nil)))))))), ?_⟩
    refine ⟨_, rfl, (by show 2 ≤ sizeLine; decide), fun tp htp => ?_⟩
    have s1 : Same H (upd H tp (.tup [.ty "list", .ty "tuple"])) := Same.new htp
    obtain ⟨ty0, ty, kk⟩ := (ha.same s1).ty (K := K)
    refine ⟨_, tp, _, ty0, _, true, rfl, upd_same, .cons (.ty "list") (.cons (.ty "tuple") .nil), ty, kk, _, rfl, iteF ?_⟩
    refine ⟨_, rfl, a, _, rfl, (ha.same s1).or, rfl, _, rfl, iteF ?_⟩
    have un : SqT K (upd H tp (.tup [.ty "list", .ty "tuple"])) a (deV d) ∨ SqL K (upd H tp (.tup [.ty "list", .ty "tuple"])) a (deV d) := (ha.same s1).or.symm
    refine ⟨fun σ' H' => σ' = [some (.ref t), some (.ref a), some (.str d.1), some (.str d.2)] ∧ H' = upd H tp (.tup [.ty "list", .ty "tuple"]), ?_, ?_⟩
    · refine ⟨_, rfl, ?_⟩
      rcases un with un | un
      · exact .inl ⟨a, _, rfl, un, rfl, _, _, rfl, _, _, rfl, rfl, rfl, rfl⟩
      · exact .inr ⟨a, _, rfl, un, rfl, _, _, rfl, _, _, rfl, rfl, rfl, rfl⟩
    rintro σ' H' ⟨rfl, rfl⟩
    refine ⟨_, rfl, TD.wordsA, _, rfl, .inr (.inr TD.wordsT), rfl, flat_strs _, _, rfl, ?_⟩
    have e : (if false = true then !inV (.str d.1) (words3.map V.str) else inV (.str d.1) (words3.map V.str)) = true := by
      rw [if_neg Bool.false_ne_true, inV_strs]
      exact decide_eq_true hw
    rw [e]
    refine iteT ⟨_, rfl, _, rfl, t, d.2, rs, rfl, ht.same s1, ?_⟩
    rw [decide_eq_true (mem_plc.mp hp)]
    exact hq _ s1
abbrev nCheckDeeds : List Str := ["tree", "deeds", "index", "deed"]
theorem sc_check_deeds : FnScope nCheckDeeds ["tree", "deeds"] (defScope s_check_deeds) := ⟨rfl, rfl, rfl, by decide +kernel, rfl, by decide +kernel, by decide +kernel⟩
theorem ok_check_deeds (D : DefAt K mg "check_deeds" s_check_deeds ["tree", "deeds"]) (B : TxB mg) (Di : DefAt K mg "is_deed" s_is_deed ["tree", "thing"]) (Gi : FnOk P w K mg base CX0 4 Di.f Di.fd ["tree", "thing"] (spIsDeed C)) : FnOk P w K mg base CX0 5 D.f D.fd ["tree", "deeds"] (spCheckDeeds C) := by
  refine D.F.ok sc_check_deeds (fun vs H Q E h => ?_) (fun cdv A outer s H vs Q E hr h => ?_)
  · obtain ⟨t, h, rs, as, ds, rfl, _⟩ := h
    rfl
  · obtain ⟨t, h, rs, as, ds, rfl, ht, hh, hds, hvd, hl, hq⟩ := h
    refine ⟨_, pss_cons (ps_if (pt_not (pt_val (pe_callB call_isiT (by rfl) B.isinstance (by decide +kernel) (pa_cons (pv 1) (pa_cons (pe_tup (pa_cons (pe_bltn (by rfl) B.list (by decide +kernel) (v := .ty "list") rfl) (pa_cons (pe_bltn (by rfl) B.tuple (by decide +kernel) (v := .ty "tuple") rfl) pa_nil))) pa_nil))))) (pss_one ps_never) pss_nil)
      (pss_one (ps_for PassesOwn.never rfl (pi_enumS (by rfl) B.enumerate (pv 1)) (pg_tup rfl (pgs_cons (pg_name (i := 2) sc_check_deeds.nd rfl (.inl rfl)) (pgs_cons (pg_name (i := 3) sc_check_deeds.nd rfl (.inl rfl)) pgs_nil)))
        (pss_one (ps_if (pt_not (pt_val (pe_call Gi hr rfl Di.g Di.F.kp Di.b .nil pass0 (pa_cons (pv 0) (pa_cons (pv 3) pa_nil))))) (pss_one ps_never) pss_nil)))), ?_⟩
    refine ⟨_, rfl, (by show 2 ≤ sizeLine; decide), fun tp htp => ?_⟩
    have s1 : Same H (upd H tp (.tup [.ty "list", .ty "tuple"])) := Same.new htp
    obtain ⟨ty0, ty, kk⟩ := (hh.same s1).ty (K := K)
    refine ⟨_, tp, _, ty0, _, true, rfl, upd_same, .cons (.ty "list") (.cons (.ty "tuple") .nil), ty, kk, _, rfl, iteF ?_⟩
    generalize upd H tp (.tup [.ty "list", .ty "tuple"]) = H1 at s1 ty
    refine ⟨h, _, rfl, hh.same s1, fun J W => ?_⟩
    refine for_it W (fun i σ H' => ∃ v2 v3 : Option V, σ = [some (.ref t), some (.ref h), v2, v3] ∧ Same H1 H') ⟨_, _, rfl, Same.refl _⟩ (fun i σ H' _ ⟨_, _, _, s⟩ => ?_) ?_ ?_
    · rcases hh.same s1 with z | z <;> rw [z] <;> exact s _ _ z
    · rintro i x σ H4 H5 hi ⟨v2, v3, rfl, s4⟩ ⟨T, xi, xr, rfl, hT, rfl, exi, exr⟩
      obtain ⟨a, d, rfl, ha, hd, hsq⟩ := hds.get exr
      have s5 : Same H (upd H4 T (.tup [xi, .ref a])) := (s1.trans s4).trans (Same.new hT)
      obtain ⟨hw, hp⟩ := hvd d (List.mem_of_getElem? hd)
      refine ⟨T, _, rfl, sqT upd_same, rfl, _, _, rfl, _, _, rfl, rfl, ?_⟩
      exact ⟨_, rfl, _, rfl, t, a, rs, d, rfl, ht.same s5, hsq.same s5, hw, hp, fun H6 s6 => ⟨_, rfl, iteF ⟨_, _, rfl, (s4.trans (Same.new hT)).trans s6⟩⟩⟩
    · rintro σ H4 ⟨v2, v3, rfl, s4⟩
      exact hq _ (s1.trans s4)
end
end Ts

set_option maxRecDepth 100000
set_option maxHeartbeats 4000000
namespace Ts
open PySem L2
theorem rtp_ : ¬ (("tree" : Str) = "pairs") := by decide +kernel
theorem rte_ : ¬ (("tree" : Str) = "effects") := by decide +kernel
theorem rpe_ : ¬ (("pairs" : Str) = "effects") := by decide +kernel
def rf (t q e : Addr) : List (Str × V) := putF "effects" (.ref e) (putF "pairs" (.ref q) (putF "tree" (.ref t) []))
theorem rf_t (t q e : Addr) : (rf t q e).lookup ("tree" : Str) = some (.ref t) := by
  unfold rf
  rw [lookup_putF, if_neg rte_, lookup_putF, if_neg rtp_, lookup_putF, if_pos rfl]
theorem rf_p (t q e : Addr) : (rf t q e).lookup ("pairs" : Str) = some (.ref q) := by
  unfold rf
  rw [lookup_putF, if_neg rpe_, lookup_putF, if_pos rfl]
theorem rf_e (t q e : Addr) : (rf t q e).lookup ("effects" : Str) = some (.ref e) := by
  unfold rf
  rw [lookup_putF, if_pos rfl]
theorem rf_no (t q e : Addr) {m : Str} (h1 : ¬ m = "tree") (h2 : ¬ m = "pairs") (h3 : ¬ m = "effects") : (rf t q e).lookup m = none := by
  unfold rf
  rw [lookup_putF, if_neg h3, lookup_putF, if_neg h2, lookup_putF, if_neg h1]
  rfl
structure RowAt (C CR : Addr) (H : Hp) (r t : Addr) (rs : List Row) (ds : List De) : Prop where
  ex : ∃ (dx q e : Addr) (as : List Addr), H r = some (.ins CR dx (rf t q e)) ∧ H q = some (.tup (as.map V.ref)) ∧ DsAt H as ds ∧ H e = some (.dK (kvS (eff rs ds) (plc rs)))
  tree : TreeAt C H t rs
  un : Unl0 rs
  vd : VDs rs ds
  len : ds.length ≤ 100
theorem RowAt.same {C CR : Addr} {H H' : Hp} {r t : Addr} {rs : List Row} {ds : List De} (h : RowAt C CR H r t rs ds) (s : Same H H') : RowAt C CR H' r t rs ds := by
  obtain ⟨dx, q, e, as, h1, h2, h3, h4⟩ := h.ex
  exact ⟨⟨dx, q, e, as, s _ _ h1, s _ _ h2, h3.same s, s _ _ h4⟩, h.tree.same s, h.un, h.vd, h.len⟩
theorem RowAt.kl {C CR : Addr} {H H' : Hp} {r t : Addr} {rs : List Row} {ds : List De} (h : RowAt C CR H r t rs ds) (s : KL H H') : RowAt C CR H' r t rs ds := by
  obtain ⟨dx, q, e, as, h1, h2, h3, h4⟩ := h.ex
  exact ⟨⟨dx, q, e, as, s _ _ h1 (fun _ e => nomatch e), s _ _ h2 (fun _ e => nomatch e), ⟨h3.len, fun i a d x y => s _ _ (h3.at_ i a d x y) (fun _ e => nomatch e)⟩, s _ _ h4 (fun _ e => nomatch e)⟩, h.tree.kl s, h.un, h.vd, h.len⟩
structure TxR (K : PySem.W.Frag) (mg : Str → Option Value) (CR : Addr) : Prop where
  cl : Cls K CR
  nt : NoAttr K CR "tree"
  np : NoAttr K CR "pairs"
  ne : NoAttr K CR "effects"
  g : mg "Row" = some (.ref CR)
def spRowInit (C CR : Addr) : Sp := fun vs H Q _ => ∃ (r dx t h : Addr) (rs : List Row) (as : List Addr) (ds : List De), vs = [.ref r, .ref t, .ref h] ∧ H r = some (.ins CR dx []) ∧ TreeAt C H t rs ∧ Unl0 rs ∧ Seq H h (as.map V.ref) ∧ SeqDs H as ds ∧ VDs rs ds ∧ ds.length ≤ 100 ∧
  ∀ H', SB r H H' → RowAt C CR H' r t rs ds → Q .non H'
def spREq (K : PySem.W.Frag) (C CR : Addr) : Sp := fun vs H Q _ => ∃ (r t : Addr) (x : V) (rs : List Row) (ds : List De), vs = [.ref r, x] ∧ RowAt C CR H r t rs ds ∧
  ((∃ (r2 t2 : Addr) (es : List De), x = .ref r2 ∧ RowAt C CR H r2 t2 rs es ∧ Q (.bl (alikeE rs ds es)) H) ∨ (Other K H x (.ref CR) ∧ Q (.bl false) H))
def spRDeeds (C CR : Addr) : Sp := fun vs H Q _ => ∃ (r t : Addr) (rs : List Row) (ds : List De), vs = [.ref r] ∧ RowAt C CR H r t rs ds ∧ ∀ D as, H D = none → DsAt H as ds → Q (.ref D) (upd H D (.lst (as.map V.ref)))
theorem iteNS' {c : Bool} {A B : Prop} (h : c = true) (a : A) : if c = true then A else B := by rw [if_pos h]; exact a
theorem words_flat {rs : List Row} {f g : Str → Str} : ∀ z ∈ plc rs, flatV ((fun z => V.str (f z)) z) = true ∧ flatV ((fun z => V.str (g z)) z) = true := fun z _ => ⟨rfl, rfl⟩
section
variable {P : Program} {w : World} {K : PySem.W.Frag} {mg : Str → Option Value} {base : Heap} {C CR : Addr}
abbrev nEff : List Str := ["tree", "deeds", "effects", "box", "word", "place"]
theorem sc_effects : FnScope nEff ["tree", "deeds"] (defScope s_effects_of) := ⟨rfl, rfl, rfl, by decide +kernel, rfl, by decide +kernel, by decide +kernel⟩
theorem ok_effects (D : DefAt K mg "effects_of" s_effects_of ["tree", "deeds"]) (TC : TxC K mg) (TD : TxD K mg w) (T : TxT K mg C)
    (mB : MethAt K C "below" "Tree.below" s_Tree_below ["self", "box"]) (GB : FnOk P w K mg base CX0 5 mB.f mB.fd ["self", "box"] (spListOf C belowL)) : FnOk P w K mg base CX0 6 D.f D.fd ["tree", "deeds"] (spEffects C) := by
  obtain ⟨t1, gT⟩ := TC.top
  obtain ⟨t2, gF⟩ := TD.flip
  obtain ⟨t3, gK⟩ := TD.keep
  refine D.F.ok sc_effects (fun vs H Q E h => ?_) (fun cdv A outer s H vs Q E hr h => ?_)
  · obtain ⟨t, q, rs, as, ds, rfl, _⟩ := h
    rfl
  · obtain ⟨t, q, rs, as, ds, rfl, ht, hq1, hds, hvd, hq⟩ := h
    have hu := hu_of hr
    refine ⟨_, pss_cons (ps_set (i := 2) sc_effects.nd rfl (.inl rfl) (pe_disp (pps_cons (pe_glob (by rfl) gT (v := .str ("top" : Str)) ⟨_, rfl⟩) (pe_glob (by rfl) gK (v := .str ("keep" : Str)) ⟨_, rfl⟩) pps_nil) (by rfl) (by rfl) (fun z => by cases z) (by decide)))
      (pss_cons (ps_for PassesOwn.never rfl (pi_list (pe_meth (pv 0) T.cl mB.m GB hr mB.b .nil pass0 (pa_cons (pe_glob (by rfl) gT (v := .str ("top" : Str)) ⟨_, rfl⟩) pa_nil))) (pg_name (i := 3) sc_effects.nd rfl (.inl rfl))
        (pss_one (ps_dput hu (pv 2) (pv 3) (pe_glob (by rfl) gK (v := .str ("keep" : Str)) ⟨_, rfl⟩) rfl)))
      (pss_cons (ps_for PassesOwn.never rfl (pi_tup (pv 1)) (pg_tup rfl (pgs_cons (pg_name (i := 4) sc_effects.nd rfl (.inl rfl)) (pgs_cons (pg_name (i := 5) sc_effects.nd rfl (.inl rfl)) pgs_nil)))
        (pss_one (ps_for PassesOwn.never rfl (pi_list (pe_op op_cat (pe_lst (pa_cons (pv 5) pa_nil)) (pe_meth (pv 0) T.cl mB.m GB hr mB.b .nil pass0 (pa_cons (pv 5) pa_nil)))) (pg_name (i := 3) sc_effects.nd rfl (.inl rfl))
          (pss_one (ps_dput hu (pv 2) (pv 3) (pe_weak (pe_ifExp (pt_cmpR op_eq (pv 4) (pe_glob (by rfl) gF (v := .str ("flip" : Str)) ⟨_, rfl⟩) (nomark _)) (pe_ix ix_kdict (pe_glob (by rfl) TD.fl (v := .ref TD.flA) rfl) (pe_dget hu (pv 2) (pv 3) (fun _ _ => rfl)) (fun _ _ => rfl)) (pv 4))) rfl)))))
      (pss_one (ps_ret (pv 2))))), ?_⟩
    have hv := ht.val
    have l100 := ht.len
    have nd := plc_nd hv
    obtain ⟨dx, tq, tf_, tk, tp, tqs, h1, _⟩ := id ht.ex
    have noB : (tf tq tf_ tk tp).lookup ("below" : Str) = none := tf_no _ _ _ _ (by decide +kernel) (by decide +kernel) (by decide +kernel) (by decide +kernel)
    refine fun wd hwd => ⟨upd_same, [(.inr ("top" : Str), .str ("keep" : Str))], rfl, (by show 1 ≤ 15; decide), ?_⟩
    have sA : Same H (upd (upd H wd (.dK [])) wd (.dK (mergeK [] [(.inr ("top" : Str), .str ("keep" : Str))]))) := fun b o e => by
      rw [upd_ne (ne_of_none e hwd), upd_ne (ne_of_none e hwd)]; exact e
    have eA : (upd (upd H wd (.dK [])) wd (.dK (mergeK [] [(.inr ("top" : Str), .str ("keep" : Str))]))) wd = some (.dK (kvS (fun _ => "keep") ((plc rs).take 1))) := upd_same
    generalize upd (upd H wd (.dK [])) wd (.dK (mergeK [] [(.inr ("top" : Str), .str ("keep" : Str))])) = H1 at sA eA
    refine ⟨_, rfl, t, dx, _, rfl, sA _ _ h1, noB, t, ("top" : Str), rs, rfl, ht.same sA, .inl rfl, fun bl H2 hbl s2 e2 => ?_⟩
    rw [below_top hv] at e2
    have nw : ∀ {b : Addr} {o : HO}, H b = some o → b ≠ wd := fun {b o} e => ne_of_none e hwd
    have nbw : bl ≠ wd := fun e => by rw [← e, hbl] at eA; cases eA
    have s12 := sA.trans s2
    refine ⟨bl, rfl, ⟨_, SqL.of e2⟩, ?_⟩
    refine for_list (K := K) (a := bl) (xs := (names rs).map V.str) (fun i σ H' => ∃ v : Option V, σ = [some (.ref t), some (.ref q), some (.ref wd), v, none, none] ∧ SB wd H2 H' ∧ H' wd = some (.dK (kvS (fun _ => "keep") ((plc rs).take (i + 1))))) ⟨_, rfl, SB.refl _ _, s2 _ _ eA⟩ (fun i σ H' _ ⟨_, _, sb, _⟩ => SqL.of (sb _ _ nbw e2)) ?_ ?_
    · rintro i x σ H3 hx ⟨v, rfl, sb, hw⟩
      rw [List.getElem?_map] at hx
      obtain ⟨z, hz, rfl⟩ := Option.map_eq_some_iff.mp hx
      have hp1 : (plc rs)[i + 1]? = some z := by
        show (("top" : Str) :: names rs)[i + 1]? = some z
        rw [List.getElem?_cons_succ]; exact hz
      refine ⟨_, rfl, _, rfl, wd, _, rfl, DPut.k (k := Sum.inr z) hw (small1000 (by unfold kvS; rw [kvX_len, List.length_take, plc_len']; omega)), ?_⟩
      refine ⟨_, rfl, fun b o nb e => by rw [upd_ne nb]; exact sb b o nb e, ?_⟩
      rw [upd_same]
      exact congrArg (fun l => some (HO.dK l)) (kvX_more nd (fun _ => V.str "keep") hp1)
    rintro σ H3 ⟨v3, rfl, sb, hw⟩
    rw [show (plc rs).take (((names rs).map V.str).length + 1) = plc rs from by
      rw [List.length_map]
      exact List.take_of_length_le (Nat.le_refl _)] at hw
    have s3 : ∀ b o, H b = some o → H3 b = some o := fun b o e => sb _ _ (nw e) (s12 _ _ e)
    have lpl : (plc rs).length ≤ 101 := by rw [plc_len']; omega
    refine ⟨_, rfl, q, rfl, ⟨_, sqT (s3 _ _ hq1)⟩, ?_⟩
    refine for_tup (K := K) (a := q) (xs := as.map V.ref) (fun i σ H' => ∃ v3 v4 v5 : Option V, σ = [some (.ref t), some (.ref q), some (.ref wd), v3, v4, v5] ∧ Same H H' ∧ H' wd = some (.dK (kvS (eff rs (ds.take i)) (plc rs)))) ⟨_, _, _, rfl, s3, hw⟩ (fun i σ H' _ ⟨_, _, _, _, s, _⟩ => sqT (s _ _ hq1)) ?_ ?_
    · rintro i x σ H4 hx ⟨v3, v4, v5, rfl, s4, hw4⟩
      obtain ⟨a, d, rfl, ha, hd, he⟩ := hds.get hx
      obtain ⟨hwd3, hpl⟩ := hvd d (List.mem_of_getElem? hd)
      have hws : Words (ds.take i) := fun x hx => (hvd x (List.mem_of_mem_take hx)).1
      refine ⟨a, _, rfl, sqT (s4 _ _ he), rfl, _, _, rfl, _, _, rfl, rfl, ?_⟩
      refine ⟨_, rfl, (by show 1 ≤ sizeLine; decide), fun lp hlp => ?_⟩
      have s5 : Same H4 (upd H4 lp (.lst [V.str d.2])) := Same.new hlp
      have e5 : (upd H4 lp (.lst [V.str d.2])) lp = some (.lst [V.str d.2]) := upd_same
      generalize upd H4 lp (.lst [V.str d.2]) = H5 at s5 e5
      have s45 := s4.trans s5
      refine ⟨_, rfl, t, dx, _, rfl, s45 _ _ h1, noB, _, rfl, t, d.2, rs, rfl, ht.same s45, mem_plc.mp hpl, fun lb H6 hlb s6 e6 => ?_⟩
      have lbl : (belowL rs d.2).length ≤ 100 := by
        unfold belowL
        rw [List.length_map]
        exact Nat.le_trans (List.length_filter_le _ _) l100
      refine ⟨lp, lb, _, _, rfl, rfl, s6 _ _ e5, e6, szl (by rw [List.length_map]; show 1 + _ ≤ 1000; omega), fun lc hlc => ?_⟩
      have s7 : Same H6 (upd H6 lc (.lst ([V.str d.2] ++ (belowL rs d.2).map V.str))) := Same.new hlc
      have e7 : (upd H6 lc (.lst ([V.str d.2] ++ (belowL rs d.2).map V.str))) lc = some (.lst ((d.2 :: belowL rs d.2).map V.str)) := upd_same
      generalize upd H6 lc (.lst ([V.str d.2] ++ (belowL rs d.2).map V.str)) = H7 at s7 e7
      have s47 := (s5.trans s6).trans s7
      have hw7 := s47 _ _ hw4
      have n7 : lc ≠ wd := fun e => by rw [e, (s5.trans s6) _ _ hw4] at hlc; cases hlc
      refine ⟨lc, rfl, ⟨_, SqL.of e7⟩, ?_⟩
      refine for_list (K := K) (a := lc) (xs := (d.2 :: belowL rs d.2).map V.str) (fun j σ H' => ∃ v3 : Option V, σ = [some (.ref t), some (.ref q), some (.ref wd), v3, some (.str d.1), some (.str d.2)] ∧ SB wd H7 H' ∧ H' wd = some (.dK (kvS (fun b => if b ∈ (d.2 :: belowL rs d.2).take j then (if d.1 = "flip" then flp (eff rs (ds.take i) b) else d.1) else eff rs (ds.take i) b) (plc rs)))) ⟨_, rfl, SB.refl _ _, ?_⟩ (fun j σ H' _ ⟨_, _, sb, _⟩ => SqL.of (sb _ _ n7 e7)) ?_ ?_
      · rw [hw7]
        refine congrArg (fun l => some (HO.dK l)) (kvX_congr fun b _ => ?_)
        rw [List.take_zero]
        dsimp only
        rw [if_neg (by simp)]
      · rintro j x σ H8 hx ⟨v3, rfl, sb8, hw8⟩
        rw [List.getElem?_map] at hx
        obtain ⟨z, hz, rfl⟩ := Option.map_eq_some_iff.mp hx
        have hzp := in_plc hpl z (List.mem_of_getElem? hz)
        have hnot : z ∉ (d.2 :: belowL rs d.2).take j := fun hm => by
          obtain ⟨j2, hj2, e⟩ := List.mem_take_iff_getElem.mp hm
          obtain ⟨hi2, e2⟩ := List.getElem?_eq_some_iff.mp hz
          have := (List.getElem_inj (in_nd hv d.2)).mp (e.trans e2.symm)
          omega
        have dg := DGet.k (k := Sum.inr z) hw8
        rw [show valV (kvS (fun b => if b ∈ (d.2 :: belowL rs d.2).take j then (if d.1 = "flip" then flp (eff rs (ds.take i) b) else d.1) else eff rs (ds.take i) b) (plc rs)) (.inr z : Key) = some (V.str (eff rs (ds.take i) z)) from by
          unfold kvS
          rw [valV_kvX _ hzp]
          dsimp only
          rw [if_neg hnot]] at dg
        refine ⟨fun v H' => v = .str (if d.1 = "flip" then flp (eff rs (ds.take i) z) else d.1) ∧ H' = H8, ?_, ?_⟩
        · refine ⟨_, rfl, rfl, _, rfl, ?_⟩
          refine ite2 (fun hc => ?_) (fun hc => ?_)
          · have hf : d.1 = ("flip" : Str) := V.str.inj (of_decide_eq_true hc)
            refine ⟨_, rfl, _, rfl, wd, _, rfl, dg, TD.flA, _, _, rfl, rfl, TD.flD _ (eff_mem hws z), ?_, rfl⟩
            rw [if_pos hf]
          · have hf : ¬ d.1 = ("flip" : Str) := fun e => hc (decide_eq_true (by rw [e]))
            refine ⟨_, rfl, ?_, rfl⟩
            rw [if_neg hf]
        rintro v H8' ⟨rfl, rfl⟩
        refine ⟨_, rfl, _, rfl, wd, _, rfl, DPut.k (k := Sum.inr z) hw8 (small1000 (by unfold kvS; rw [kvX_len]; omega)), ?_⟩
        refine ⟨_, rfl, fun b o nb e => by rw [upd_ne nb]; exact sb8 b o nb e, ?_⟩
        rw [upd_same]
        unfold kvS
        rw [kvX_put hzp]
        refine congrArg (fun l => some (HO.dK l)) (kvX_congr fun b _ => ?_)
        rw [take_more hz]
        dsimp only
        by_cases eb : b = z
        · subst eb
          rw [if_pos rfl, if_pos (List.mem_append_right _ (List.mem_singleton.mpr rfl))]
        · rw [if_neg eb]
          by_cases ej : b ∈ (d.2 :: belowL rs d.2).take j
          · rw [if_pos ej, if_pos (List.mem_append_left _ ej)]
          · rw [if_neg ej, if_neg (fun h => (List.mem_append.mp h).elim ej fun h => eb (List.mem_singleton.mp h))]
      · rintro σ H8 ⟨v3, rfl, sb8, hw8⟩
        rw [List.length_map, List.take_length] at hw8
        refine ⟨_, _, _, rfl, fun b o e => sb8 _ _ (nw e) (s47 _ _ (s4 _ _ e)), ?_⟩
        rw [hw8, take_more hd, eff_snoc]
        refine congrArg (fun l => some (HO.dK l)) (kvX_congr fun b _ => ?_)
        unfold stepE
        dsimp only
        by_cases c : within rs d.2 b = true
        · rw [if_pos (within_mem.mp c), if_pos c]
        · rw [if_neg (fun h => c (within_mem.mpr h)), if_neg c]
    · rintro σ H4 ⟨v3, v4, v5, rfl, s4, hw4⟩
      rw [List.length_map, hds.len, List.take_length] at hw4
      exact ⟨_, rfl, hq wd H4 hwd s4 hw4⟩
abbrev nRInit : List Str := ["self", "tree", "deeds", "deed"]
theorem sc_R_init : FnScope nRInit ["self", "tree", "deeds"] (defScope s_Row_init) := ⟨rfl, rfl, rfl, by decide +kernel, rfl, by decide +kernel, by decide +kernel⟩
theorem ok_R_init {f : Addr} {fd : FuncData} (F : Fun K "__init__" "Row.__init__" s_Row_init f fd) (B : TxB mg) (R : TxR K mg CR)
    (Du : DefAt K mg "check_unlocked" s_check_unlocked ["tree"]) (Gu : FnOk P w K mg base CX0 6 Du.f Du.fd ["tree"] (spUnlocked C))
    (Dc : DefAt K mg "check_deeds" s_check_deeds ["tree", "deeds"]) (Gc : FnOk P w K mg base CX0 5 Dc.f Dc.fd ["tree", "deeds"] (spCheckDeeds C))
    (De_ : DefAt K mg "effects_of" s_effects_of ["tree", "deeds"]) (Ge : FnOk P w K mg base CX0 6 De_.f De_.fd ["tree", "deeds"] (spEffects C)) :
    FnOk P w K mg base CX0 7 f fd ["self", "tree", "deeds"] (spRowInit C CR) := by
  refine F.ok sc_R_init (fun vs H Q E h => ?_) (fun cdv A outer s H vs Q E hr h => ?_)
  · obtain ⟨r, dx, t, h, rs, as, ds, rfl, _⟩ := h
    rfl
  · obtain ⟨r, dx, t, h, rs, as, ds, rfl, hr0, ht, hun, hh, hds, hvd, hl, hq⟩ := h
    have hr4 : Room 5 _ := hr.mono (by decide)
    refine ⟨_, pss_cons (ps_expr (pe_call Gu hr rfl Du.g Du.F.kp Du.b .nil pass0 (pa_cons (pv 1) pa_nil)))
      (pss_cons (ps_expr (pe_call Gc hr4 rfl Dc.g Dc.F.kp Dc.b .nil pass0 (pa_cons (pv 1) (pa_cons (pv 2) pa_nil))))
      (pss_cons (ps_fld (pv 0) (pv 1) rfl)
      (pss_cons (ps_fld (pv 0) (pe_callTy call_tuple_of (by rfl) B.tuple (by decide +kernel) (pa_cons (pe_lc (own := [("deed", 3)]) (g := gName 3) (tt := tYes) (te := tCB (rTupOf K) (tCons (tVar 3) tNil)) rfl sc_R_init.nd (pi_seqS (i := 2) (pv 2)) (blkOk_by (N := nRInit) (sc := defScope s_Row_init) (by decide +kernel))
          (fun _ _ _ _ _ => pg_name (i := 3) sc_R_init.nd rfl (Or.inl rfl)) (fun _ _ _ _ _ => pts_nil) (fun _ _ _ _ _ => by exact pe_callTy (T := "tuple") call_tuple_of (by rfl) B.tuple (by decide +kernel) (pa_cons (pv 3) pa_nil))) pa_nil)) rfl)
      (pss_one (ps_fld (pv 0) (pe_call Ge hr rfl De_.g De_.F.kp De_.b .nil pass0 (pa_cons (pv 1) (pa_cons (pe_fld (pv 0) rfl) pa_nil))) rfl))))), ?_⟩
    refine ⟨_, rfl, t, rs, rfl, ht, hun, fun H1 s1 => ?_⟩
    refine ⟨_, rfl, _, rfl, t, h, rs, as, ds, rfl, ht.same s1, hh.same s1, hds.same s1, hvd, hl, fun H2 s2 => ?_⟩
    have s12 := s1.trans s2
    have hr2 := s12 _ _ hr0
    refine ⟨_, rfl, _, rfl, r, CR, dx, _, rfl, hr2, R.cl, R.nt, (by show 0 < 1000; decide), ?_⟩
    obtain ⟨Hb, Eb⟩ : ∃ Hx, Hx = upd H2 r (.ins CR dx (putF "tree" (.ref t) [])) := ⟨_, rfl⟩
    have br : Hb r = some (.ins CR dx (putF "tree" (.ref t) [])) := by rw [Eb]; exact upd_same
    have sb : SB r H Hb := fun b o nb e => by rw [Eb, upd_ne nb]; exact s12 _ _ e
    rw [← Eb]
    clear Eb
    have hnr : ∀ {b : Addr} {xs : List V}, H b = some (.tup xs) ∨ H b = some (.lst xs) → b ≠ r := fun {b xs} e q => by
      rw [q, hr0] at e
      rcases e with e | e <;> cases e
    have tb := ht.sbm hr0 sb
    have hhb : Seq Hb h (as.map V.ref) := hh.imp (fun e => sb _ _ (hnr (.inl e)) e) (fun e => sb _ _ (hnr (.inr e)) e)
    have hdsb : SeqDs Hb as ds := ⟨hds.len, fun i a d x y => (hds.at_ i a d x y).imp (fun e => sb _ _ (hnr (.inl e)) e) (fun e => sb _ _ (hnr (.inr e)) e)⟩
    refine ⟨h, _, rfl, hhb, fun J W D hD => ?_⟩
    refine lc_it W (fun i H' => ∃ qs : List Addr, Same Hb H' ∧ DsAt H' qs (ds.take i) ∧ H' D = some (.lst (qs.map V.ref))) ⟨[], Same.new hD, DsAt.nil, upd_same⟩ (fun i H' _ ⟨_, sm, _, _⟩ => ?_) ?_ ?_
    · rcases hhb with z | z <;> rw [z] <;> exact sm _ _ z
    · rintro i x H3 H3' hi ⟨qs, sm, rq, hD2⟩ ⟨rfl, hx⟩
      obtain ⟨a, d, rfl, ha, hd, hsq⟩ := hdsb.get hx
      have rr : Seq H3' a (deV d) := hsq.same sm
      have sz : (qs.map V.ref).length < sizeLine := small1000 (by rw [List.length_map, rq.len, List.length_take]; omega)
      have fin : ∀ (l : Addr) (H4 : Hp), H4 l = some (.tup (deV d)) → Same H3' H4 → ∃ qs' : List Addr, Same Hb (upd H4 D (.lst (qs.map V.ref ++ [V.ref l]))) ∧ DsAt (upd H4 D (.lst (qs.map V.ref ++ [V.ref l]))) qs' (ds.take (i + 1)) ∧ (upd H4 D (.lst (qs.map V.ref ++ [V.ref l]))) D = some (.lst (qs'.map V.ref)) := by
        intro l H4 hl4 s4
        have kt : ∀ {b : Addr} {xs : List V}, H4 b = some (.tup xs) → (upd H4 D (.lst (qs.map V.ref ++ [V.ref l]))) b = some (.tup xs) := fun {b xs} h => by
          rw [upd_ne (fun q => by rw [q, s4 _ _ hD2] at h; cases h)]
          exact h
        refine ⟨qs ++ [l], fun b o e => ?_, ?_, ?_⟩
        · rw [upd_ne (fun q => by rw [q, hD] at e; cases e)]
          exact s4 _ _ (sm _ _ e)
        · rw [take_more hd]
          exact DsAt.snoc ⟨rq.len, fun j b q hb hq' => kt (s4 _ _ (rq.at_ j b q hb hq'))⟩ (kt hl4)
        · rw [upd_same, List.map_append]; rfl
      refine ⟨rfl, tYes_if ⟨_, rfl, a, deV d, rfl, ?_⟩⟩
      rcases rr with z | z
      · exact .inr ⟨sqT z, qs.map V.ref, hD2, sz, fin a _ z (Same.refl _)⟩
      · exact .inl ⟨SqL.of z, fun l hl' => ⟨qs.map V.ref, (Same.new hl') _ _ hD2, sz, fin l _ upd_same (Same.new hl')⟩⟩
    · rintro H3 ⟨qs, sm, rq, hD2⟩
      rw [List.length_map, hds.len, List.take_length] at rq
      refine ⟨D, _, rfl, .inl ⟨SqL.of hD2, fun q hq' => ?_⟩⟩
      have s4 : Same Hb (upd H3 q (.tup (qs.map V.ref))) := sm.trans (Same.new hq')
      have e4 : (upd H3 q (.tup (qs.map V.ref))) q = some (.tup (qs.map V.ref)) := upd_same
      have r4 : DsAt (upd H3 q (.tup (qs.map V.ref))) qs ds := rq.same (Same.new hq')
      have nqr : q ≠ r := fun e => by rw [e, sm _ _ br] at hq'; cases hq'
      generalize upd H3 q (.tup (qs.map V.ref)) = H4 at s4 e4 r4
      refine ⟨_, rfl, r, CR, dx, _, rfl, s4 _ _ br, R.cl, R.np, (Nat.lt_of_le_of_lt (putF_len _ _ _) (by decide)), ?_⟩
      obtain ⟨H5, E5⟩ : ∃ Hx, Hx = upd H4 r (.ins CR dx (putF "pairs" (.ref q) (putF "tree" (.ref t) []))) := ⟨_, rfl⟩
      have r5 : H5 r = some (.ins CR dx (putF "pairs" (.ref q) (putF "tree" (.ref t) []))) := by rw [E5]; exact upd_same
      have sb5 : SB r H H5 := fun b o nb e => by rw [E5, upd_ne nb]; exact s4 _ _ (sb b o nb e)
      have q5 : H5 q = some (.tup (qs.map V.ref)) := by rw [E5, upd_ne nqr]; exact e4
      have ntr : ∀ {b : Addr} {xs : List V}, H4 b = some (.tup xs) → b ≠ r := fun {b xs} e y => by rw [y, s4 _ _ br] at e; cases e
      have d5 : DsAt H5 qs ds := ⟨r4.len, fun i a d x y => by rw [E5, upd_ne (ntr (r4.at_ i a d x y))]; exact r4.at_ i a d x y⟩
      rw [← E5]
      clear E5
      have lkp : (putF "pairs" (.ref q) (putF "tree" (.ref t) [])).lookup ("pairs" : Str) = some (V.ref q) := by rw [lookup_putF, if_pos rfl]
      refine ⟨_, rfl, _, rfl, r, CR, dx, _, _, rfl, r5, R.cl, R.np, lkp, t, q, rs, qs, ds, rfl, ht.sbm hr0 sb5, q5, d5, hvd, fun kd H6 hkd s6 e6 => ?_⟩
      refine ⟨_, rfl, r, CR, dx, _, rfl, s6 _ _ r5, R.cl, R.ne, (Nat.lt_of_le_of_lt (Nat.le_trans (putF_len _ _ _) (Nat.succ_le_succ (putF_len _ _ _))) (by decide)), ?_⟩
      have sb7 : SB r H (upd H6 r (.ins CR dx (rf t q kd))) := fun b o nb e => by rw [upd_ne nb]; exact s6 _ _ (sb5 b o nb e)
      have nkr : kd ≠ r := fun e => by rw [e, r5] at hkd; cases hkd
      refine hq _ sb7 ⟨⟨dx, q, kd, qs, upd_same, by rw [upd_ne nqr]; exact s6 _ _ q5, ⟨d5.len, fun i a d x y => ?_⟩, by rw [upd_ne nkr]; exact e6⟩, ht.sbm hr0 sb7, hun, hvd, hl⟩
      have ea := d5.at_ i a d x y
      rw [upd_ne (fun e => by rw [e, r5] at ea; cases ea)]
      exact s6 _ _ ea
theorem sc_R_eq : FnScope ["self", "other"] ["self", "other"] (defScope s_Row_eq) := ⟨rfl, rfl, rfl, by decide +kernel, rfl, by decide +kernel, by decide +kernel⟩
theorem ok_R_eq {f : Addr} {fd : FuncData} (F : Fun K "__eq__" "Row.__eq__" s_Row_eq f fd) (B : TxB mg) (R : TxR K mg CR) (I : C8.InsC K CR)
    (mE : MethAt K C "__eq__" "Tree.__eq__" s_Tree_eq ["self", "other"]) (GE : FnOk P w K mg base CX0 2 mE.f mE.fd ["self", "other"] (spEqT K C)) : FnOk P w K mg base CX0 3 f fd ["self", "other"] (spREq K C CR) := by
  refine F.ok sc_R_eq (fun vs H Q E h => ?_) (fun cdv A outer s H vs Q E hr h => ?_)
  · obtain ⟨r, t, x, rs, ds, rfl, _⟩ := h
    rfl
  · obtain ⟨r, t, x, rs, ds, rfl, hm, h⟩ := h
    have hu64 := hr.units
    obtain ⟨dx, q, e, as, h1, h2, h3, h4⟩ := hm.ex
    refine ⟨_, pss_one (ps_ret (pe_and (pe_callB call_isi (by rfl) B.isinstance (by decide +kernel) (pa_cons (pv 1) (pa_cons (pe_glob (by rfl) R.g (v := .ref CR) rfl) pa_nil)))
      (pe_and (pe_cmpR (op_eqC GE mE.m hr mE.b pass0) (pe_fld (pv 0) rfl) (pe_fld (pv 1) rfl) (nomark _))
      (pe_one (pe_cmpR (op_eqX (Nat.lt_of_le_of_lt (Nat.le_add_right _ _) hu64)) (pe_fld (pv 0) rfl) (pe_fld (pv 1) rfl) (nomark _)))))), ?_⟩
    rcases h with ⟨r2, t2, es, rfl, hm2, hq⟩ | ⟨⟨ty, hty, hk⟩, hq⟩
    · obtain ⟨dx', q', e', as', g1, g2, g3, g4⟩ := hm2.ex
      obtain ⟨tx, _, _, _, _, _, k1, _⟩ := id hm.tree.ex
      obtain ⟨tx2, _, _, _, _, _, k3, _⟩ := id hm2.tree.ex
      refine ⟨_, rfl, _, _, _, _, true, rfl, .own CR, .base (.ins g1 I.cl I.ha I.hn I.htk I.hm), I.me, _, rfl, iteT ?_⟩
      refine ⟨_, rfl, r, CR, dx, _, _, rfl, h1, R.cl, R.nt, rf_t _ _ _, _, rfl, r2, CR, dx', _, _, rfl, g1, R.cl, R.nt, rf_t _ _ _, t, tx, _, .ref C, rfl, k1, .ins k3, nfC, t, .ref t2, rs, rfl, hm.tree, .inl ⟨t2, rs, rfl, hm2.tree, ?_⟩⟩
      refine ⟨_, rfl, _, rfl, ?_⟩
      refine iteNS' (by simp) ?_
      refine ⟨_, rfl, r, CR, dx, _, _, rfl, h1, R.cl, R.ne, rf_e _ _ _, _, rfl, r2, CR, dx', _, _, rfl, g1, R.cl, R.ne, rf_e _ _ _, e, e', _, _, plc rs, rfl, rfl, h4, g4, words_flat, ?_⟩
      rw [eff_alike]
      exact hq
    · exact ⟨_, rfl, _, _, _, _, false, rfl, .own CR, hty, hk, _, rfl, iteF hq⟩
theorem sc_R_deeds : FnScope ["self"] ["self"] (defScope s_Row_deeds) := ⟨rfl, rfl, rfl, by decide +kernel, rfl, by decide +kernel, by decide +kernel⟩
theorem ok_R_deeds {f : Addr} {fd : FuncData} (F : Fun K "deeds" "Row.deeds" s_Row_deeds f fd) (B : TxB mg) (R : TxR K mg CR) : FnOk P w K mg base CX0 2 f fd ["self"] (spRDeeds C CR) := by
  refine F.ok sc_R_deeds (fun vs H Q E h => ?_) (fun cdv A outer s H vs Q E hr h => ?_)
  · obtain ⟨r, t, rs, ds, rfl, _⟩ := h
    rfl
  · obtain ⟨r, t, rs, ds, rfl, hm, hq⟩ := h
    obtain ⟨dx, q, e, as, h1, h2, h3, h4⟩ := hm.ex
    refine ⟨_, pss_one (ps_ret (pe_callTy (T := "list") call_list_of (by rfl) B.list (by decide +kernel) (pa_cons (pe_fld (pv 0) rfl) pa_nil))), ?_⟩
    exact ⟨_, rfl, r, CR, dx, _, _, rfl, h1, R.cl, R.np, rf_p _ _ _, q, _, rfl, .inr (sqT h2), fun l hl => hq l as hl h3⟩
end
end Ts

set_option maxRecDepth 100000
set_option maxHeartbeats 4000000
namespace Ts
open PySem L2
/-! ### deeds and numbers as data -/
def deD (d : De) : PyData := .tuple [.str d.1, .str d.2]
theorem ds_dp {K : PySem.W.Frag} {H : Hp} : ∀ {as : List Addr} {ds : List De}, DsAt H as ds → DpAll K H (as.map V.ref) (ds.map deD)
  | [], [], _ => .nil
  | [], _ :: _, h => by have := h.len; simp at this
  | _ :: _, [], h => by have := h.len; simp at this
  | a :: as, d :: ds, h => .cons (.tup (sqT (h.at_ 0 a d rfl rfl)) (.cons (.str _) (.cons (.str _) .nil))) (ds_dp ⟨by simpa using h.len, fun i b q hb hq => h.at_ (i + 1) b q (by simpa using hb) (by simpa using hq)⟩)
theorem ds_lay : ∀ (ds : List De), (∀ d ∈ ds, PyData.strOk d.1 = true ∧ PyData.strOk d.2 = true) → PyData.canLayAll0 (ds.map deD) = true
  | [], _ => by simp [PyData.canLayAll0]
  | d :: ds, h => by
    obtain ⟨h1, h2⟩ := h d (List.mem_cons_self ..)
    simp only [List.map_cons, PyData.canLayAll0, deD, PyData.canLay0, h1, h2, Bool.and_self, Bool.true_and]
    exact ds_lay ds fun q hq => h q (List.mem_cons_of_mem _ hq)
theorem ds_depth : ∀ (ds : List De), PyData.depthAll (ds.map deD) ≤ 1
  | [] => by simp [PyData.depthAll]
  | d :: ds => by
    have ih := ds_depth ds
    simp only [List.map_cons, PyData.depthAll, deD, PyData.depth]
    omega
theorem ds_shaped {ds : List De} (h : ∀ d ∈ ds, PyData.strOk d.1 = true ∧ PyData.strOk d.2 = true) : SeqAt.shaped (.list (ds.map deD)) = true := by
  have q := ds_depth ds
  unfold SeqAt.shaped
  rw [Bool.and_eq_true]
  refine ⟨by simp only [PyData.canLay0]; exact ds_lay ds h, decide_eq_true ?_⟩
  simp only [PyData.depth]
  omega
theorem VDs.ok {rs : List Row} (hv : Valid rs) {ds : List De} (h : VDs rs ds) : ∀ d ∈ ds, PyData.strOk d.1 = true ∧ PyData.strOk d.2 = true := fun d hd => by
  obtain ⟨h1, h2⟩ := h d hd
  refine ⟨words4_ok _ (words_sub _ h1), ?_⟩
  rcases mem_plc.mp h2 with e | e
  · rw [e]; exact top_ok
  · exact names_ok hv _ e
theorem eqvAll_refl' : ∀ (l : List De), PyData.eqvAll (l.map deD) (l.map deD) = true
  | [] => by simp [PyData.eqvAll]
  | d :: l => by
    simp only [List.map_cons, PyData.eqvAll, deD, PyData.eqv, str_beq, decide_eq_true_eq, Bool.and_true]
    rw [eqvAll_refl' l]
    simp
theorem ints_dp {K : PySem.W.Frag} {H : Hp} : ∀ (l : List Nat), DpAll K H (l.map fun i : Nat => V.int (i : Int)) (l.map fun i : Nat => PyData.int (i : Int))
  | [] => .nil
  | x :: l => .cons (.int _) (ints_dp l)
theorem ints_lay : ∀ (l : List Nat), PyData.canLayAll0 (l.map fun i : Nat => PyData.int (i : Int)) = true
  | [] => by simp [PyData.canLayAll0]
  | d :: ds => by
    simp only [List.map_cons, PyData.canLayAll0, PyData.canLay0, Bool.true_and]
    exact ints_lay ds
theorem ints_depth : ∀ (l : List Nat), PyData.depthAll (l.map fun i : Nat => PyData.int (i : Int)) = 0
  | [] => by simp [PyData.depthAll]
  | d :: ds => by simp only [List.map_cons, PyData.depthAll, PyData.depth, ints_depth ds]; rfl
theorem ints_shaped (l : List Nat) : SeqAt.shaped (.list (l.map fun i : Nat => PyData.int (i : Int))) = true := by
  unfold SeqAt.shaped
  rw [Bool.and_eq_true]
  refine ⟨by simp only [PyData.canLay0]; exact ints_lay l, decide_eq_true ?_⟩
  simp only [PyData.depth, ints_depth]
  omega
theorem ints_eqv : ∀ (a b : List Nat), PyData.eqvAll (a.map fun i : Nat => PyData.int (i : Int)) (b.map fun i : Nat => PyData.int (i : Int)) = decide (a = b)
  | [], [] => by simp [PyData.eqvAll]
  | [], _ :: _ => by simp [PyData.eqvAll]
  | _ :: _, [] => by simp [PyData.eqvAll]
  | x :: a, y :: b => by
    have e : ((x : Int) = (y : Int)) ↔ x = y := by omega
    simp only [List.map_cons, PyData.eqvAll, PyData.eqv, ints_eqv a b]
    by_cases h1 : x = y <;> by_cases h2 : a = b <;> simp [h1, h2, e]
theorem rd_neI {K : PySem.W.Frag} {H : Hp} {p q : Addr} {l : List Nat} {xs : List V} {Q : VK} (h1 : H p = some (.lst (l.map fun i : Nat => V.int (i : Int)))) (h2 : H q = some (.lst xs)) (e : xs = l.map fun i : Nat => V.int (i : Int)) (k : Q (.bl false) H) : rNeD K (.ref p) (.ref q) H Q := by
  subst e
  refine ⟨_, _, .lst (SqL.of h1) (ints_dp l), .lst (SqL.of h2) (ints_dp l), ints_shaped l, ints_shaped l, ?_⟩
  simp only [PyData.eqv]
  rw [ints_eqv, decide_eq_true rfl]
  exact k
theorem rd_eqI {K : PySem.W.Frag} {H : Hp} {p q : Addr} {l : List Nat} {xs : List V} {Q : VK} (h1 : H p = some (.lst (l.map fun i : Nat => V.int (i : Int)))) (h2 : H q = some (.lst xs)) (e : xs = l.map fun i : Nat => V.int (i : Int)) (k : Q (.bl true) H) : rEqD K (.ref p) (.ref q) H Q := by
  subst e
  refine ⟨_, _, .lst (SqL.of h1) (ints_dp l), .lst (SqL.of h2) (ints_dp l), ints_shaped l, ints_shaped l, ?_⟩
  simp only [PyData.eqv]
  rw [ints_eqv, decide_eq_true rfl]
  exact k
theorem rd_neDs {K : PySem.W.Frag} {H : Hp} {p q : Addr} {as bs : List Addr} {ds : List De} {Q : VK} (h1 : H p = some (.lst (as.map V.ref))) (d1 : DsAt H as ds) (h2 : H q = some (.lst (bs.map V.ref))) (d2 : DsAt H bs ds) (ok : ∀ d ∈ ds, PyData.strOk d.1 = true ∧ PyData.strOk d.2 = true) (k : Q (.bl false) H) : rNeD K (.ref p) (.ref q) H Q := by
  refine ⟨_, _, .lst (SqL.of h1) (ds_dp d1), .lst (SqL.of h2) (ds_dp d2), ds_shaped ok, ds_shaped ok, ?_⟩
  simp only [PyData.eqv]
  rw [eqvAll_refl']
  exact k
theorem rd_neNil {K : PySem.W.Frag} {H : Hp} {p q : Addr} {as : List Addr} {ds : List De} {Q : VK} (h1 : H p = some (.lst (as.map V.ref))) (d1 : DsAt H as ds) (h2 : H q = some (.lst [])) (ok : ∀ d ∈ ds, PyData.strOk d.1 = true ∧ PyData.strOk d.2 = true) (k : Q (.bl (decide (ds ≠ []))) H) : rNeD K (.ref p) (.ref q) H Q := by
  refine ⟨_, .list [], .lst (SqL.of h1) (ds_dp d1), .lst (SqL.of h2) .nil, ds_shaped ok, by decide, ?_⟩
  have e : (!PyData.eqv (.list (ds.map deD)) (.list [])) = decide (ds ≠ []) := by
    cases ds with
    | nil => simp [PyData.eqv, PyData.eqvAll]
    | cons d ds => simp [PyData.eqv, PyData.eqvAll]
  rw [e]
  exact k
theorem valid_nil : Valid [] := fun i r h => by simp at h
end Ts

set_option maxRecDepth 100000
set_option maxHeartbeats 4000000
namespace Ts
open PySem L2
def spCheckTreesR (C CR : Addr) : Sp := fun vs H Q _ => ∃ (r r2 t t2 : Addr) (rs : List Row) (ds es : List De), vs = [.ref r, .ref r2] ∧ RowAt C CR H r t rs ds ∧ RowAt C CR H r2 t2 rs es ∧ Q .non H
def spRAdd (C CR : Addr) : Sp := fun vs H Q _ => ∃ (r r2 t t2 : Addr) (rs : List Row) (ds es : List De), vs = [.ref r, .ref r2] ∧ RowAt C CR H r t rs ds ∧ RowAt C CR H r2 t2 rs es ∧ ds.length + es.length ≤ 100 ∧ ∀ r3 H', Same H H' → RowAt C CR H' r3 t rs (ds ++ es) → Q (.ref r3) H'
def spRMaps (C CR : Addr) : Sp := fun vs H Q _ => ∃ (r t : Addr) (rs : List Row) (ds : List De), vs = [.ref r] ∧ RowAt C CR H r t rs ds ∧ ∀ D, H D = none → Q (.ref D) (upd H D (.dK (kvS (eff rs ds) (plc rs))))
def clashL (rs : List Row) (ds es : List De) : Option Str := (plc rs).find? fun z => decide (eff rs (ds ++ es) z ≠ eff rs (es ++ ds) z)
def spClash (C CR : Addr) : Sp := fun vs H Q _ => ∃ (r r2 t t2 : Addr) (rs : List Row) (ds es : List De), vs = [.ref r, .ref r2] ∧ RowAt C CR H r t rs ds ∧ RowAt C CR H r2 t2 rs es ∧ ds.length + es.length ≤ 100 ∧ ∀ H', Same H H' → Q (optS (clashL rs ds es)) H'
theorem VDs.append {rs : List Row} {ds es : List De} (h : VDs rs ds) (k : VDs rs es) : VDs rs (ds ++ es) := fun d hd => (List.mem_append.mp hd).elim (h d) (k d)
theorem lock_backE {H H' : Hp} {d : Addr} {u : HO} {od : Obj} (hd : H d = some u) (s : Same (upd H d (.frz od u)) H') : Same H (upd H' d u) := fun b o e => by
  by_cases q : b = d
  · rw [q, upd_same, ← e, q]; exact hd.symm
  · rw [upd_ne q]; exact s _ _ (by rw [upd_ne q]; exact e)
section
variable {P : Program} {w : World} {K : PySem.W.Frag} {mg : Str → Option Value} {base : Heap} {C CR : Addr}
theorem sc_check_treesE : FnScope ["one", "other"] ["one", "other"] (defScope s_check_trees) := ⟨rfl, rfl, rfl, by decide +kernel, rfl, by decide +kernel, by decide +kernel⟩
theorem ok_check_treesR (D : DefAt K mg "check_trees" s_check_trees ["one", "other"]) (R : TxR K mg CR) (N : TxN K C)
    (mE : MethAt K C "__eq__" "Tree.__eq__" s_Tree_eq ["self", "other"]) (GE : FnOk P w K mg base CX0 2 mE.f mE.fd ["self", "other"] (spEqT K C)) : FnOk P w K mg base CX0 4 D.f D.fd ["one", "other"] (spCheckTreesR C CR) := by
  refine D.F.ok sc_check_treesE (fun vs H Q E h => ?_) (fun cdv A outer s H vs Q E hr h => ?_)
  · obtain ⟨m, m2, t, t2, rs, ds, es, rfl, _⟩ := h
    rfl
  · obtain ⟨m, m2, t, t2, rs, ds, es, rfl, hm, hm2, hq⟩ := h
    obtain ⟨dx, u, k, as, h1, h2, h3, h4⟩ := hm.ex
    obtain ⟨dx2, u2, k2, as2, g1, g2, g3, g4⟩ := hm2.ex
    obtain ⟨tdx, _, _, _, _, _, t1, _⟩ := id hm.tree.ex
    obtain ⟨tdx2, _, _, _, _, _, t3, _⟩ := id hm2.tree.ex
    refine ⟨_, pss_one (ps_if (pt_cmpR (op_neC GE mE.m N.ne N.ob hr mE.b pass0) (pe_fld (pv 0) rfl) (pe_fld (pv 1) rfl) (nomark _)) (pss_one ps_never) pss_nil), ?_⟩
    refine ⟨_, rfl, m, CR, dx, _, _, rfl, h1, R.cl, R.nt, rf_t _ _ _, _, rfl, m2, CR, dx2, _, _, rfl, g1, R.cl, R.nt, rf_t _ _ _, t, tdx, _, .ref C, rfl, t1, .ins t3, nfC, t, _, rs, rfl, hm.tree, .inl ⟨t2, rs, rfl, hm2.tree, _, rfl, _, rfl, ?_⟩⟩
    exact iteF' (by simp) hq
theorem sc_R_add : FnScope ["self", "other"] ["self", "other"] (defScope s_Row_add) := ⟨rfl, rfl, rfl, by decide +kernel, rfl, by decide +kernel, by decide +kernel⟩
theorem ok_R_add {f : Addr} {fd : FuncData} {fR : Addr} {fdR : FuncData} (F : Fun K "__add__" "Row.__add__" s_Row_add f fd) (R : TxR K mg CR) (Dc : DefAt K mg "check_trees" s_check_trees ["one", "other"]) (Gc : FnOk P w K mg base CX0 4 Dc.f Dc.fd ["one", "other"] (spCheckTreesR C CR))
    (MR : Mk K CR fR) (bR : Binds K fdR ["self", "tree", "deeds"] []) (GR : FnOk P w K mg base CX0 7 fR fdR ["self", "tree", "deeds"] (spRowInit C CR)) : FnOk P w K mg base CX0 9 f fd ["self", "other"] (spRAdd C CR) := by
  refine F.ok sc_R_add (fun vs H Q E h => ?_) (fun cdv A outer s H vs Q E hr h => ?_)
  · obtain ⟨m, m2, t, t2, rs, ds, es, rfl, _⟩ := h
    rfl
  · obtain ⟨m, m2, t, t2, rs, ds, es, rfl, hm, hm2, hl, hq⟩ := h
    have hr3 : Room 4 _ := hr.mono (by decide)
    obtain ⟨dx, q, k, as, h1, h2, h3, h4⟩ := id hm.ex
    obtain ⟨dx2, q2, k2, bs, g1, g2, g3, g4⟩ := id hm2.ex
    refine ⟨_, pss_cons (ps_expr (pe_call Gc hr3 rfl Dc.g Dc.F.kp Dc.b .nil pass0 (pa_cons (pv 0) (pa_cons (pv 1) pa_nil))))
      (pss_one (ps_ret (pe_make MR GR hr rfl R.g bR .nil pass0 (pa_cons (pe_fld (pv 0) rfl) (pa_cons (pe_weak (pe_op op_catA (pe_fld (pv 0) rfl) (pe_fld (pv 1) rfl))) pa_nil))))), ?_⟩
    refine ⟨_, rfl, _, rfl, m, m2, t, t2, rs, ds, es, rfl, hm, hm2, ?_⟩
    refine ⟨_, rfl, m, CR, dx, _, _, rfl, h1, R.cl, R.nt, rf_t _ _ _, ?_⟩
    refine ⟨fun v H' => ∃ l, v = .ref l ∧ Same H H' ∧ H' l = some (.tup ((as ++ bs).map V.ref)), ?_, ?_⟩
    · refine ⟨_, rfl, m, CR, dx, _, _, rfl, h1, R.cl, R.np, rf_p _ _ _, _, rfl, m2, CR, dx2, _, _, rfl, g1, R.cl, R.np, rf_p _ _ _, ?_⟩
      refine ⟨q, q2, _, _, rfl, rfl, sqT h2, sqT g2, szl (by rw [List.length_map, List.length_map, h3.len, g3.len]; omega), fun e => ?_, fun _ e => ?_, fun _ _ p hp => ?_⟩
      · have ea : as = [] := List.map_eq_nil_iff.mp e
        exact ⟨q2, rfl, Same.refl _, by rw [ea]; exact g2⟩
      · have eb : bs = [] := List.map_eq_nil_iff.mp e
        exact ⟨q, rfl, Same.refl _, by rw [eb, List.append_nil]; exact h2⟩
      · exact ⟨p, rfl, Same.new hp, by rw [upd_same, List.map_append]⟩
    rintro v H1 ⟨l, rfl, s1, e1⟩
    refine fun x dx3 nx ndx _ => ⟨x, dx3, t, l, rs, _, ds ++ es, rfl, upd_same, (hm.tree.same s1).same (mk_same0 nx ndx), hm.un, .inl (mk_same0 (C := CR) nx ndx _ _ e1), (((h3.append g3).same s1).same (mk_same0 nx ndx)).seq, hm.vd.append hm2.vd, by rw [List.length_append]; exact hl, fun H2 sb2 hx2 => ⟨rfl, hq x H2 (s1.trans (mk_same nx ndx sb2)) hx2⟩⟩
theorem sc_R_maps : FnScope ["self"] ["self"] (defScope s_Row_maps) := ⟨rfl, rfl, rfl, by decide +kernel, rfl, by decide +kernel, by decide +kernel⟩
theorem ok_R_maps {f : Addr} {fd : FuncData} (F : Fun K "maps" "Row.maps" s_Row_maps f fd) (B : TxB mg) (R : TxR K mg CR) : FnOk P w K mg base CX0 2 f fd ["self"] (spRMaps C CR) := by
  refine F.ok sc_R_maps (fun vs H Q E h => ?_) (fun cdv A outer s H vs Q E hr h => ?_)
  · obtain ⟨r, t, rs, ds, rfl, _⟩ := h
    rfl
  · obtain ⟨r, t, rs, ds, rfl, hm, hq⟩ := h
    obtain ⟨dx, q, e, as, h1, h2, h3, h4⟩ := hm.ex
    refine ⟨_, pss_one (ps_ret (pe_callTy (T := "dict") call_dictD (by rfl) B.dict (by decide +kernel) (pa_cons (pe_fld (pv 0) rfl) pa_nil))), ?_⟩
    exact ⟨_, rfl, r, CR, dx, _, _, rfl, h1, R.cl, R.ne, rf_e _ _ _, e, _, rfl, .inl h4, fun D hD => hq D hD⟩
abbrev nClash : List Str := ["one", "other", "ahead", "behind", "place"]
theorem sc_clash : FnScope nClash ["one", "other"] (defScope s_clash) := ⟨rfl, rfl, rfl, by decide +kernel, rfl, by decide +kernel, by decide +kernel⟩
theorem ok_clash (D : DefAt K mg "clash" s_clash ["one", "other"]) (R : TxR K mg CR) (hcR : PySem.W.selfFirst K CR = true)
    (mA : MethAt K CR "__add__" "Row.__add__" s_Row_add ["self", "other"]) (GA : FnOk P w K mg base CX0 9 mA.f mA.fd ["self", "other"] (spRAdd C CR))
    (mM : MethAt K CR "maps" "Row.maps" s_Row_maps ["self"]) (GM : FnOk P w K mg base CX0 2 mM.f mM.fd ["self"] (spRMaps C CR)) : FnOk P w K mg base CX0 10 D.f D.fd ["one", "other"] (spClash C CR) := by
  refine D.F.ok sc_clash (fun vs H Q E h => ?_) (fun cdv A outer s H vs Q E hr h => ?_)
  · obtain ⟨m, m2, t, t2, rs, ds, es, rfl, _⟩ := h
    rfl
  · obtain ⟨m, m2, t, t2, rs, ds, es, rfl, hm, hm2, hl, hq⟩ := h
    have hu := hu_of hr
    have hr1 : Room 2 _ := hr.mono (by decide)
    have hv := hm.tree.val
    refine ⟨_, pss_cons (ps_par (i := 2) (j := 3) rfl sc_clash.nd rfl rfl (by decide) rfl rfl (pa_cons (pe_meth0 (pe_op (op_binC GA mA.m rfl hcR hr mA.b pass0) (pv 0) (pv 1)) R.cl mM.m GM hr1 mM.b .nil pass0) (pa_cons (pe_meth0 (pe_op (op_binC GA mA.m rfl hcR hr mA.b pass0) (pv 1) (pv 0)) R.cl mM.m GM hr1 mM.b .nil pass0) pa_nil)) (by rfl))
      (pss_cons (ps_lock (ps_for PassesOwn.never rfl (pi_keys (pv 2)) (pg_name (i := 4) sc_clash.nd rfl (.inl rfl))
        (pss_one (ps_if (pt_cmpR op_ne (pe_dget hu (pv 2) (pv 4) (fun _ _ => rfl)) (pe_dget hu (pv 3) (pv 4) (fun _ _ => rfl)) (nomark _)) (pss_one (ps_ret (pv 4))) pss_nil))))
      (pss_one (ps_ret pe_non))), ?_⟩
    obtain ⟨dx, q, k, as, h1, _⟩ := id hm.ex
    obtain ⟨dx2, q2, k2, bs, g1, _⟩ := id hm2.ex
    have noM : ∀ {t q e : Addr}, (rf t q e).lookup ("maps" : Str) = none := fun {t q e} => rf_no _ _ _ (by decide +kernel) (by decide +kernel) (by decide +kernel)
    refine ⟨_, rfl, _, rfl, m, m2, dx, dx2, _, _, rfl, rfl, h1, g1, m, m2, t, t2, rs, ds, es, rfl, hm, hm2, hl, fun r3 H1 s1 hr3 => ⟨r3, rfl, ?_⟩⟩
    obtain ⟨d3, q3, k3, as3, f1, _⟩ := id hr3.ex
    refine ⟨r3, d3, _, rfl, f1, noM, r3, t, rs, ds ++ es, rfl, hr3, fun D1 hD1 => ?_⟩
    have s2 : Same H (upd H1 D1 (.dK (kvS (eff rs (ds ++ es)) (plc rs)))) := s1.trans (Same.new hD1)
    have e2 : (upd H1 D1 (.dK (kvS (eff rs (ds ++ es)) (plc rs)))) D1 = some (.dK (kvS (eff rs (ds ++ es)) (plc rs))) := upd_same
    generalize upd H1 D1 (.dK (kvS (eff rs (ds ++ es)) (plc rs))) = H2 at s2 e2
    refine ⟨_, rfl, _, rfl, m2, m, dx2, dx, _, _, rfl, rfl, s2 _ _ g1, s2 _ _ h1, m2, m, t2, t, rs, es, ds, rfl, hm2.same s2, hm.same s2, by omega, fun r4 H3 s3 hr4 => ⟨r4, rfl, ?_⟩⟩
    obtain ⟨d4, q4, k4, as4, f2, _⟩ := id hr4.ex
    refine ⟨r4, d4, _, rfl, f2, noM, r4, t2, rs, es ++ ds, rfl, hr4, fun D2 hD2 => ⟨_, _, rfl, ?_⟩⟩
    have s4 : Same H2 (upd H3 D2 (.dK (kvS (eff rs (es ++ ds)) (plc rs)))) := s3.trans (Same.new hD2)
    have e4 : (upd H3 D2 (.dK (kvS (eff rs (es ++ ds)) (plc rs)))) D2 = some (.dK (kvS (eff rs (es ++ ds)) (plc rs))) := upd_same
    have n12 : D2 ≠ D1 := fun e => by rw [e, s3 _ _ e2] at hD2; cases hD2
    generalize upd H3 D2 (.dK (kvS (eff rs (es ++ ds)) (plc rs))) = H4 at s4 e4
    have e1 := s4 _ _ e2
    have sH := s2.trans s4
    refine ⟨D1, _, e1, trivial, fun od => ?_⟩
    have lk : (upd H4 D1 (.frz od (.dK (kvS (eff rs (ds ++ es)) (plc rs))))) D1 = some (.frz od (.dK (kvS (eff rs (ds ++ es)) (plc rs)))) := upd_same
    have l2 : (upd H4 D1 (.frz od (.dK (kvS (eff rs (ds ++ es)) (plc rs))))) D2 = some (.dK (kvS (eff rs (es ++ ds)) (plc rs))) := by rw [upd_ne n12]; exact e4
    have back : Same H (upd (upd H4 D1 (.frz od (.dK (kvS (eff rs (ds ++ es)) (plc rs))))) D1 (.dK (kvS (eff rs (ds ++ es)) (plc rs)))) := sH.trans (lock_backE e1 (Same.refl _))
    refine ⟨_, rfl, D1, od, rfl, .inl ⟨_, lk, ?_⟩⟩
    refine for_it (walk_keys (d := D1) (o := od) (kvs := kvS (eff rs (ds ++ es)) (plc rs))) (fun i σ H' => ∃ v : Option V, σ = [some (.ref m), some (.ref m2), some (.ref D1), some (.ref D2), v] ∧ H' = upd H4 D1 (.frz od (.dK (kvS (eff rs (ds ++ es)) (plc rs)))) ∧ ∀ z ∈ (plc rs).take i, decide (eff rs (ds ++ es) z ≠ eff rs (es ++ ds) z) = false) ⟨none, rfl, rfl, fun z hz => by simp at hz⟩ (fun i σ H' _ ⟨_, _, e, _⟩ => by rw [e]; exact lk) ?_ ?_
    · rintro i x σ H5 H5' hi ⟨v, rfl, rfl, hall⟩ ⟨rfl, k', v', hk, rfl⟩
      obtain ⟨z, rfl, hz⟩ := kvX_at hk
      have hzm := List.mem_of_getElem? hz
      have dg : DGet (upd H4 D1 (.frz od (.dK (kvS (eff rs (ds ++ es)) (plc rs))))) D1 (.str z) (some (.str (eff rs (ds ++ es) z))) := .inl ⟨_, .inr z, .inr ⟨od, lk⟩, rfl, (valV_kvX (fun z => .str (eff rs (ds ++ es) z)) hzm).symm⟩
      have dg2 : DGet (upd H4 D1 (.frz od (.dK (kvS (eff rs (ds ++ es)) (plc rs))))) D2 (.str z) (some (.str (eff rs (es ++ ds) z))) := .inl ⟨_, .inr z, .inl l2, rfl, (valV_kvX (fun z => .str (eff rs (es ++ ds) z)) hzm).symm⟩
      refine ⟨_, rfl, _, rfl, D1, _, rfl, dg, _, rfl, _, rfl, D2, _, rfl, dg2, rfl, _, rfl, ?_⟩
      have e0 : (!decide (V.str (eff rs (ds ++ es) z) = V.str (eff rs (es ++ ds) z))) = decide (eff rs (ds ++ es) z ≠ eff rs (es ++ ds) z) := by
        by_cases q : eff rs (ds ++ es) z = eff rs (es ++ ds) z
        · rw [q]; simp
        · have : V.str (eff rs (ds ++ es) z) ≠ V.str (eff rs (es ++ ds) z) := fun e => q (V.str.inj e)
          simp [q, this]
      rw [e0]
      refine ite2 (fun hc => ?_) (fun hc => ?_)
      · refine ⟨_, rfl, lk, ?_⟩
        have ef : clashL rs ds es = some z := find_at hall hz hc
        have := hq _ back
        rw [ef] at this
        exact this
      · refine ⟨_, rfl, rfl, fun y hy => ?_⟩
        rw [take_more hz] at hy
        rcases List.mem_append.mp hy with hy | hy
        · exact hall y hy
        · rw [List.mem_singleton.mp hy]; simpa using hc
    · rintro σ H5 ⟨v, rfl, rfl, hall⟩
      refine ⟨lk, ?_⟩
      unfold kvS at hall
      rw [kvX_len, List.take_length] at hall
      have ef : clashL rs ds es = none := List.find?_eq_none.mpr fun z hz => by rw [hall z hz]; exact Bool.false_ne_true
      have := hq _ back
      rw [ef] at this
      exact this
end
end Ts

set_option maxRecDepth 100000
set_option maxHeartbeats 4000000
namespace Ts
open PySem L2
/-- a dict comprehension over any walk -/
theorem dc_walk {J : It} {n : Nat} {G : Hp → Prop} {Y : Nat → Hp → V → Hp → Prop} (wk : Walk J n G Y) {g : TG} {tt : TT} {tk tv : TE} {us : List Nat} {σ : L2.St} {H0 : Hp} {D : Addr} {Qd : Hp → Prop} (I : Nat → Hp → Prop) (start : I 0 (upd H0 D (.dK []))) (stays : ∀ i H, i ≤ n → I i H → G H)
    (turn : ∀ i x H H', i < n → I i H → Y i H x H' → g x (wipe σ us) H' fun σ2 H2 => wipe σ2 us = wipe σ us ∧ tt σ2 H2 fun b H3 => if b = true then tk σ2 H3 fun y H4 => tv σ2 H4 fun z H5 => ∃ kvs k, y = kV k ∧ H5 D = some (.dK kvs) ∧ kvs.length < sizeLine ∧ I (i + 1) (upd H5 D (.dK (putK kvs k z))) else I (i + 1) H3)
    (done : ∀ H, I n H → Qd H) : ∃ W : Nat → Nat → Hp → Prop, (∃ m, W 0 m (upd H0 D (.dK []))) ∧ ∀ i m H, W i m H → (J.stop i H ∧ Qd H) ∨ (J.go i H ∧ ∃ Nx : Hp → Prop, (∀ H', Nx H' → ∃ m', m' < m ∧ W (i + 1) m' H') ∧ ∀ x H', J.yld i H x H' → g x (wipe σ us) H' fun σ2 H2 => wipe σ2 us = wipe σ us ∧ tt σ2 H2 fun b H3 =>
      if b = true then tk σ2 H3 fun y H4 => tv σ2 H4 fun z H5 => ∃ kvs k, y = kV k ∧ H5 D = some (.dK kvs) ∧ kvs.length < sizeLine ∧ Nx (upd H5 D (.dK (putK kvs k z))) else Nx H3) := by
  refine ⟨fun i m H => m = n - i ∧ i ≤ n ∧ I i H, ⟨n, rfl, Nat.zero_le _, start⟩, ?_⟩
  rintro i m H ⟨rfl, hi, here⟩
  have ok := stays i H hi here
  rcases Nat.lt_or_ge i n with lt | ge
  · exact .inr ⟨wk.goes i H lt ok, I (i + 1), fun H' h' => ⟨n - (i + 1), by omega, rfl, lt, h'⟩, fun x H' y => turn i x H H' lt here (wk.yields i H x H' lt ok y)⟩
  · obtain rfl : i = n := Nat.le_antisymm hi ge
    exact .inl ⟨wk.stops H ok, done H here⟩
def spCheckTrees (C CM : Addr) : Sp := fun vs H Q _ => ∃ (m m2 t t2 : Addr) (rs : List Row) (d d2 : Bool) (ts ts2 : List Str), vs = [.ref m, .ref m2] ∧ MeanAt C CM H m t rs d ts ∧ MeanAt C CM H m2 t2 rs d2 ts2 ∧ Q .non H
section
variable {P : Program} {w : World} {K : PySem.W.Frag} {mg : Str → Option Value} {base : Heap} {C CM : Addr}
theorem sc_check_trees : FnScope ["one", "other"] ["one", "other"] (defScope s_check_trees) := ⟨rfl, rfl, rfl, by decide +kernel, rfl, by decide +kernel, by decide +kernel⟩
theorem ok_check_trees (D : DefAt K mg "check_trees" s_check_trees ["one", "other"]) (M : TxM K mg CM) (N : TxN K C)
    (mE : MethAt K C "__eq__" "Tree.__eq__" s_Tree_eq ["self", "other"]) (GE : FnOk P w K mg base CX0 2 mE.f mE.fd ["self", "other"] (spEqT K C)) : FnOk P w K mg base CX0 4 D.f D.fd ["one", "other"] (spCheckTrees C CM) := by
  refine D.F.ok sc_check_trees (fun vs H Q E h => ?_) (fun cdv A outer s H vs Q E hr h => ?_)
  · obtain ⟨m, m2, t, t2, rs, d, d2, ts, ts2, rfl, _⟩ := h
    rfl
  · obtain ⟨m, m2, t, t2, rs, d, d2, ts, ts2, rfl, hm, hm2, hq⟩ := h
    obtain ⟨dx, u, k, h1, h2, h3⟩ := hm.ex
    obtain ⟨dx2, u2, k2, g1, g2, g3⟩ := hm2.ex
    obtain ⟨tdx, _, _, _, _, _, t1, _⟩ := id hm.tree.ex
    obtain ⟨tdx2, _, _, _, _, _, t3, _⟩ := id hm2.tree.ex
    refine ⟨_, pss_one (ps_if (pt_cmpR (op_neC GE mE.m N.ne N.ob hr mE.b pass0) (pe_fld (pv 0) rfl) (pe_fld (pv 1) rfl) (nomark _)) (pss_one ps_never) pss_nil), ?_⟩
    refine ⟨_, rfl, m, CM, dx, _, _, rfl, h1, M.cl, M.nt, mf_t _ _ _ _, _, rfl, m2, CM, dx2, _, _, rfl, g1, M.cl, M.nt, mf_t _ _ _ _, t, tdx, _, .ref C, rfl, t1, .ins t3, nfC, t, _, rs, rfl, hm.tree, .inl ⟨t2, rs, rfl, hm2.tree, _, rfl, _, rfl, ?_⟩⟩
    exact iteF' (by simp) hq
abbrev nWith : List Str := ["tree", "values", "turns", "box"]
theorem sc_with : FnScope nWith ["tree", "values"] (defScope s_with_values) := ⟨rfl, rfl, rfl, by decide +kernel, rfl, by decide +kernel, by decide +kernel⟩
theorem ok_with {fM : Addr} {fdM : FuncData} (D : DefAt K mg "with_values" s_with_values ["tree", "values"]) (TC : TxC K mg) (T : TxT K mg C) (M : TxM K mg CM)
    (MM : Mk K CM fM) (bM : Binds K fdM ["self", "tree", "default", "turns"] []) (GM : FnOk P w K mg base CX0 7 fM fdM ["self", "tree", "default", "turns"] (spMeaningInit K C CM))
    (mB : MethAt K C "below" "Tree.below" s_Tree_below ["self", "box"]) (GB : FnOk P w K mg base CX0 5 mB.f mB.fd ["self", "box"] (spListOf C belowL))
    (mF : MethAt K C "folder" "Tree.folder" s_Tree_folder ["self", "box"]) (GF : FnOk P w K mg base CX0 4 mF.f mF.fd ["self", "box"] (spGet C fun r => .str r.fo)) : FnOk P w K mg base CX0 9 D.f D.fd ["tree", "values"] (spWith C CM) := by
  obtain ⟨t1, gT⟩ := TC.top
  refine D.F.ok sc_with (fun vs H Q E h => ?_) (fun cdv A outer s H vs Q E hr h => ?_)
  · obtain ⟨t, vd, rs, v, rfl, _⟩ := h
    rfl
  · obtain ⟨t, vd, rs, v, rfl, ht, hvd, hlk, hq⟩ := h
    have hu := hu_of hr
    have hr4 : Room 5 _ := hr.mono (by decide)
    have hr3 : Room 4 _ := hr.mono (by decide)
    refine ⟨_, pss_cons (ps_setLc (i := 2) (own := [("box", 3)]) (g := gName 3) (tt := tTest (tOp rNe (tDGet (tVar 1) (tVar 3)) (tDGet (tVar 1) (tMeth C "folder" (spGet C fun r => .str r.fo) [] E0 (tVar 0) (tCons (tVar 3) tNil))))) (te := tVar 3) rfl sc_with.nd rfl rfl (sw_true rfl rfl rfl (by decide +kernel)) (pi_list (pe_meth (pv 0) T.cl mB.m GB hr4 mB.b .nil pass0 (pa_cons (pe_glob (by rfl) gT (v := .str ("top" : Str)) ⟨_, rfl⟩) pa_nil))) (blkOk_by (N := nWith) (sc := defScope s_with_values) (by decide +kernel))
        (fun _ _ _ _ _ => pg_name (i := 3) sc_with.nd rfl (Or.inl rfl)) (fun _ _ _ _ _ => by exact pts_one (pt_cmpR op_ne (pe_dget hu (pv 1) (pv 3) (fun _ _ => rfl)) (pe_dget hu (pv 1) (pe_meth (pv 0) T.cl mF.m GF hr3 mF.b .nil pass0 (pa_cons (pv 3) pa_nil)) (fun _ _ => rfl)) (nomark _))) (fun _ _ _ _ _ => pv 3))
      (pss_one (ps_ret (pe_make MM GM hr rfl M.g bM .nil pass0 (pa_cons (pv 0) (pa_cons (pe_dget hu (pv 1) (pe_glob (by rfl) gT (v := .str ("top" : Str)) ⟨_, rfl⟩) (fun _ _ => rfl)) (pa_cons (pv 2) pa_nil)))))), ?_⟩
    have hv := ht.val
    have l100 := ht.len
    obtain ⟨dx, q, f, k, p, qs, h1, _⟩ := id ht.ex
    have noB : (tf q f k p).lookup ("below" : Str) = none := tf_no _ _ _ _ (by decide +kernel) (by decide +kernel) (by decide +kernel) (by decide +kernel)
    have noF : (tf q f k p).lookup ("folder" : Str) = none := tf_no _ _ _ _ (by decide +kernel) (by decide +kernel) (by decide +kernel) (by decide +kernel)
    refine ⟨_, rfl, t, dx, _, rfl, h1, noB, t, ("top" : Str), rs, rfl, ht, .inl rfl, fun bl H2 hbl s2 e2 => ?_⟩
    rw [below_top hv] at e2
    refine ⟨bl, rfl, ⟨_, SqL.of e2⟩, fun D hD => ?_⟩
    refine lc_list (K := K) (a := bl) (xs := (names rs).map V.str) (fun i H' => Same H2 H' ∧ H' D = some (.lst ((((rs.take i).filter fun r => decide (v r.nm ≠ v r.fo)).map (·.nm)).map V.str))) ⟨Same.new hD, upd_same⟩ (fun i H' _ m => m.1.seq (SqL.of e2)) ?_ ?_
    · rintro i x H3 hxi ⟨s3, hD3⟩
      unfold names at hxi
      rw [List.getElem?_map, List.getElem?_map] at hxi
      obtain ⟨n1, hn1, rfl⟩ := Option.map_eq_some_iff.mp hxi
      obtain ⟨r, hr', rfl⟩ := Option.map_eq_some_iff.mp hn1
      have hrm := List.mem_of_getElem? hr'
      have s23 := s2.trans s3
      have dg := DGet.k (k := Sum.inr r.nm) (s23 _ _ hvd)
      rw [valV_kvG v (nm_plc hrm)] at dg
      have dg2 := DGet.k (k := Sum.inr r.fo) (s23 _ _ hvd)
      rw [valV_kvG v (fo_plc hv hrm)] at dg2
      have szD : (((rs.take i).filter fun r => decide (v r.nm ≠ v r.fo)).map (·.nm)).length ≤ 1000 := by
        rw [List.length_map]
        have h1 := List.length_filter_le (fun r : Row => decide (v r.nm ≠ v r.fo)) (rs.take i)
        rw [List.length_take] at h1
        omega
      refine ⟨rfl, _, rfl, _, rfl, vd, _, rfl, dg, _, rfl, _, rfl, t, dx, _, rfl, s23 _ _ h1, noF, _, rfl, t, r.nm, rs, r, rfl, ht.same s23, rowOf_at hv hr', vd, _, rfl, dg2, rfl, _, rfl, ?_⟩
      have e0 : (!decide (V.bl (v r.nm) = V.bl (v r.fo))) = decide (v r.nm ≠ v r.fo) := by
        cases v r.nm <;> cases v r.fo <;> rfl
      rw [e0]
      refine ite2 (fun hc => ?_) (fun hc => ?_)
      · refine ⟨_, rfl, _, hD3, by rw [List.length_map]; exact small1000 szD, fun b o eb => ?_, ?_⟩
        · rw [upd_ne (fun y => by rw [y, hD] at eb; cases eb)]
          exact s3 _ _ eb
        · rw [upd_same, filter_take hr', if_pos hc, List.map_append]; rfl
      · refine ⟨s3, ?_⟩
        rw [filter_take hr', if_neg hc, List.append_nil]
        exact hD3
    rintro H3 ⟨s3, hD3⟩
    rw [show ((names rs).map V.str).length = rs.length from by unfold names; rw [List.length_map, List.length_map], List.take_length] at hD3
    have s23 := s2.trans s3
    have dgt := DGet.k (k := Sum.inr ("top" : Str)) (s23 _ _ hvd)
    rw [valV_kvG v (mem_plc.mpr (.inl rfl))] at dgt
    refine ⟨_, rfl, _, rfl, vd, _, rfl, dgt, _, rfl, ?_⟩
    have fr : ∀ z ∈ turnsG rs v, Free rs z := fun z hz => by
      obtain ⟨r, hr, rfl⟩ := List.mem_map.mp hz
      rw [List.mem_filter, decide_eq_true_eq] at hr
      obtain ⟨i, hi, e⟩ := List.mem_iff_getElem.mp hr.1
      exact ⟨r, rowOf_at hv (by rw [← e]; exact List.getElem?_eq_getElem hi), fun q => hr.2 (hlk r hr.1 q)⟩
    refine fun m dm nm nd _ => ⟨m, dm, t, D, v "top", turnsG rs v, rs, rfl, upd_same, (ht.same s23).same (mk_same0 nm nd), SqX.same (.inl (SqL.of hD3)) (mk_same0 nm nd), fr, fun H4 sb4 hm => ⟨rfl, ?_⟩⟩
    rw [turnsL_sub hv (turnsG_sub rs v)] at hm
    exact hq m H4 (s23.trans (mk_same nm nd sb4)) ⟨⟨_, _, hm, val_turnsG hv v⟩, hlk⟩
theorem sc_M_xor : FnScope ["self", "other", "box"] ["self", "other"] (defScope s_Meaning_xor) := ⟨rfl, rfl, rfl, by decide +kernel, rfl, by decide +kernel, by decide +kernel⟩
theorem ok_M_xor {f : Addr} {fd : FuncData} (F : Fun K "__xor__" "Meaning.__xor__" s_Meaning_xor f fd) (M : TxM K mg CM) (Dc : DefAt K mg "check_trees" s_check_trees ["one", "other"]) (Gc : FnOk P w K mg base CX0 4 Dc.f Dc.fd ["one", "other"] (spCheckTrees C CM))
    (Dw : DefAt K mg "with_values" s_with_values ["tree", "values"]) (Gw : FnOk P w K mg base CX0 9 Dw.f Dw.fd ["tree", "values"] (spWith C CM)) : FnOk P w K mg base CX0 10 f fd ["self", "other"] (spBin C CM fun a b => a != b) := by
  refine F.ok sc_M_xor (fun vs H Q E h => ?_) (fun cdv A outer s H vs Q E hr h => ?_)
  · obtain ⟨m, m2, t, t2, rs, v, w', rfl, _⟩ := h
    rfl
  · obtain ⟨m, m2, t, t2, rs, v, w', rfl, hm, hm2, hq⟩ := h
    have hu := hu_of hr
    have hr3 : Room 4 _ := hr.mono (by decide)
    have hv := hm.valid
    have hl := hm.turns.tree.len
    obtain ⟨dx, u, k, h1, h2, h3⟩ := hm.turns.ex
    obtain ⟨dx2, u2, k2, g1, g2, g3⟩ := hm2.turns.ex
    rw [kvM_kvG hv (val_turnsG hv v)] at h3
    rw [kvM_kvG hv (val_turnsG hv w')] at g3
    refine ⟨_, pss_cons (ps_expr (pe_call Gc hr3 rfl Dc.g Dc.F.kp Dc.b .nil pass0 (pa_cons (pv 0) (pa_cons (pv 1) pa_nil))))
      (pss_one (ps_ret (pe_call Gw hr rfl Dw.g Dw.F.kp Dw.b .nil pass0 (pa_cons (pe_fld (pv 0) rfl) (pa_cons (pe_lock (pe_dc (own := [("box", 2)]) (g := gName 2) (tt := tYes) (tk := tVar 2) (tv := tOp rNe (tDGet (tFld K (tVar 0) "known") (tVar 2)) (tDGet (tFld K (tVar 1) "known") (tVar 2))) rfl sc_M_xor.nd (pi_keys (pe_fld (pv 0) rfl)) (blkOk_by (N := ["self", "other", "box"]) (sc := defScope s_Meaning_xor) (by decide +kernel))
        (fun _ _ _ _ _ => pg_name (i := 2) sc_M_xor.nd rfl (Or.inl rfl)) (fun _ _ _ _ _ => pts_nil) (fun _ _ _ _ _ => pv 2) (fun _ _ _ _ _ => by exact pe_cmpR op_ne (pe_dget hu (pe_fld (pv 0) rfl) (pv 2) (fun _ _ => rfl)) (pe_dget hu (pe_fld (pv 1) rfl) (pv 2) (fun _ _ => rfl)) (nomark _)))) pa_nil))))), ?_⟩
    refine ⟨_, rfl, _, rfl, m, m2, t, t2, rs, _, _, _, _, rfl, hm.turns, hm2.turns, ?_⟩
    refine ⟨_, rfl, m, CM, dx, _, _, rfl, h1, M.cl, M.nt, mf_t _ _ _ _, ?_⟩
    refine ⟨k, _, h3, trivial, fun od => ?_⟩
    obtain ⟨Hl, El⟩ : ∃ Hx, Hx = upd H k (.frz od (.dK (kvG rs v))) := ⟨_, rfl⟩
    have lk : Hl k = some (.frz od (.dK (kvG rs v))) := by rw [El]; exact upd_same
    have l1 : Hl m = some (.ins CM dx (mf t u k (v "top"))) := by
      rw [El, upd_ne (fun e => by rw [e, h3] at h1; cases h1)]; exact h1
    have l2 : Hl m2 = some (.ins CM dx2 (mf t2 u2 k2 (w' "top"))) := by
      rw [El, upd_ne (fun e => by rw [e, h3] at g1; cases g1)]; exact g1
    have back : ∀ {H' : Hp}, Same Hl H' → Same H (upd H' k (.dK (kvG rs v))) := fun {H'} sl b o e => by
      by_cases q : b = k
      · rw [q, upd_same, ← e, q]; exact h3.symm
      · rw [upd_ne q]; exact sl _ _ (by rw [El, upd_ne q]; exact e)
    have lk2 : ∃ kv, Rd Hl k2 (.dK kv) ∧ kv = kvG rs w' := by
      by_cases q : k2 = k
      · rw [q] at g3
        rw [h3] at g3
        have e3 := HO.dK.inj (Option.some.inj g3)
        exact ⟨_, by rw [q]; exact .inr ⟨od, lk⟩, e3⟩
      · exact ⟨_, .inl (by rw [El, upd_ne q]; exact g3), rfl⟩
    obtain ⟨kv2, rd2, rfl⟩ := lk2
    rw [← El]
    clear El
    refine ⟨_, rfl, m, CM, dx, _, _, rfl, l1, M.cl, M.nk, mf_k _ _ _ _, k, od, rfl, .inl ⟨_, lk, fun D hD => ?_⟩⟩
    have nD : D ≠ k := (ne_of_none lk hD).symm
    have lp : (plc rs).length ≤ 101 := by unfold plc names; rw [List.length_cons, List.length_map]; omega
    refine dc_walk (walk_keys (d := k) (o := od) (kvs := kvG rs v)) (fun i H' => Same Hl H' ∧ H' D = some (.dK (((plc rs).take i).map fun z => ((.inr z : Key), V.bl ((fun a b => a != b) (v z) (w' z)))))) ⟨Same.new hD, upd_same⟩ (fun i H' _ m => m.1 _ _ lk) ?_ ?_
    · rintro i x H5x H5 hi ⟨s5, hD5⟩ ⟨rfl, k', v', hk, rfl⟩
      obtain ⟨z, rfl, hz⟩ := kvG_at hk
      have hzm := List.mem_of_getElem? hz
      have dg1 : DGet H5 k (.str z) (some (.bl (v z))) := .inl ⟨_, .inr z, .inr ⟨od, s5 _ _ lk⟩, rfl, (valV_kvG v hzm).symm⟩
      have dg2 : DGet H5 k2 (.str z) (some (.bl (w' z))) := .inl ⟨_, .inr z, rd2.imp (s5 _ _) (fun ⟨o, e⟩ => ⟨o, s5 _ _ e⟩), rfl, (valV_kvG w' hzm).symm⟩
      refine ⟨rfl, tYes_if ?_⟩
      refine ⟨_, rfl, _, rfl, m, CM, dx, _, _, rfl, s5 _ _ l1, M.cl, M.nk, mf_k _ _ _ _, _, rfl, k, _, rfl, dg1, _, rfl, m2, CM, dx2, _, _, rfl, s5 _ _ l2, M.cl, M.nk, mf_k _ _ _ _, _, rfl, k2, _, rfl, dg2, rfl, ?_⟩
      have e9 : (upd H5 D (.dK (putK (((plc rs).take i).map fun z => ((.inr z : Key), V.bl (v z != w' z))) (.inr z) (.bl (!decide (V.bl (v z) = V.bl (w' z))))))) D = some (.dK (((plc rs).take (i + 1)).map fun z => ((.inr z : Key), V.bl (v z != w' z)))) := by
        rw [upd_same, ← kvP_more (plc_nodup hv) (fun z => v z != w' z) hz]
        cases v z <;> cases w' z <;> rfl
      exact ⟨_, .inr z, rfl, hD5, small1000 (by rw [List.length_map, List.length_take]; omega), fun b o eb => by
          rw [upd_ne (fun y => by rw [y, hD] at eb; cases eb)]
          exact s5 _ _ eb, e9⟩
    rintro H5 ⟨s5, hD5⟩
    rw [kvG_len, List.take_length] at hD5
    refine ⟨s5 _ _ lk, ?_⟩
    have bk := back s5
    refine ⟨t, D, rs, fun z => (fun a b => a != b) (v z) (w' z), rfl, hm.turns.tree.same bk, by rw [upd_ne nD]; exact hD5, fun r hr q => ?_, fun m3 H6 s6 hm3 => hq m3 H6 (bk.trans s6) hm3⟩
    show (fun a b => a != b) (v r.nm) (w' r.nm) = (fun a b => a != b) (v r.fo) (w' r.fo)
    rw [hm.lk r hr q, hm2.lk r hr q]
theorem sc_M_and : FnScope ["self", "other", "box"] ["self", "other"] (defScope s_Meaning_and) := ⟨rfl, rfl, rfl, by decide +kernel, rfl, by decide +kernel, by decide +kernel⟩
theorem ok_M_and {f : Addr} {fd : FuncData} (F : Fun K "__and__" "Meaning.__and__" s_Meaning_and f fd) (M : TxM K mg CM) (Dc : DefAt K mg "check_trees" s_check_trees ["one", "other"]) (Gc : FnOk P w K mg base CX0 4 Dc.f Dc.fd ["one", "other"] (spCheckTrees C CM))
    (Dw : DefAt K mg "with_values" s_with_values ["tree", "values"]) (Gw : FnOk P w K mg base CX0 9 Dw.f Dw.fd ["tree", "values"] (spWith C CM)) : FnOk P w K mg base CX0 10 f fd ["self", "other"] (spBin C CM fun a b => a && b) := by
  refine F.ok sc_M_and (fun vs H Q E h => ?_) (fun cdv A outer s H vs Q E hr h => ?_)
  · obtain ⟨m, m2, t, t2, rs, v, w', rfl, _⟩ := h
    rfl
  · obtain ⟨m, m2, t, t2, rs, v, w', rfl, hm, hm2, hq⟩ := h
    have hu := hu_of hr
    have hr3 : Room 4 _ := hr.mono (by decide)
    have hv := hm.valid
    have hl := hm.turns.tree.len
    obtain ⟨dx, u, k, h1, h2, h3⟩ := hm.turns.ex
    obtain ⟨dx2, u2, k2, g1, g2, g3⟩ := hm2.turns.ex
    rw [kvM_kvG hv (val_turnsG hv v)] at h3
    rw [kvM_kvG hv (val_turnsG hv w')] at g3
    refine ⟨_, pss_cons (ps_expr (pe_call Gc hr3 rfl Dc.g Dc.F.kp Dc.b .nil pass0 (pa_cons (pv 0) (pa_cons (pv 1) pa_nil))))
      (pss_one (ps_ret (pe_call Gw hr rfl Dw.g Dw.F.kp Dw.b .nil pass0 (pa_cons (pe_fld (pv 0) rfl) (pa_cons (pe_lock (pe_dc (own := [("box", 2)]) (g := gName 2) (tt := tYes) (tk := tVar 2) (tv := tAndV (tDGet (tFld K (tVar 0) "known") (tVar 2)) (tDGet (tFld K (tVar 1) "known") (tVar 2))) rfl sc_M_and.nd (pi_keys (pe_fld (pv 0) rfl)) (blkOk_by (N := ["self", "other", "box"]) (sc := defScope s_Meaning_and) (by decide +kernel))
        (fun _ _ _ _ _ => pg_name (i := 2) sc_M_and.nd rfl (Or.inl rfl)) (fun _ _ _ _ _ => pts_nil) (fun _ _ _ _ _ => pv 2) (fun _ _ _ _ _ => by exact pe_and (pe_dget hu (pe_fld (pv 0) rfl) (pv 2) (fun _ _ => rfl)) (pe_one (pe_dget hu (pe_fld (pv 1) rfl) (pv 2) (fun _ _ => rfl)))))) pa_nil))))), ?_⟩
    refine ⟨_, rfl, _, rfl, m, m2, t, t2, rs, _, _, _, _, rfl, hm.turns, hm2.turns, ?_⟩
    refine ⟨_, rfl, m, CM, dx, _, _, rfl, h1, M.cl, M.nt, mf_t _ _ _ _, ?_⟩
    refine ⟨k, _, h3, trivial, fun od => ?_⟩
    obtain ⟨Hl, El⟩ : ∃ Hx, Hx = upd H k (.frz od (.dK (kvG rs v))) := ⟨_, rfl⟩
    have lk : Hl k = some (.frz od (.dK (kvG rs v))) := by rw [El]; exact upd_same
    have l1 : Hl m = some (.ins CM dx (mf t u k (v "top"))) := by
      rw [El, upd_ne (fun e => by rw [e, h3] at h1; cases h1)]; exact h1
    have l2 : Hl m2 = some (.ins CM dx2 (mf t2 u2 k2 (w' "top"))) := by
      rw [El, upd_ne (fun e => by rw [e, h3] at g1; cases g1)]; exact g1
    have back : ∀ {H' : Hp}, Same Hl H' → Same H (upd H' k (.dK (kvG rs v))) := fun {H'} sl b o e => by
      by_cases q : b = k
      · rw [q, upd_same, ← e, q]; exact h3.symm
      · rw [upd_ne q]; exact sl _ _ (by rw [El, upd_ne q]; exact e)
    have lk2 : ∃ kv, Rd Hl k2 (.dK kv) ∧ kv = kvG rs w' := by
      by_cases q : k2 = k
      · rw [q] at g3
        rw [h3] at g3
        have e3 := HO.dK.inj (Option.some.inj g3)
        exact ⟨_, by rw [q]; exact .inr ⟨od, lk⟩, e3⟩
      · exact ⟨_, .inl (by rw [El, upd_ne q]; exact g3), rfl⟩
    obtain ⟨kv2, rd2, rfl⟩ := lk2
    rw [← El]
    clear El
    refine ⟨_, rfl, m, CM, dx, _, _, rfl, l1, M.cl, M.nk, mf_k _ _ _ _, k, od, rfl, .inl ⟨_, lk, fun D hD => ?_⟩⟩
    have nD : D ≠ k := (ne_of_none lk hD).symm
    have lp : (plc rs).length ≤ 101 := by unfold plc names; rw [List.length_cons, List.length_map]; omega
    refine dc_walk (walk_keys (d := k) (o := od) (kvs := kvG rs v)) (fun i H' => Same Hl H' ∧ H' D = some (.dK (((plc rs).take i).map fun z => ((.inr z : Key), V.bl ((fun a b => a && b) (v z) (w' z)))))) ⟨Same.new hD, upd_same⟩ (fun i H' _ m => m.1 _ _ lk) ?_ ?_
    · rintro i x H5x H5 hi ⟨s5, hD5⟩ ⟨rfl, k', v', hk, rfl⟩
      obtain ⟨z, rfl, hz⟩ := kvG_at hk
      have hzm := List.mem_of_getElem? hz
      have dg1 : DGet H5 k (.str z) (some (.bl (v z))) := .inl ⟨_, .inr z, .inr ⟨od, s5 _ _ lk⟩, rfl, (valV_kvG v hzm).symm⟩
      have dg2 : DGet H5 k2 (.str z) (some (.bl (w' z))) := .inl ⟨_, .inr z, rd2.imp (s5 _ _) (fun ⟨o, e⟩ => ⟨o, s5 _ _ e⟩), rfl, (valV_kvG w' hzm).symm⟩
      refine ⟨rfl, tYes_if ⟨_, rfl, _, rfl, m, CM, dx, _, _, rfl, s5 _ _ l1, M.cl, M.nk, mf_k _ _ _ _, _, rfl, k, _, rfl, dg1, _, rfl, ?_⟩⟩
      have e9 : ∀ b : Bool, b = (v z && w' z) → (upd H5 D (.dK (putK (((plc rs).take i).map fun z => ((.inr z : Key), V.bl (v z && w' z))) (.inr z) (.bl b)))) D = some (.dK (((plc rs).take (i + 1)).map fun z => ((.inr z : Key), V.bl (v z && w' z)))) := fun b e => by
        rw [upd_same, e, ← kvP_more (plc_nodup hv) (fun z => v z && w' z) hz]
      refine ite2 (fun hc => ?_) (fun hc => ?_)
      · refine ⟨_, rfl, m2, CM, dx2, _, _, rfl, s5 _ _ l2, M.cl, M.nk, mf_k _ _ _ _, _, rfl, k2, _, rfl, dg2, ?_⟩
        refine ⟨_, .inr z, rfl, hD5, small1000 (by rw [List.length_map, List.length_take]; omega), fun b o eb => by
          rw [upd_ne (fun y => by rw [y, hD] at eb; cases eb)]
          exact s5 _ _ eb, e9 _ (by rw [hc]; rfl)⟩
      · have hc' : v z = false := by simpa using hc
        refine ⟨_, .inr z, rfl, hD5, small1000 (by rw [List.length_map, List.length_take]; omega), fun b o eb => by
          rw [upd_ne (fun y => by rw [y, hD] at eb; cases eb)]
          exact s5 _ _ eb, e9 false (by rw [hc']; rfl)⟩
    rintro H5 ⟨s5, hD5⟩
    rw [kvG_len, List.take_length] at hD5
    refine ⟨s5 _ _ lk, ?_⟩
    have bk := back s5
    refine ⟨t, D, rs, fun z => (fun a b => a && b) (v z) (w' z), rfl, hm.turns.tree.same bk, by rw [upd_ne nD]; exact hD5, fun r hr q => ?_, fun m3 H6 s6 hm3 => hq m3 H6 (bk.trans s6) hm3⟩
    show (fun a b => a && b) (v r.nm) (w' r.nm) = (fun a b => a && b) (v r.fo) (w' r.fo)
    rw [hm.lk r hr q, hm2.lk r hr q]
theorem sc_M_or : FnScope ["self", "other", "box"] ["self", "other"] (defScope s_Meaning_or) := ⟨rfl, rfl, rfl, by decide +kernel, rfl, by decide +kernel, by decide +kernel⟩
theorem ok_M_or {f : Addr} {fd : FuncData} (F : Fun K "__or__" "Meaning.__or__" s_Meaning_or f fd) (M : TxM K mg CM) (Dc : DefAt K mg "check_trees" s_check_trees ["one", "other"]) (Gc : FnOk P w K mg base CX0 4 Dc.f Dc.fd ["one", "other"] (spCheckTrees C CM))
    (Dw : DefAt K mg "with_values" s_with_values ["tree", "values"]) (Gw : FnOk P w K mg base CX0 9 Dw.f Dw.fd ["tree", "values"] (spWith C CM)) : FnOk P w K mg base CX0 10 f fd ["self", "other"] (spBin C CM fun a b => a || b) := by
  refine F.ok sc_M_or (fun vs H Q E h => ?_) (fun cdv A outer s H vs Q E hr h => ?_)
  · obtain ⟨m, m2, t, t2, rs, v, w', rfl, _⟩ := h
    rfl
  · obtain ⟨m, m2, t, t2, rs, v, w', rfl, hm, hm2, hq⟩ := h
    have hu := hu_of hr
    have hr3 : Room 4 _ := hr.mono (by decide)
    have hv := hm.valid
    have hl := hm.turns.tree.len
    obtain ⟨dx, u, k, h1, h2, h3⟩ := hm.turns.ex
    obtain ⟨dx2, u2, k2, g1, g2, g3⟩ := hm2.turns.ex
    rw [kvM_kvG hv (val_turnsG hv v)] at h3
    rw [kvM_kvG hv (val_turnsG hv w')] at g3
    refine ⟨_, pss_cons (ps_expr (pe_call Gc hr3 rfl Dc.g Dc.F.kp Dc.b .nil pass0 (pa_cons (pv 0) (pa_cons (pv 1) pa_nil))))
      (pss_one (ps_ret (pe_call Gw hr rfl Dw.g Dw.F.kp Dw.b .nil pass0 (pa_cons (pe_fld (pv 0) rfl) (pa_cons (pe_lock (pe_dc (own := [("box", 2)]) (g := gName 2) (tt := tYes) (tk := tVar 2) (tv := tOrV (tDGet (tFld K (tVar 0) "known") (tVar 2)) (tDGet (tFld K (tVar 1) "known") (tVar 2))) rfl sc_M_or.nd (pi_keys (pe_fld (pv 0) rfl)) (blkOk_by (N := ["self", "other", "box"]) (sc := defScope s_Meaning_or) (by decide +kernel))
        (fun _ _ _ _ _ => pg_name (i := 2) sc_M_or.nd rfl (Or.inl rfl)) (fun _ _ _ _ _ => pts_nil) (fun _ _ _ _ _ => pv 2) (fun _ _ _ _ _ => by exact pe_or (pe_dget hu (pe_fld (pv 0) rfl) (pv 2) (fun _ _ => rfl)) (pe_one (pe_dget hu (pe_fld (pv 1) rfl) (pv 2) (fun _ _ => rfl)))))) pa_nil))))), ?_⟩
    refine ⟨_, rfl, _, rfl, m, m2, t, t2, rs, _, _, _, _, rfl, hm.turns, hm2.turns, ?_⟩
    refine ⟨_, rfl, m, CM, dx, _, _, rfl, h1, M.cl, M.nt, mf_t _ _ _ _, ?_⟩
    refine ⟨k, _, h3, trivial, fun od => ?_⟩
    obtain ⟨Hl, El⟩ : ∃ Hx, Hx = upd H k (.frz od (.dK (kvG rs v))) := ⟨_, rfl⟩
    have lk : Hl k = some (.frz od (.dK (kvG rs v))) := by rw [El]; exact upd_same
    have l1 : Hl m = some (.ins CM dx (mf t u k (v "top"))) := by
      rw [El, upd_ne (fun e => by rw [e, h3] at h1; cases h1)]; exact h1
    have l2 : Hl m2 = some (.ins CM dx2 (mf t2 u2 k2 (w' "top"))) := by
      rw [El, upd_ne (fun e => by rw [e, h3] at g1; cases g1)]; exact g1
    have back : ∀ {H' : Hp}, Same Hl H' → Same H (upd H' k (.dK (kvG rs v))) := fun {H'} sl b o e => by
      by_cases q : b = k
      · rw [q, upd_same, ← e, q]; exact h3.symm
      · rw [upd_ne q]; exact sl _ _ (by rw [El, upd_ne q]; exact e)
    have lk2 : ∃ kv, Rd Hl k2 (.dK kv) ∧ kv = kvG rs w' := by
      by_cases q : k2 = k
      · rw [q] at g3
        rw [h3] at g3
        have e3 := HO.dK.inj (Option.some.inj g3)
        exact ⟨_, by rw [q]; exact .inr ⟨od, lk⟩, e3⟩
      · exact ⟨_, .inl (by rw [El, upd_ne q]; exact g3), rfl⟩
    obtain ⟨kv2, rd2, rfl⟩ := lk2
    rw [← El]
    clear El
    refine ⟨_, rfl, m, CM, dx, _, _, rfl, l1, M.cl, M.nk, mf_k _ _ _ _, k, od, rfl, .inl ⟨_, lk, fun D hD => ?_⟩⟩
    have nD : D ≠ k := (ne_of_none lk hD).symm
    have lp : (plc rs).length ≤ 101 := by unfold plc names; rw [List.length_cons, List.length_map]; omega
    refine dc_walk (walk_keys (d := k) (o := od) (kvs := kvG rs v)) (fun i H' => Same Hl H' ∧ H' D = some (.dK (((plc rs).take i).map fun z => ((.inr z : Key), V.bl ((fun a b => a || b) (v z) (w' z)))))) ⟨Same.new hD, upd_same⟩ (fun i H' _ m => m.1 _ _ lk) ?_ ?_
    · rintro i x H5x H5 hi ⟨s5, hD5⟩ ⟨rfl, k', v', hk, rfl⟩
      obtain ⟨z, rfl, hz⟩ := kvG_at hk
      have hzm := List.mem_of_getElem? hz
      have dg1 : DGet H5 k (.str z) (some (.bl (v z))) := .inl ⟨_, .inr z, .inr ⟨od, s5 _ _ lk⟩, rfl, (valV_kvG v hzm).symm⟩
      have dg2 : DGet H5 k2 (.str z) (some (.bl (w' z))) := .inl ⟨_, .inr z, rd2.imp (s5 _ _) (fun ⟨o, e⟩ => ⟨o, s5 _ _ e⟩), rfl, (valV_kvG w' hzm).symm⟩
      refine ⟨rfl, tYes_if ⟨_, rfl, _, rfl, m, CM, dx, _, _, rfl, s5 _ _ l1, M.cl, M.nk, mf_k _ _ _ _, _, rfl, k, _, rfl, dg1, _, rfl, ?_⟩⟩
      have e9 : ∀ b : Bool, b = (v z || w' z) → (upd H5 D (.dK (putK (((plc rs).take i).map fun z => ((.inr z : Key), V.bl (v z || w' z))) (.inr z) (.bl b)))) D = some (.dK (((plc rs).take (i + 1)).map fun z => ((.inr z : Key), V.bl (v z || w' z)))) := fun b e => by
        rw [upd_same, e, ← kvP_more (plc_nodup hv) (fun z => v z || w' z) hz]
      refine ite2 (fun hc => ?_) (fun hc => ?_)
      · refine ⟨_, .inr z, rfl, hD5, small1000 (by rw [List.length_map, List.length_take]; omega), fun b o eb => by
          rw [upd_ne (fun y => by rw [y, hD] at eb; cases eb)]
          exact s5 _ _ eb, e9 true (by rw [hc]; rfl)⟩
      · have hc' : v z = false := by simpa using hc
        refine ⟨_, rfl, m2, CM, dx2, _, _, rfl, s5 _ _ l2, M.cl, M.nk, mf_k _ _ _ _, _, rfl, k2, _, rfl, dg2, ?_⟩
        refine ⟨_, .inr z, rfl, hD5, small1000 (by rw [List.length_map, List.length_take]; omega), fun b o eb => by
          rw [upd_ne (fun y => by rw [y, hD] at eb; cases eb)]
          exact s5 _ _ eb, e9 _ (by rw [hc']; rfl)⟩
    rintro H5 ⟨s5, hD5⟩
    rw [kvG_len, List.take_length] at hD5
    refine ⟨s5 _ _ lk, ?_⟩
    have bk := back s5
    refine ⟨t, D, rs, fun z => (fun a b => a || b) (v z) (w' z), rfl, hm.turns.tree.same bk, by rw [upd_ne nD]; exact hD5, fun r hr q => ?_, fun m3 H6 s6 hm3 => hq m3 H6 (bk.trans s6) hm3⟩
    show (fun a b => a || b) (v r.nm) (w' r.nm) = (fun a b => a || b) (v r.fo) (w' r.fo)
    rw [hm.lk r hr q, hm2.lk r hr q]
theorem sc_M_sub : FnScope ["self", "other", "box"] ["self", "other"] (defScope s_Meaning_sub) := ⟨rfl, rfl, rfl, by decide +kernel, rfl, by decide +kernel, by decide +kernel⟩
theorem ok_M_sub {f : Addr} {fd : FuncData} (F : Fun K "__sub__" "Meaning.__sub__" s_Meaning_sub f fd) (M : TxM K mg CM) (Dc : DefAt K mg "check_trees" s_check_trees ["one", "other"]) (Gc : FnOk P w K mg base CX0 4 Dc.f Dc.fd ["one", "other"] (spCheckTrees C CM))
    (Dw : DefAt K mg "with_values" s_with_values ["tree", "values"]) (Gw : FnOk P w K mg base CX0 9 Dw.f Dw.fd ["tree", "values"] (spWith C CM)) : FnOk P w K mg base CX0 10 f fd ["self", "other"] (spBin C CM fun a b => a && !b) := by
  refine F.ok sc_M_sub (fun vs H Q E h => ?_) (fun cdv A outer s H vs Q E hr h => ?_)
  · obtain ⟨m, m2, t, t2, rs, v, w', rfl, _⟩ := h
    rfl
  · obtain ⟨m, m2, t, t2, rs, v, w', rfl, hm, hm2, hq⟩ := h
    have hu := hu_of hr
    have hr3 : Room 4 _ := hr.mono (by decide)
    have hv := hm.valid
    have hl := hm.turns.tree.len
    obtain ⟨dx, u, k, h1, h2, h3⟩ := hm.turns.ex
    obtain ⟨dx2, u2, k2, g1, g2, g3⟩ := hm2.turns.ex
    rw [kvM_kvG hv (val_turnsG hv v)] at h3
    rw [kvM_kvG hv (val_turnsG hv w')] at g3
    refine ⟨_, pss_cons (ps_expr (pe_call Gc hr3 rfl Dc.g Dc.F.kp Dc.b .nil pass0 (pa_cons (pv 0) (pa_cons (pv 1) pa_nil))))
      (pss_one (ps_ret (pe_call Gw hr rfl Dw.g Dw.F.kp Dw.b .nil pass0 (pa_cons (pe_fld (pv 0) rfl) (pa_cons (pe_lock (pe_dc (own := [("box", 2)]) (g := gName 2) (tt := tYes) (tk := tVar 2) (tv := tAndV (tDGet (tFld K (tVar 0) "known") (tVar 2)) (tNotV (tDGet (tFld K (tVar 1) "known") (tVar 2)))) rfl sc_M_sub.nd (pi_keys (pe_fld (pv 0) rfl)) (blkOk_by (N := ["self", "other", "box"]) (sc := defScope s_Meaning_sub) (by decide +kernel))
        (fun _ _ _ _ _ => pg_name (i := 2) sc_M_sub.nd rfl (Or.inl rfl)) (fun _ _ _ _ _ => pts_nil) (fun _ _ _ _ _ => pv 2) (fun _ _ _ _ _ => by exact pe_and (pe_dget hu (pe_fld (pv 0) rfl) (pv 2) (fun _ _ => rfl)) (pe_one (pe_not (pe_dget hu (pe_fld (pv 1) rfl) (pv 2) (fun _ _ => rfl))))))) pa_nil))))), ?_⟩
    refine ⟨_, rfl, _, rfl, m, m2, t, t2, rs, _, _, _, _, rfl, hm.turns, hm2.turns, ?_⟩
    refine ⟨_, rfl, m, CM, dx, _, _, rfl, h1, M.cl, M.nt, mf_t _ _ _ _, ?_⟩
    refine ⟨k, _, h3, trivial, fun od => ?_⟩
    obtain ⟨Hl, El⟩ : ∃ Hx, Hx = upd H k (.frz od (.dK (kvG rs v))) := ⟨_, rfl⟩
    have lk : Hl k = some (.frz od (.dK (kvG rs v))) := by rw [El]; exact upd_same
    have l1 : Hl m = some (.ins CM dx (mf t u k (v "top"))) := by
      rw [El, upd_ne (fun e => by rw [e, h3] at h1; cases h1)]; exact h1
    have l2 : Hl m2 = some (.ins CM dx2 (mf t2 u2 k2 (w' "top"))) := by
      rw [El, upd_ne (fun e => by rw [e, h3] at g1; cases g1)]; exact g1
    have back : ∀ {H' : Hp}, Same Hl H' → Same H (upd H' k (.dK (kvG rs v))) := fun {H'} sl b o e => by
      by_cases q : b = k
      · rw [q, upd_same, ← e, q]; exact h3.symm
      · rw [upd_ne q]; exact sl _ _ (by rw [El, upd_ne q]; exact e)
    have lk2 : ∃ kv, Rd Hl k2 (.dK kv) ∧ kv = kvG rs w' := by
      by_cases q : k2 = k
      · rw [q] at g3
        rw [h3] at g3
        have e3 := HO.dK.inj (Option.some.inj g3)
        exact ⟨_, by rw [q]; exact .inr ⟨od, lk⟩, e3⟩
      · exact ⟨_, .inl (by rw [El, upd_ne q]; exact g3), rfl⟩
    obtain ⟨kv2, rd2, rfl⟩ := lk2
    rw [← El]
    clear El
    refine ⟨_, rfl, m, CM, dx, _, _, rfl, l1, M.cl, M.nk, mf_k _ _ _ _, k, od, rfl, .inl ⟨_, lk, fun D hD => ?_⟩⟩
    have nD : D ≠ k := (ne_of_none lk hD).symm
    have lp : (plc rs).length ≤ 101 := by unfold plc names; rw [List.length_cons, List.length_map]; omega
    refine dc_walk (walk_keys (d := k) (o := od) (kvs := kvG rs v)) (fun i H' => Same Hl H' ∧ H' D = some (.dK (((plc rs).take i).map fun z => ((.inr z : Key), V.bl ((fun a b => a && !b) (v z) (w' z)))))) ⟨Same.new hD, upd_same⟩ (fun i H' _ m => m.1 _ _ lk) ?_ ?_
    · rintro i x H5x H5 hi ⟨s5, hD5⟩ ⟨rfl, k', v', hk, rfl⟩
      obtain ⟨z, rfl, hz⟩ := kvG_at hk
      have hzm := List.mem_of_getElem? hz
      have dg1 : DGet H5 k (.str z) (some (.bl (v z))) := .inl ⟨_, .inr z, .inr ⟨od, s5 _ _ lk⟩, rfl, (valV_kvG v hzm).symm⟩
      have dg2 : DGet H5 k2 (.str z) (some (.bl (w' z))) := .inl ⟨_, .inr z, rd2.imp (s5 _ _) (fun ⟨o, e⟩ => ⟨o, s5 _ _ e⟩), rfl, (valV_kvG w' hzm).symm⟩
      refine ⟨rfl, tYes_if ⟨_, rfl, _, rfl, m, CM, dx, _, _, rfl, s5 _ _ l1, M.cl, M.nk, mf_k _ _ _ _, _, rfl, k, _, rfl, dg1, _, rfl, ?_⟩⟩
      have e9 : ∀ b : Bool, b = (v z && !(w' z)) → (upd H5 D (.dK (putK (((plc rs).take i).map fun z => ((.inr z : Key), V.bl (v z && !(w' z)))) (.inr z) (.bl b)))) D = some (.dK (((plc rs).take (i + 1)).map fun z => ((.inr z : Key), V.bl (v z && !(w' z))))) := fun b e => by
        rw [upd_same, e, ← kvP_more (plc_nodup hv) (fun z => v z && !(w' z)) hz]
      refine ite2 (fun hc => ?_) (fun hc => ?_)
      · refine ⟨_, rfl, m2, CM, dx2, _, _, rfl, s5 _ _ l2, M.cl, M.nk, mf_k _ _ _ _, _, rfl, k2, _, rfl, dg2, _, rfl, ?_⟩
        refine ⟨_, .inr z, rfl, hD5, small1000 (by rw [List.length_map, List.length_take]; omega), fun b o eb => by
          rw [upd_ne (fun y => by rw [y, hD] at eb; cases eb)]
          exact s5 _ _ eb, e9 _ (by rw [hc]; rfl)⟩
      · have hc' : v z = false := by simpa using hc
        refine ⟨_, .inr z, rfl, hD5, small1000 (by rw [List.length_map, List.length_take]; omega), fun b o eb => by
          rw [upd_ne (fun y => by rw [y, hD] at eb; cases eb)]
          exact s5 _ _ eb, e9 false (by rw [hc']; rfl)⟩
    rintro H5 ⟨s5, hD5⟩
    rw [kvG_len, List.take_length] at hD5
    refine ⟨s5 _ _ lk, ?_⟩
    have bk := back s5
    refine ⟨t, D, rs, fun z => (fun a b => a && !b) (v z) (w' z), rfl, hm.turns.tree.same bk, by rw [upd_ne nD]; exact hD5, fun r hr q => ?_, fun m3 H6 s6 hm3 => hq m3 H6 (bk.trans s6) hm3⟩
    show (fun a b => a && !b) (v r.nm) (w' r.nm) = (fun a b => a && !b) (v r.fo) (w' r.fo)
    rw [hm.lk r hr q, hm2.lk r hr q]
theorem sc_M_invert : FnScope ["self"] ["self"] (defScope s_Meaning_invert) := ⟨rfl, rfl, rfl, by decide +kernel, rfl, by decide +kernel, by decide +kernel⟩
theorem ok_M_invert {fM f : Addr} {fdM fd : FuncData} (F : Fun K "__invert__" "Meaning.__invert__" s_Meaning_invert f fd) (M : TxM K mg CM)
    (MM : Mk K CM fM) (bM : Binds K fdM ["self", "tree", "default", "turns"] []) (GM : FnOk P w K mg base CX0 7 fM fdM ["self", "tree", "default", "turns"] (spMeaningInit K C CM)) : FnOk P w K mg base CX0 9 f fd ["self"] (spInv C CM) := by
  refine F.ok sc_M_invert (fun vs H Q E h => ?_) (fun cdv A outer s H vs Q E hr h => ?_)
  · obtain ⟨m, t, rs, v, rfl, _⟩ := h
    rfl
  · obtain ⟨m, t, rs, v, rfl, hm, hq⟩ := h
    have hv := hm.valid
    obtain ⟨dx, u, k, h1, h2, h3⟩ := hm.turns.ex
    refine ⟨_, pss_one (ps_ret (pe_make MM GM hr rfl M.g bM .nil pass0 (pa_cons (pe_fld (pv 0) rfl) (pa_cons (pe_not (pe_fld (pv 0) rfl)) (pa_cons (pe_fld (pv 0) rfl) pa_nil))))), ?_⟩
    refine ⟨_, rfl, m, CM, dx, _, _, rfl, h1, M.cl, M.nt, mf_t _ _ _ _, _, rfl, m, CM, dx, _, _, rfl, h1, M.cl, M.nd, mf_d _ _ _ _, _, rfl, _, rfl, m, CM, dx, _, _, rfl, h1, M.cl, M.nu, mf_u _ _ _ _, ?_⟩
    refine fun m3 dm nm nd _ => ⟨m3, dm, t, u, !(v "top"), turnsG rs v, rs, rfl, upd_same, hm.turns.tree.same (mk_same0 nm nd), SqX.same (.inr (sqT h2)) (mk_same0 nm nd), hm.free, fun H4 sb4 hm4 => ⟨rfl, ?_⟩⟩
    rw [turnsL_sub hv (turnsG_sub rs v)] at hm4
    refine hq m3 H4 (mk_same nm nd sb4) ⟨⟨_, _, hm4, fun z hz => ?_⟩, fun r hr q => ?_⟩
    · show turned (!(v "top")) (turnsG rs v) (wayOf rs z) = !(v z)
      rw [turned_not, ← val_turnsG hv v z hz]
      rfl
    · show (!(v r.nm)) = !(v r.fo)
      rw [hm.lk r hr q]
end
end Ts

set_option maxRecDepth 100000
set_option maxHeartbeats 4000000
namespace Ts
open PySem L2
/-- a fresh thing that is walked stays locked -/
theorem pe_lockF {X : Cx} {e : Expr} {t : TE} (h : PE X e t) : PE X e (fun σ H Q => t σ H fun x H1 => ∃ (d : Addr) (u : HO), x = .ref d ∧ H1 d = some u ∧ Mut (some u) ∧ ∀ od, Q x (upd H1 d (.frz od u))) :=
  ⟨fun pins s σ H Q I hw => thn (h.run pins s σ H _ I hw) fun v s1 ⟨x, H1, I1, r, d, u, ex, hd, mu, q⟩ => by
    obtain ⟨od, I2⟩ := Inv.lock I1 hd mu
    exact ⟨x, _, I2, r, q od⟩⟩
/-- the words of the module that the call and the entries take -/
structure TxF (K : PySem.W.Frag) (mg : Str → Option Value) where
  on : ∃ t, mg "ON" = some (.str "on" t)
  firmA : Addr
  firm : mg "FIRM" = some (.ref firmA)
  firmT : ∃ (o : Obj) (its : Array Value) (n : Nat), K.lookup firmA = some o ∧ o.cls = .type "tuple" ∧ o.data = .seq its n ∧ its.size ≤ sizeLine ∧ Vals ((["on", "off"] : List Str).map V.str) its.toList
theorem TreeAt.lockD {C : Addr} {H : Hp} {t e : Addr} {rs : List Row} {kvs : List (Key × V)} {o : HO} (h : TreeAt C H t rs) (he : H e = some (.dK kvs)) (hl : kvs.length = rs.length + 1) : TreeAt C (upd H e o) t rs := by
  obtain ⟨dx, q, f, k, p, qs, h1, h2, h3, h4, h5, h6⟩ := h.ex
  have n1 : ∀ {b : Addr} {u : HO}, H b = some u → (∀ m, u ≠ .dK m) → b ≠ e := fun {b u} hb hu q => by
    rw [q, he] at hb
    exact hu _ (Option.some.inj hb).symm
  have n2 : ∀ {b : Addr} (g : Row → V), H b = some (.dK (kvF g rs)) → b ≠ e := fun {b} g hb q => by
    rw [q, he] at hb
    have := congrArg List.length (HO.dK.inj (Option.some.inj hb))
    rw [hl] at this
    unfold kvF at this
    rw [List.length_map] at this
    omega
  exact ⟨⟨dx, q, f, k, p, qs, by rw [upd_ne (n1 h1 (fun _ e => nomatch e))]; exact h1, by rw [upd_ne (n1 h2 (fun _ e => nomatch e))]; exact h2, ⟨h3.len, fun i b r hb hr => by rw [upd_ne (n1 (h3.at_ i b r hb hr) (fun _ e => nomatch e))]; exact h3.at_ i b r hb hr⟩, by rw [upd_ne (n2 _ h4)]; exact h4, by rw [upd_ne (n2 _ h5)]; exact h5, by rw [upd_ne (n2 _ h6)]; exact h6⟩, h.val, h.len⟩
theorem kvX_snoc {f : Str → V} {l : List Str} {z : Str} (hn : z ∉ l) : putK (kvX f l) (.inr z) (f z) = kvX f (l ++ [z]) := by
  have hv : valV (kvX f l) (.inr z : Key) = none := by
    induction l with
    | nil => rfl
    | cons x m ih =>
      show valV (((.inr x : Key), f x) :: kvX f m) _ = _
      rw [valV_neg (fun q => hn (by rw [Sum.inr.inj q]; exact List.mem_cons_self ..))]
      exact ih fun q => hn (List.mem_cons_of_mem _ q)
  rw [putK_new _ hv]
  unfold kvX
  rw [List.map_append]
  rfl
def arF (rs : List Row) (f : Str → Str) (z : Str) : Str := if z = ("top" : Str) then "keep" else match rowOf rs z with
  | some r => f r.fo
  | none => "keep"
theorem arF_top (rs : List Row) (f : Str → Str) : arF rs f "top" = "keep" := by unfold arF; rw [if_pos rfl]
theorem arF_row {rs : List Row} {f : Str → Str} {z : Str} {r : Row} (hz : z ≠ ("top" : Str)) (h : rowOf rs z = some r) : arF rs f z = f r.fo := by
  unfold arF
  rw [if_neg hz, h]
def entL (rs : List Row) (f : Str → Str) : List Str := (plc rs).filter fun z => decide (f z ≠ arF rs f z)
def spAround (C : Addr) : Sp := fun vs H Q _ => ∃ (t e : Addr) (z : Str) (rs : List Row) (f : Str → Str), vs = [.ref t, .ref e, .str z] ∧ TreeAt C H t rs ∧ z ∈ plc rs ∧ (∀ y ∈ plc rs, DGet H e (.str y) (some (.str (f y)))) ∧ Q (.str (arF rs f z)) H
def spEntries (C : Addr) : Sp := fun vs H Q _ => ∃ (t e : Addr) (rs : List Row) (f : Str → Str), vs = [.ref t, .ref e] ∧ TreeAt C H t rs ∧ H e = some (.dK (kvS f (plc rs))) ∧ ∀ D H', H D = none → Same H H' → H' D = some (.dK (kvS f (entL rs f))) → Q (.ref D) H'
def spBehind : Sp := fun vs H Q _ => ∃ (z : Str) (v : Bool), vs = [.str z, .bl v] ∧ z ∈ words4 ∧ Q (.bl (vb z v)) H
def spRLen (C CR : Addr) : Sp := fun vs H Q _ => ∃ (r t : Addr) (rs : List Row) (ds : List De), vs = [.ref r] ∧ RowAt C CR H r t rs ds ∧ Q (.int ds.length) H
def spREntries (C CR : Addr) : Sp := fun vs H Q _ => ∃ (r t : Addr) (rs : List Row) (ds : List De), vs = [.ref r] ∧ RowAt C CR H r t rs ds ∧ ∀ D H', H D = none → Same H H' → H' D = some (.dK (kvS (eff rs ds) (entL rs (eff rs ds)))) → Q (.ref D) H'
def spRCall (C CR CM : Addr) : Sp := fun vs H Q _ => ∃ (r m t t2 : Addr) (rs : List Row) (ds : List De) (v : Str → Bool), vs = [.ref r, .ref m] ∧ RowAt C CR H r t rs ds ∧ MV C CM H m t2 rs v ∧ ∀ m3 H', Same H H' → MV C CM H' m3 t rs (doneV rs v ds) → Q (.ref m3) H'
def spCheckTreesM (C CR CM : Addr) : Sp := fun vs H Q _ => ∃ (r m t t2 : Addr) (rs : List Row) (ds : List De) (v : Str → Bool), vs = [.ref r, .ref m] ∧ RowAt C CR H r t rs ds ∧ MV C CM H m t2 rs v ∧ Q .non H
section
variable {P : Program} {w : World} {K : PySem.W.Frag} {mg : Str → Option Value} {base : Heap} {C CR CM : Addr}
theorem ok_check_treesM (D : DefAt K mg "check_trees" s_check_trees ["one", "other"]) (R : TxR K mg CR) (M : TxM K mg CM) (N : TxN K C)
    (mE : MethAt K C "__eq__" "Tree.__eq__" s_Tree_eq ["self", "other"]) (GE : FnOk P w K mg base CX0 2 mE.f mE.fd ["self", "other"] (spEqT K C)) : FnOk P w K mg base CX0 4 D.f D.fd ["one", "other"] (spCheckTreesM C CR CM) := by
  refine D.F.ok sc_check_treesE (fun vs H Q E h => ?_) (fun cdv A outer s H vs Q E hr h => ?_)
  · obtain ⟨m, m2, t, t2, rs, ds, v, rfl, _⟩ := h
    rfl
  · obtain ⟨m, m2, t, t2, rs, ds, v, rfl, hm, hm2, hq⟩ := h
    obtain ⟨dx, u, k, as, h1, h2, h3, h4⟩ := hm.ex
    obtain ⟨dx2, u2, k2, g1, g2, g3⟩ := hm2.turns.ex
    have ht2 := hm2.turns.tree
    obtain ⟨tdx, _, _, _, _, _, t1, _⟩ := id hm.tree.ex
    obtain ⟨tdx2, _, _, _, _, _, t3, _⟩ := id ht2.ex
    refine ⟨_, pss_one (ps_if (pt_cmpR (op_neC GE mE.m N.ne N.ob hr mE.b pass0) (pe_fld (pv 0) rfl) (pe_fld (pv 1) rfl) (nomark _)) (pss_one ps_never) pss_nil), ?_⟩
    refine ⟨_, rfl, m, CR, dx, _, _, rfl, h1, R.cl, R.nt, rf_t _ _ _, _, rfl, m2, CM, dx2, _, _, rfl, g1, M.cl, M.nt, mf_t _ _ _ _, t, tdx, _, .ref C, rfl, t1, .ins t3, nfC, t, _, rs, rfl, hm.tree, .inl ⟨t2, rs, rfl, ht2, _, rfl, _, rfl, ?_⟩⟩
    exact iteF' (by simp) hq
abbrev nAround : List Str := ["tree", "effects", "place"]
theorem sc_around : FnScope nAround nAround (defScope s_effect_around) := ⟨rfl, rfl, rfl, by decide +kernel, rfl, by decide +kernel, by decide +kernel⟩
theorem ok_around (D : DefAt K mg "effect_around" s_effect_around nAround) (TC : TxC K mg) (TD : TxD K mg w) (T : TxT K mg C)
    (mF : MethAt K C "folder" "Tree.folder" s_Tree_folder ["self", "box"]) (GF : FnOk P w K mg base CX0 4 mF.f mF.fd ["self", "box"] (spGet C fun r => .str r.fo)) : FnOk P w K mg base CX0 5 D.f D.fd nAround (spAround C) := by
  obtain ⟨t1, gT⟩ := TC.top
  obtain ⟨t3, gK⟩ := TD.keep
  refine D.F.ok sc_around (fun vs H Q E h => ?_) (fun cdv A outer s H vs Q E hr h => ?_)
  · obtain ⟨t, e, z, rs, f, rfl, _⟩ := h
    rfl
  · obtain ⟨t, e, z, rs, f, rfl, ht, hz, hf, hq⟩ := h
    have hu := hu_of hr
    refine ⟨_, pss_one (ps_ret (pe_ifExp (pt_cmpR op_eq (pv 2) (pe_glob (by rfl) gT (v := .str ("top" : Str)) ⟨_, rfl⟩) (nomark _)) (pe_glob (by rfl) gK (v := .str ("keep" : Str)) ⟨_, rfl⟩)
      (pe_dget hu (pv 1) (pe_meth (pv 0) T.cl mF.m GF hr mF.b .nil pass0 (pa_cons (pv 2) pa_nil)) (fun _ _ => rfl)))), ?_⟩
    obtain ⟨dx, q, ff, k, p, qs, h1, _⟩ := id ht.ex
    have noF : (tf q ff k p).lookup ("folder" : Str) = none := tf_no _ _ _ _ (by decide +kernel) (by decide +kernel) (by decide +kernel) (by decide +kernel)
    refine ⟨_, rfl, rfl, _, rfl, ?_⟩
    refine ite2 (fun c => ?_) (fun c => ?_)
    · have e1 : z = ("top" : Str) := V.str.inj (of_decide_eq_true c)
      subst e1
      rw [arF_top] at hq
      exact hq
    · have e1 : z ≠ ("top" : Str) := fun e => c (decide_eq_true (congrArg V.str e))
      rcases mem_plc.mp hz with e | hn
      · exact absurd e e1
      obtain ⟨r, er, hr', rfl⟩ := rowOf_some hn
      rw [arF_row e1 er] at hq
      exact ⟨_, rfl, _, rfl, t, dx, _, rfl, h1, noF, _, rfl, t, r.nm, rs, r, rfl, ht, er, e, _, rfl, hf r.fo (fo_plc ht.val hr'), hq⟩
theorem sc_entries : FnScope nAround ["tree", "effects"] (defScope s_entries_of) := ⟨rfl, rfl, rfl, by decide +kernel, rfl, by decide +kernel, by decide +kernel⟩
theorem ok_entries (D : DefAt K mg "entries_of" s_entries_of ["tree", "effects"]) (Da : DefAt K mg "effect_around" s_effect_around nAround) (Ga : FnOk P w K mg base CX0 5 Da.f Da.fd nAround (spAround C)) : FnOk P w K mg base CX0 6 D.f D.fd ["tree", "effects"] (spEntries C) := by
  refine D.F.ok sc_entries (fun vs H Q E h => ?_) (fun cdv A outer s H vs Q E hr h => ?_)
  · obtain ⟨t, e, rs, f, rfl, _⟩ := h
    rfl
  · obtain ⟨t, e, rs, f, rfl, ht, he, hq⟩ := h
    have hu := hu_of hr
    refine ⟨_, pss_one (ps_ret (pe_lock (pe_dc (own := [("place", 2)]) (g := gName 2) (tt := tTest (tOp rNe (tDGet (tVar 1) (tVar 2)) (tCall (spAround C) [] E0 (tCons (tVar 0) (tCons (tVar 1) (tCons (tVar 2) tNil)))))) (tk := tVar 2) (tv := tDGet (tVar 1) (tVar 2)) rfl sc_entries.nd (pi_keys (pv 1)) (blkOk_by (N := nAround) (sc := defScope s_entries_of) (by decide +kernel))
        (fun _ _ _ _ _ => pg_name (i := 2) sc_entries.nd rfl (Or.inl rfl)) (fun _ _ _ _ _ => by exact pts_one (pt_cmpR op_ne (pe_dget hu (pv 1) (pv 2) (fun _ _ => rfl)) (pe_call Ga hr rfl Da.g Da.F.kp Da.b .nil pass0 (pa_cons (pv 0) (pa_cons (pv 1) (pa_cons (pv 2) pa_nil)))) (nomark _))) (fun _ _ _ _ _ => pv 2) (fun _ _ _ _ _ => by exact pe_dget hu (pv 1) (pv 2) (fun _ _ => rfl))))), ?_⟩
    have hv := ht.val
    have l100 := ht.len
    have lpl : (plc rs).length ≤ 101 := by rw [plc_len']; omega
    refine ⟨e, _, he, trivial, fun od => ?_⟩
    obtain ⟨Hl, El⟩ : ∃ Hx, Hx = upd H e (.frz od (.dK (kvS f (plc rs)))) := ⟨_, rfl⟩
    have lk : Hl e = some (.frz od (.dK (kvS f (plc rs)))) := by rw [El]; exact upd_same
    have htl : TreeAt C Hl t rs := by
      rw [El]
      exact ht.lockD he (by unfold kvS; rw [kvX_len, plc_len'])
    have hfr : ∀ {b : Addr}, Hl b = none → H b = none := fun {b} h => by
      rw [El] at h
      by_cases q : b = e
      · rw [q, upd_same] at h; cases h
      · rw [upd_ne q] at h; exact h
    have back : ∀ {H' : Hp}, Same Hl H' → Same H (upd H' e (.dK (kvS f (plc rs)))) := fun {H'} sl => lock_backE he (by rw [← El]; exact sl)
    rw [← El]
    clear El
    refine ⟨_, rfl, e, od, rfl, .inl ⟨_, lk, fun D hD => ?_⟩⟩
    have nD : D ≠ e := (ne_of_none lk hD).symm
    refine dc_walk (walk_keys (d := e) (o := od) (kvs := kvS f (plc rs))) (fun i H' => Same Hl H' ∧ H' D = some (.dK (kvS f (((plc rs).take i).filter fun z => decide (f z ≠ arF rs f z))))) ⟨Same.new hD, upd_same⟩ (fun i H' _ m => m.1 _ _ lk) ?_ ?_
    · rintro i x H5x H5 hi ⟨s5, hD5⟩ ⟨rfl, k', v', hk, rfl⟩
      obtain ⟨z, rfl, hz⟩ := kvX_at hk
      have hzm := List.mem_of_getElem? hz
      have dg : ∀ y ∈ plc rs, DGet H5 e (.str y) (some (.str (f y))) := fun y hy => .inl ⟨_, .inr y, .inr ⟨od, s5 _ _ lk⟩, rfl, (valV_kvX (fun z => V.str (f z)) hy).symm⟩
      refine ⟨rfl, _, rfl, _, rfl, e, _, rfl, dg z hzm, _, rfl, _, rfl, _, rfl, t, e, z, rs, f, rfl, htl.same s5, hzm, dg, rfl, _, rfl, ?_⟩
      have e0 : (!decide (V.str (f z) = V.str (arF rs f z))) = decide (f z ≠ arF rs f z) := by
        by_cases q : f z = arF rs f z
        · rw [← q]; simp
        · have : V.str (f z) ≠ V.str (arF rs f z) := fun e => q (V.str.inj e)
          simp [q, this]
      rw [e0]
      refine ite2 (fun hc => ?_) (fun hc => ?_)
      · refine ⟨_, rfl, _, rfl, _, rfl, e, _, rfl, dg z hzm, _, .inr z, rfl, hD5, small1000 (by
          unfold kvS
          rw [kvX_len]
          have := List.length_filter_le (fun z => decide (f z ≠ arF rs f z)) ((plc rs).take i)
          rw [List.length_take] at this
          omega), fun b o eb => ?_, ?_⟩
        · rw [upd_ne (fun y => by rw [y, hD] at eb; cases eb)]
          exact s5 _ _ eb
        · rw [upd_same]
          refine congrArg (fun l => some (HO.dK l)) ?_
          have hn : z ∉ ((plc rs).take i).filter fun z => decide (f z ≠ arF rs f z) := fun hm => by
            have hm := (List.mem_filter.mp hm).1
            obtain ⟨j, hj, e⟩ := List.mem_take_iff_getElem.mp hm
            obtain ⟨hi, e2⟩ := List.getElem?_eq_some_iff.mp hz
            have := (List.getElem_inj (plc_nd hv)).mp (e.trans e2.symm)
            omega
          rw [take_more hz, List.filter_append, List.filter_cons_of_pos (p := fun z => decide (f z ≠ arF rs f z)) hc, List.filter_nil]
          unfold kvS
          exact kvX_snoc (f := fun z => V.str (f z)) hn
      · refine ⟨s5, ?_⟩
        rw [take_more hz, List.filter_append, List.filter_cons_of_neg (p := fun z => decide (f z ≠ arF rs f z)) hc, List.filter_nil, List.append_nil]
        exact hD5
    rintro H5 ⟨s5, hD5⟩
    unfold kvS at hD5
    rw [kvX_len, List.take_length] at hD5
    refine ⟨s5 _ _ lk, ?_⟩
    exact hq D _ (hfr hD) (back s5) (by rw [upd_ne nD]; exact hD5)
theorem vb_firm : ∀ w ∈ words4, w ∈ (["on", "off"] : List Str) → ∀ v : Bool, vb w v = decide (w = ("on" : Str)) := by decide +kernel
theorem vb_loose : ∀ w ∈ words4, ¬ w ∈ (["on", "off"] : List Str) → ∀ v : Bool, vb w v = (v != decide (w = ("flip" : Str))) := by decide +kernel
theorem sc_behind : FnScope ["effect", "value"] ["effect", "value"] (defScope s_value_behind) := ⟨rfl, rfl, rfl, by decide +kernel, rfl, by decide +kernel, by decide +kernel⟩
theorem ok_behind (D : DefAt K mg "value_behind" s_value_behind ["effect", "value"]) (TD : TxD K mg w) (TF : TxF K mg) : FnOk P w K mg base CX0 2 D.f D.fd ["effect", "value"] spBehind := by
  obtain ⟨t1, gO⟩ := TF.on
  obtain ⟨t2, gF⟩ := TD.flip
  refine D.F.ok sc_behind (fun vs H Q E h => ?_) (fun cdv A outer s H vs Q E hr h => ?_)
  · obtain ⟨z, v, rfl, _⟩ := h
    rfl
  · obtain ⟨z, v, rfl, hz, hq⟩ := h
    refine ⟨_, pss_cons (ps_if (pt_cmpR op_in_seq (pv 0) (pe_glob (by rfl) TF.firm (v := .ref TF.firmA) rfl) (by rfl)) (pss_one (ps_ret (pe_cmpR op_eq (pv 0) (pe_glob (by rfl) gO (v := .str ("on" : Str)) ⟨_, rfl⟩) (nomark _)))) pss_nil)
      (pss_one (ps_ret (pe_cmpR op_ne (pv 1) (pe_cmpR op_eq (pv 0) (pe_glob (by rfl) gF (v := .str ("flip" : Str)) ⟨_, rfl⟩) (nomark _)) (nomark _)))), ?_⟩
    have eqS : ∀ x y : Str, decide (V.str x = V.str y) = decide (x = y) := fun x y => decide_eq_decide.mpr ⟨fun h => V.str.inj h, fun h => congrArg _ h⟩
    refine ⟨_, rfl, TF.firmA, _, rfl, .inr (.inr TF.firmT), rfl, flat_strs _, _, rfl, ?_⟩
    rw [if_neg Bool.false_ne_true, inV_strs]
    refine ite2 (fun c => ?_) (fun c => ?_)
    · refine ⟨_, rfl, rfl, ?_⟩
      rw [eqS, ← vb_firm z hz (of_decide_eq_true c) v]
      exact hq
    · refine ⟨_, rfl, _, rfl, rfl, rfl, ?_⟩
      have e : (!decide (V.bl v = V.bl (decide (V.str z = V.str ("flip" : Str))))) = vb z v := by
        rw [vb_loose z hz (fun h => c (decide_eq_true h)) v, eqS]
        cases v <;> cases decide (z = ("flip" : Str)) <;> rfl
      rw [e]
      exact hq
theorem sc_R_len : FnScope ["self"] ["self"] (defScope s_Row_len) := ⟨rfl, rfl, rfl, by decide +kernel, rfl, by decide +kernel, by decide +kernel⟩
theorem ok_R_len {f : Addr} {fd : FuncData} (F : Fun K "__len__" "Row.__len__" s_Row_len f fd) (B : TxB mg) (R : TxR K mg CR) : FnOk P w K mg base CX0 2 f fd ["self"] (spRLen C CR) := by
  refine F.ok sc_R_len (fun vs H Q E h => ?_) (fun cdv A outer s H vs Q E hr h => ?_)
  · obtain ⟨r, t, rs, ds, rfl, _⟩ := h
    rfl
  · obtain ⟨r, t, rs, ds, rfl, hm, hq⟩ := h
    obtain ⟨dx, q, e, as, h1, h2, h3, h4⟩ := hm.ex
    refine ⟨_, pss_one (ps_ret (pe_callB call_len_seq (by rfl) B.len PySem.boot_len (pa_cons (pe_fld (pv 0) rfl) pa_nil))), ?_⟩
    refine ⟨_, rfl, r, CR, dx, _, _, rfl, h1, R.cl, R.np, rf_p _ _ _, q, _, rfl, .inr (sqT h2), ?_⟩
    rw [List.length_map, h3.len]
    exact hq
theorem sc_R_entries : FnScope ["self"] ["self"] (defScope s_Row_entries) := ⟨rfl, rfl, rfl, by decide +kernel, rfl, by decide +kernel, by decide +kernel⟩
theorem ok_R_entries {f : Addr} {fd : FuncData} (F : Fun K "entries" "Row.entries" s_Row_entries f fd) (R : TxR K mg CR) (De : DefAt K mg "entries_of" s_entries_of ["tree", "effects"]) (Ge : FnOk P w K mg base CX0 6 De.f De.fd ["tree", "effects"] (spEntries C)) : FnOk P w K mg base CX0 7 f fd ["self"] (spREntries C CR) := by
  refine F.ok sc_R_entries (fun vs H Q E h => ?_) (fun cdv A outer s H vs Q E hr h => ?_)
  · obtain ⟨r, t, rs, ds, rfl, _⟩ := h
    rfl
  · obtain ⟨r, t, rs, ds, rfl, hm, hq⟩ := h
    obtain ⟨dx, q, e, as, h1, h2, h3, h4⟩ := hm.ex
    refine ⟨_, pss_one (ps_ret (pe_call Ge hr rfl De.g De.F.kp De.b .nil pass0 (pa_cons (pe_fld (pv 0) rfl) (pa_cons (pe_fld (pv 0) rfl) pa_nil)))), ?_⟩
    exact ⟨_, rfl, r, CR, dx, _, _, rfl, h1, R.cl, R.nt, rf_t _ _ _, _, rfl, r, CR, dx, _, _, rfl, h1, R.cl, R.ne, rf_e _ _ _, t, e, rs, _, rfl, hm.tree, h4, fun D H' hD s' e' => hq D H' hD s' e'⟩
abbrev nRCall : List Str := ["self", "meaning", "values", "place", "value"]
theorem sc_R_call : FnScope nRCall ["self", "meaning"] (defScope s_Row_call) := ⟨rfl, rfl, rfl, by decide +kernel, rfl, by decide +kernel, by decide +kernel⟩
theorem kvB_kvG (rs : List Row) (v : Str → Bool) : kvX (fun z => V.bl (v z)) (plc rs) = kvG rs v := rfl
theorem ok_R_call {f : Addr} {fd : FuncData} (F : Fun K "__call__" "Row.__call__" s_Row_call f fd) (R : TxR K mg CR) (M : TxM K mg CM) (Dc : DefAt K mg "check_trees" s_check_trees ["one", "other"]) (Gc : FnOk P w K mg base CX0 4 Dc.f Dc.fd ["one", "other"] (spCheckTreesM C CR CM))
    (Db : DefAt K mg "value_behind" s_value_behind ["effect", "value"]) (Gb : FnOk P w K mg base CX0 2 Db.f Db.fd ["effect", "value"] spBehind)
    (mS : MethAt K CM "states" "Meaning.states" s_Meaning_states ["self"]) (GS : FnOk P w K mg base CX0 2 mS.f mS.fd ["self"] (spMStates C CM))
    (Dw : DefAt K mg "with_values" s_with_values ["tree", "values"]) (Gw : FnOk P w K mg base CX0 9 Dw.f Dw.fd ["tree", "values"] (spWith C CM)) : FnOk P w K mg base CX0 10 f fd ["self", "meaning"] (spRCall C CR CM) := by
  refine F.ok sc_R_call (fun vs H Q E h => ?_) (fun cdv A outer s H vs Q E hr h => ?_)
  · obtain ⟨r, m, t, t2, rs, ds, v, rfl, _⟩ := h
    rfl
  · obtain ⟨r, m, t, t2, rs, ds, v, rfl, hR, hm, hq⟩ := h
    have hu := hu_of hr
    have hr1 : Room 2 _ := hr.mono (by decide)
    have hr3 : Room 4 _ := hr.mono (by decide)
    have hv := hm.valid
    have hl := hm.turns.tree.len
    have lpl : (plc rs).length ≤ 101 := by rw [plc_len']; omega
    obtain ⟨dx, q, e, as, h1, h2, h3, h4⟩ := id hR.ex
    obtain ⟨dx2, u2, k2, g1, g2, g3⟩ := id hm.turns.ex
    refine ⟨_, pss_cons (ps_expr (pe_call Gc hr3 rfl Dc.g Dc.F.kp Dc.b .nil pass0 (pa_cons (pv 0) (pa_cons (pv 1) pa_nil))))
      (pss_cons (ps_setDc (i := 2) (own := [("place", 3), ("value", 4)]) (g := gTup K 2 (gCons (gName 3) (gCons (gName 4) gNil))) (tt := tYes) (tk := tVar 3) (tv := tCall spBehind [] E0 (tCons (tDGet (tFld K (tVar 0) "effects") (tVar 3)) (tCons (tVar 4) tNil))) rfl sc_R_call.nd rfl rfl (swd_true rfl rfl rfl (by decide +kernel)) (pi_items (pe_lockF (pe_meth0 (pv 1) M.cl mS.m GS hr1 mS.b .nil pass0))) (blkOk_by (N := nRCall) (sc := defScope s_Row_call) (by decide +kernel))
        (fun _ _ _ _ _ => by exact pg_tup rfl (pgs_cons (pg_name (i := 3) sc_R_call.nd rfl (Or.inl rfl)) (pgs_cons (pg_name (i := 4) sc_R_call.nd rfl (Or.inl rfl)) pgs_nil))) (fun _ _ _ _ _ => pts_nil) (fun _ _ _ _ _ => pv 3) (fun _ _ _ _ _ => by exact pe_call Gb hr1 rfl Db.g Db.F.kp Db.b .nil pass0 (pa_cons (pe_dget hu (pe_fld (pv 0) rfl) (pv 3) (fun _ _ => rfl)) (pa_cons (pv 4) pa_nil))))
      (pss_one (ps_ret (pe_call Gw hr rfl Dw.g Dw.F.kp Dw.b .nil pass0 (pa_cons (pe_fld (pv 0) rfl) (pa_cons (pv 2) pa_nil)))))), ?_⟩
    have noS : (mf t2 u2 k2 (v "top")).lookup ("states" : Str) = none := mf_no _ _ _ _ (by decide +kernel) (by decide +kernel) (by decide +kernel) (by decide +kernel)
    refine ⟨_, rfl, _, rfl, r, m, t, t2, rs, ds, v, rfl, hR, hm, ?_⟩
    refine ⟨_, rfl, m, dx2, _, rfl, g1, noS, m, t2, rs, _, _, rfl, hm.turns, fun d hd => ?_⟩
    rw [kvM_kvG hv (val_turnsG hv v)]
    refine ⟨d, _, rfl, upd_same, trivial, fun od => ?_⟩
    have s1 : Same H (upd (upd H d (.dK (kvG rs v))) d (.frz od (.dK (kvG rs v)))) := fun b o eb => by
      rw [upd_ne (ne_of_none eb hd), upd_ne (ne_of_none eb hd)]; exact eb
    have lk : (upd (upd H d (.dK (kvG rs v))) d (.frz od (.dK (kvG rs v)))) d = some (.frz od (.dK (kvG rs v))) := upd_same
    generalize upd (upd H d (.dK (kvG rs v))) d (.frz od (.dK (kvG rs v))) = Hl at s1 lk
    refine ⟨d, od, _, rfl, lk, fun D hD => ?_⟩
    refine dc_walk (walk_items (d := d) (o := od) (kvs := kvG rs v)) (fun i H' => Same Hl H' ∧ H' D = some (.dK (kvX (fun z => V.bl (doneV rs v ds z)) ((plc rs).take i)))) ⟨Same.new hD, upd_same⟩ (fun i H' _ m => m.1 _ _ lk) ?_ ?_
    · rintro i x H5x H5 hi ⟨s5, hD5⟩ ⟨T, kx, vx, rfl, hT, rfl, hkx, hvx⟩
      rw [Option.map_eq_some_iff] at hkx hvx
      obtain ⟨⟨k', v'⟩, hk, rfl⟩ := hkx
      obtain ⟨⟨k'', v''⟩, hk2, rfl⟩ := hvx
      rw [hk] at hk2
      cases Option.some.inj hk2
      obtain ⟨z, rfl, hz⟩ := kvG_at hk
      have hzm := List.mem_of_getElem? hz
      have ev : v' = V.bl (v z) := by
        unfold kvG at hk
        rw [List.getElem?_map, hz] at hk
        exact (Prod.mk.inj (Option.some.inj hk)).2.symm
      subst ev
      have sT : Same H5x (upd H5x T (.tup [V.str z, V.bl (v z)])) := Same.new hT
      have eT : (upd H5x T (.tup [V.str z, V.bl (v z)])) T = some (.tup [V.str z, V.bl (v z)]) := upd_same
      have s6 := s5.trans sT
      have hD6 := sT _ _ hD5
      show gTup K 2 _ _ _ (upd H5x T (.tup [V.str z, V.bl (v z)])) _
      generalize upd H5x T (.tup [V.str z, V.bl (v z)]) = H6 at sT eT s6 hD6
      have dg : DGet H6 e (.str z) (some (.str (eff rs ds z))) := .inl ⟨_, .inr z, .inl (s6 _ _ (s1 _ _ h4)), rfl, (valV_kvX (fun z => V.str (eff rs ds z)) hzm).symm⟩
      refine ⟨T, _, rfl, sqT eT, rfl, _, _, rfl, _, _, rfl, rfl, rfl, tYes_if ?_⟩
      refine ⟨_, rfl, _, rfl, r, CR, dx, _, _, rfl, s6 _ _ (s1 _ _ h1), R.cl, R.ne, rf_e _ _ _, _, rfl, e, _, rfl, dg, _, rfl, eff rs ds z, v z, rfl, eff_mem hR.vd.words z, ?_⟩
      refine ⟨_, .inr z, rfl, hD6, small1000 (by rw [kvX_len, List.length_take]; omega), fun b o eb => ?_, ?_⟩
      · rw [upd_ne (fun y => by rw [y, hD] at eb; cases eb)]
        exact s6 _ _ eb
      · rw [upd_same, ← done_eff hR.vd.words v z]
        exact congrArg (fun l => some (HO.dK l)) (kvX_more (plc_nd hv) (fun z => V.bl (doneV rs v ds z)) hz)
    rintro H5 ⟨s5, hD5⟩
    rw [kvG_len, List.take_length, kvB_kvG] at hD5
    have s15 := s1.trans s5
    refine ⟨_, rfl, r, CR, dx, _, _, rfl, s15 _ _ h1, R.cl, R.nt, rf_t _ _ _, _, rfl, t, D, rs, doneV rs v ds, rfl, hR.tree.same s15, hD5, fun r' hr' q => absurd q (hR.un r' hr'), fun m3 H6 s6 hm3 => hq m3 H6 (s15.trans s6) hm3⟩
end
end Ts

set_option maxRecDepth 100000
set_option maxHeartbeats 1000000
namespace Ts
open PySem L2
/-! ### an object of an own class is called -/
theorem ld_var {X : Cx} (i : Nat) {x : Str} {pos : Pos} (hN : X.N[i]? = some x) (hv : Vis X.env.scope x) (hd : (x == ("__debug__" : Str)) = false) (hcd : (x == ("__classdict__" : Str)) = false) {pins : List (Addr × Obj)} {s : Shared} {σ : St} {H : Hp} {v : V} {E : Value → Shared → Prop} (I : Inv X pins σ H s) (e : σ[i]? = some (some v)) {Q : Value → Shared → Prop} (fin : ∀ u, RelV v u → Q u s) :
    wpAny (model X.prog X.w) X.A (eval (.Name x pos) X.env) Q E s := by
  obtain ⟨m, hn, hl⟩ := I.loc
  obtain ⟨u, r, l⟩ := hl i x v hN e hv
  have fin := fin u r
  rcases l with ⟨hk, hm⟩ | ⟨hk, c, hc, hcell⟩
  · exact wpAny_Name (wpAny_loadName_local I.ok.kind hk hn hm fin) hd
  · rcases hk with hk | hk
    · exact wpAny_Name (wpAny_loadName_cell I.ok.kind hk hc hcell fin) hd
    · exact wpAny_Name (wpAny_loadName_free I.ok.kind hk hc hcell fin hcd) hd
theorem pe_callOwn {X : Cx} {CX : CXT} {k : Nat} {C f : Addr} {fd : FuncData} {ps : List Str} {sp : Sp} {E : XK} (i j : Nat) {x y : Str} {p p2 pos : Pos} (F : FnOk X.prog X.w X.K X.mg X.base CX k f fd ps sp) (m : Meth X.K C "__call__" f) (hf : PySem.W.fnIn X.K f = true) (hr : Room k X.A) (hb : Binds X.K fd ps []) (hx : Passes CX X E)
    (hN : X.N[i]? = some x := by rfl) (hv : Vis X.env.scope x := by first | exact .inl rfl | exact .inr (.inl rfl) | exact .inr (.inr rfl)) (hN2 : X.N[j]? = some y := by rfl) (hv2 : Vis X.env.scope y := by first | exact .inl rfl | exact .inr (.inl rfl) | exact .inr (.inr rfl))
    (hd : (x == ("__debug__" : Str)) = false := by decide) (hcd : (x == ("__classdict__" : Str)) = false := by decide) (hd2 : (y == ("__debug__" : Str)) = false := by decide) (hcd2 : (y == ("__classdict__" : Str)) = false := by decide)
    (hst : starEach [.Name y p2] X.env = [(false, eval (.Name y p2) X.env)] := by rfl) :
    PE X (.Call (.Name x p) [.Name y p2] [] pos) (fun σ H Q => ∃ (a dx : Addr) (fs : List (Str × V)) (v : V), σ[i]? = some (some (.ref a)) ∧ H a = some (.ins C dx fs) ∧ σ[j]? = some (some v) ∧ sp [.ref a, v] H Q E) := ⟨fun pins s σ H Q I h => by
  obtain ⟨a, dx, fs, v, e1, ha, e2, hsp⟩ := h
  obtain ⟨mA, JJ, _⟩ := ins_get I.hok ha
  obtain ⟨od, J, _⟩ := JJ.look
  refine wpAny_Call_Name_kw (ld_var i hN hv hd hcd I e1 fun u r => ?_)
  cases r
  rw [hst]
  refine PySem.W.kco_callWith_of (K := X.K) (C := C) (ox := PySem.W.instObj C dx) (od := od) rfl rfl ?_
  refine Calls.evalArgs_plain (Calls.spliced_cons ?_)
  refine ld_var j hN2 hv2 hd2 hcd2 I e2 fun u r => ?_
  refine Calls.spliced_nil ⟨⟨Inv.kIn I, J⟩, ?_⟩
  refine wpAny_call (PySem.W.kco_code (Inv.kIn I) J rfl m.at_ m.fn hf ?_)
  have r2 : Vals ([.ref a, v] : List V) [.ref a, u] := .cons rfl (.cons r .nil)
  have hl : [Value.ref a, u].length = ps.length := by rw [← F.len _ H Q E hsp]; rfl
  have hb' := hb s [Value.ref a, u] (Inv.kIn I) (by simpa using hl)
  refine codeAny_mono (F.run X.A X.stack s H { pos := [Value.ref a, u] } _ [.ref a, v] Q E hr (Inv.env0 I) hb' (by simpa using r2) hsp) fun r s' hq => ?_
  rcases r with e | fl
  · exact hx pins σ H s e s' I hq
  · cases fl with
    | ret u => exact Inv.after I hq
    | _ => exact hq.elim⟩
end Ts

set_option maxRecDepth 100000
set_option maxHeartbeats 4000000
namespace Ts
open PySem L2
/-- the places to which deeds tell a value -/
def toldL (rs : List Row) (ds : List De) : List Str := (plc rs).filter fun z => decide (eff rs ds z ≠ "keep")
def spTold (C CR CM : Addr) : Sp := fun vs H Q _ => ∃ (m r t t2 : Addr) (rs : List Row) (ds : List De) (v : Str → Bool), vs = [.ref m, .ref r] ∧ RowAt C CR H r t rs ds ∧ MV C CM H m t2 rs v ∧ ∀ D H', H D = none → Same H H' → H' D = some (.dK (kvX (fun z => .bl (doneV rs v ds z)) (toldL rs ds))) → Q (.ref D) H'
section
variable {P : Program} {w : World} {K : PySem.W.Frag} {mg : Str → Option Value} {base : Heap} {C CR CM : Addr}
abbrev nTold : List Str := ["meaning", "row", "behind", "place", "effect"]
theorem sc_told : FnScope nTold ["meaning", "row"] (defScope s_told_values) := ⟨rfl, rfl, rfl, by decide +kernel, rfl, by decide +kernel, by decide +kernel⟩
theorem ok_told (D : DefAt K mg "told_values" s_told_values ["meaning", "row"]) (TD : TxD K mg w) (R : TxR K mg CR) (M : TxM K mg CM)
    (mC : MethAt K CR "__call__" "Row.__call__" s_Row_call ["self", "meaning"]) (hfC : PySem.W.fnIn K mC.f = true) (GC : FnOk P w K mg base CX0 10 mC.f mC.fd ["self", "meaning"] (spRCall C CR CM))
    (mM : MethAt K CR "maps" "Row.maps" s_Row_maps ["self"]) (GM : FnOk P w K mg base CX0 2 mM.f mM.fd ["self"] (spRMaps C CR))
    (mS : MethAt K CM "states" "Meaning.states" s_Meaning_states ["self"]) (GS : FnOk P w K mg base CX0 2 mS.f mS.fd ["self"] (spMStates C CM)) : FnOk P w K mg base CX0 11 D.f D.fd ["meaning", "row"] (spTold C CR CM) := by
  obtain ⟨t3, gK⟩ := TD.keep
  refine D.F.ok sc_told (fun vs H Q E h => ?_) (fun cdv A outer s H vs Q E hr h => ?_)
  · obtain ⟨m, r, t, t2, rs, ds, v, rfl, _⟩ := h
    rfl
  · obtain ⟨m, r, t, t2, rs, ds, v, rfl, hR, hm, hq⟩ := h
    have hu := hu_of hr
    have hr1 : Room 2 _ := hr.mono (by decide)
    refine ⟨_, pss_cons (ps_set (i := 2) sc_told.nd rfl (.inr rfl) (pe_meth0 (pe_callOwn 1 0 GC mC.m hfC hr mC.b pass0) M.cl mS.m GS hr1 mS.b .nil pass0))
      (pss_one (ps_ret (pe_dc (own := [("place", 3), ("effect", 4)]) (g := gTup K 2 (gCons (gName 3) (gCons (gName 4) gNil))) (tt := tTest (tOp rNe (tVar 4) (tC (.str ("keep" : Str))))) (tk := tVar 3) (tv := tDGet (tVar 2) (tVar 3)) rfl sc_told.nd (pi_items (pe_lockF (pe_meth0 (pv 1) R.cl mM.m GM hr1 mM.b .nil pass0))) (blkOk_by (N := nTold) (sc := defScope s_told_values) (by decide +kernel))
        (fun _ _ _ _ _ => by exact pg_tup rfl (pgs_cons (pg_name (i := 3) sc_told.nd rfl (Or.inl rfl)) (pgs_cons (pg_name (i := 4) sc_told.nd rfl (Or.inl rfl)) pgs_nil))) (fun _ _ _ _ _ => by exact pts_one (pt_cmpR op_ne (pv 4) (pe_glob (by rfl) gK (v := .str ("keep" : Str)) ⟨_, rfl⟩) (nomark _))) (fun _ _ _ _ _ => pv 3) (fun _ _ _ _ _ => by exact pe_dget hu (pv 2) (pv 3) (fun _ _ => rfl))))), ?_⟩
    have hv := hm.valid
    have hl := hm.turns.tree.len
    have lpl : (plc rs).length ≤ 101 := by rw [plc_len']; omega
    obtain ⟨dx, q, e, as, h1, h2, h3, h4⟩ := id hR.ex
    have noM : ∀ {t q e : Addr}, (rf t q e).lookup ("maps" : Str) = none := fun {t q e} => rf_no _ _ _ (by decide +kernel) (by decide +kernel) (by decide +kernel)
    have noS : ∀ {t q e : Addr} {b : Bool}, (mf t q e b).lookup ("states" : Str) = none := fun {t q e b} => mf_no _ _ _ _ (by decide +kernel) (by decide +kernel) (by decide +kernel) (by decide +kernel)
    refine ⟨r, dx, _, .ref m, rfl, h1, rfl, r, m, t, t2, rs, ds, v, rfl, hR, hm, fun m3 H1 s1 hm3 => ?_⟩
    obtain ⟨dxm3, um3, km3, n1, _⟩ := id hm3.turns.ex
    refine ⟨m3, dxm3, _, rfl, n1, noS, m3, t, rs, _, _, rfl, hm3.turns, fun bd hbd => ?_⟩
    rw [kvM_kvG hv (val_turnsG hv (doneV rs v ds))]
    have s2 : Same H1 (upd H1 bd (.dK (kvG rs (doneV rs v ds)))) := Same.new hbd
    have e2 : (upd H1 bd (.dK (kvG rs (doneV rs v ds)))) bd = some (.dK (kvG rs (doneV rs v ds))) := upd_same
    generalize upd H1 bd (.dK (kvG rs (doneV rs v ds))) = H2 at s2 e2
    have s12 := s1.trans s2
    refine ⟨_, rfl, r, dx, _, rfl, s12 _ _ h1, noM, r, t, rs, ds, rfl, hR.same s12, fun d hd => ?_⟩
    refine ⟨d, _, rfl, upd_same, trivial, fun od => ?_⟩
    have s3 : Same H2 (upd (upd H2 d (.dK (kvS (eff rs ds) (plc rs)))) d (.frz od (.dK (kvS (eff rs ds) (plc rs))))) := fun b o eb => by
      rw [upd_ne (ne_of_none eb hd), upd_ne (ne_of_none eb hd)]; exact eb
    have lk : (upd (upd H2 d (.dK (kvS (eff rs ds) (plc rs)))) d (.frz od (.dK (kvS (eff rs ds) (plc rs))))) d = some (.frz od (.dK (kvS (eff rs ds) (plc rs)))) := upd_same
    generalize upd (upd H2 d (.dK (kvS (eff rs ds) (plc rs)))) d (.frz od (.dK (kvS (eff rs ds) (plc rs)))) = Hl at s3 lk
    have s13 := s12.trans s3
    refine ⟨d, od, _, rfl, lk, fun D hD => ?_⟩
    refine dc_walk (walk_items (d := d) (o := od) (kvs := kvS (eff rs ds) (plc rs))) (fun i H' => Same Hl H' ∧ H' D = some (.dK (kvX (fun z => V.bl (doneV rs v ds z)) (((plc rs).take i).filter fun z => decide (eff rs ds z ≠ "keep"))))) ⟨Same.new hD, upd_same⟩ (fun i H' _ m => m.1 _ _ lk) ?_ ?_
    · rintro i x H5x H5 hi ⟨s5, hD5⟩ ⟨T, kx, vx, rfl, hT, rfl, hkx, hvx⟩
      rw [Option.map_eq_some_iff] at hkx hvx
      obtain ⟨⟨k', v'⟩, hk, rfl⟩ := hkx
      obtain ⟨⟨k'', v''⟩, hk2, rfl⟩ := hvx
      rw [hk] at hk2
      cases Option.some.inj hk2
      obtain ⟨z, rfl, hz⟩ := kvX_at hk
      have hzm := List.mem_of_getElem? hz
      have ev : v' = V.str (eff rs ds z) := by
        unfold kvS kvX at hk
        rw [List.getElem?_map, hz] at hk
        exact (Prod.mk.inj (Option.some.inj hk)).2.symm
      subst ev
      have sT : Same H5x (upd H5x T (.tup [V.str z, V.str (eff rs ds z)])) := Same.new hT
      have eT : (upd H5x T (.tup [V.str z, V.str (eff rs ds z)])) T = some (.tup [V.str z, V.str (eff rs ds z)]) := upd_same
      have s6 := s5.trans sT
      have hD6 := sT _ _ hD5
      show gTup K 2 _ _ _ (upd H5x T (.tup [V.str z, V.str (eff rs ds z)])) _
      generalize upd H5x T (.tup [V.str z, V.str (eff rs ds z)]) = H6 at sT eT s6 hD6
      have dg : DGet H6 bd (.str z) (some (.bl (doneV rs v ds z))) := .inl ⟨_, .inr z, .inl (s6 _ _ (s3 _ _ e2)), rfl, (valV_kvX (fun z => V.bl (doneV rs v ds z)) hzm).symm⟩
      refine ⟨T, _, rfl, sqT eT, rfl, _, _, rfl, _, _, rfl, rfl, rfl, ?_⟩
      refine ⟨_, rfl, rfl, _, rfl, ?_⟩
      have e0 : (!decide (V.str (eff rs ds z) = V.str ("keep" : Str))) = decide (eff rs ds z ≠ "keep") := by
        by_cases q : eff rs ds z = "keep"
        · rw [q]; simp
        · have : V.str (eff rs ds z) ≠ V.str ("keep" : Str) := fun e => q (V.str.inj e)
          simp [q, this]
      rw [e0]
      refine ite2 (fun hc => ?_) (fun hc => ?_)
      · refine ⟨_, rfl, _, rfl, _, rfl, bd, _, rfl, dg, _, .inr z, rfl, hD6, small1000 (by
          rw [kvX_len]
          have := List.length_filter_le (fun z => decide (eff rs ds z ≠ "keep")) ((plc rs).take i)
          rw [List.length_take] at this
          omega), fun b o eb => ?_, ?_⟩
        · rw [upd_ne (fun y => by rw [y, hD] at eb; cases eb)]
          exact s6 _ _ eb
        · rw [upd_same]
          refine congrArg (fun l => some (HO.dK l)) ?_
          have hn : z ∉ ((plc rs).take i).filter fun z => decide (eff rs ds z ≠ "keep") := fun hm => by
            have hm := (List.mem_filter.mp hm).1
            obtain ⟨j, hj, e⟩ := List.mem_take_iff_getElem.mp hm
            obtain ⟨hi, e2⟩ := List.getElem?_eq_some_iff.mp hz
            have := (List.getElem_inj (plc_nd hv)).mp (e.trans e2.symm)
            omega
          rw [take_more hz, List.filter_append, List.filter_cons_of_pos (p := fun z => decide (eff rs ds z ≠ "keep")) hc, List.filter_nil]
          exact kvX_snoc (f := fun z => V.bl (doneV rs v ds z)) hn
      · refine ⟨s6, ?_⟩
        rw [take_more hz, List.filter_append, List.filter_cons_of_neg (p := fun z => decide (eff rs ds z ≠ "keep")) hc, List.filter_nil, List.append_nil]
        exact hD6
    rintro H5 ⟨s5, hD5⟩
    unfold kvS at hD5
    rw [kvX_len, List.take_length] at hD5
    exact hq D H5 (s13.free hD) (s13.trans s5) hD5
end
end Ts

set_option maxRecDepth 100000
set_option maxHeartbeats 4000000
namespace Ts
open PySem L2
/-! ### an own error with one field that its own __init__ stores -/
section
variable {P : Program} {w : World} {K : PySem.W.Frag} {mg : Str → Option Value} {base : Heap} {CC : Addr}
theorem sc_Clash_init : FnScope ["self", "box"] ["self", "box"] (defScope s_Clash_init) := ⟨rfl, rfl, rfl, by decide +kernel, rfl, by decide +kernel, by decide +kernel⟩
theorem ok_Clash_init {f : Addr} {fd : FuncData} (F : Fun K "__init__" "Clash.__init__" s_Clash_init f fd) (O : OexC K CC) (nb : PySem.W.findIn K (.ref CC) "box" = some none) : FnOk P w K mg base CX0 2 f fd ["self", "box"] (spErr1 CC "box") := by
  refine F.ok sc_Clash_init (fun vs H Q E h => ?_) (fun cdv A outer s H vs Q E hr h => ?_)
  · obtain ⟨a, x, rfl, _⟩ := h
    rfl
  · obtain ⟨a, x, rfl, ha, hq⟩ := h
    refine ⟨_, pss_one (ps_ost (pv 0) (pv 1)), ?_⟩
    exact ⟨_, rfl, _, rfl, a, CC, rfl, O, nb, .inl ⟨ha, fun d hd ne => hq d hd ne⟩⟩
end
end Ts

set_option maxRecDepth 100000
set_option maxHeartbeats 4000000
namespace Ts
open PySem L2
/-- the first place to which both rows tell unlike values -/
def wrongL (rs : List Row) (v : Str → Bool) (ds es : List De) : Option Str := (toldL rs ds).find? fun z => decide (z ∈ toldL rs es) && decide (doneV rs v ds z ≠ doneV rs v es z)
/-- what is so behind a join -/
def joinV (rs : List Row) (v : Str → Bool) (ds es : List De) : Str → Bool := fun z => if z ∈ toldL rs es then doneV rs v es z else if z ∈ toldL rs ds then doneV rs v ds z else v z
def spCheckTreesMR (C CR CM : Addr) : Sp := fun vs H Q _ => ∃ (r m t t2 : Addr) (rs : List Row) (ds : List De) (v : Str → Bool), vs = [.ref m, .ref r] ∧ RowAt C CR H r t rs ds ∧ MV C CM H m t2 rs v ∧ Q .non H
section
variable {P : Program} {w : World} {K : PySem.W.Frag} {mg : Str → Option Value} {base : Heap} {C CR CM CC : Addr}
theorem ok_check_treesMR (D : DefAt K mg "check_trees" s_check_trees ["one", "other"]) (R : TxR K mg CR) (M : TxM K mg CM) (N : TxN K C)
    (mE : MethAt K C "__eq__" "Tree.__eq__" s_Tree_eq ["self", "other"]) (GE : FnOk P w K mg base CX0 2 mE.f mE.fd ["self", "other"] (spEqT K C)) : FnOk P w K mg base CX0 4 D.f D.fd ["one", "other"] (spCheckTreesMR C CR CM) := by
  refine D.F.ok sc_check_treesE (fun vs H Q E h => ?_) (fun cdv A outer s H vs Q E hr h => ?_)
  · obtain ⟨m, m2, t, t2, rs, ds, v, rfl, _⟩ := h
    rfl
  · obtain ⟨m, m2, t, t2, rs, ds, v, rfl, hm, hm2, hq⟩ := h
    obtain ⟨dx, u, k, as, h1, h2, h3, h4⟩ := hm.ex
    obtain ⟨dx2, u2, k2, g1, g2, g3⟩ := hm2.turns.ex
    have ht2 := hm2.turns.tree
    obtain ⟨tdx, _, _, _, _, _, t1, _⟩ := id hm.tree.ex
    obtain ⟨tdx2, _, _, _, _, _, t3, _⟩ := id ht2.ex
    refine ⟨_, pss_one (ps_if (pt_cmpR (op_neC GE mE.m N.ne N.ob hr mE.b pass0) (pe_fld (pv 0) rfl) (pe_fld (pv 1) rfl) (nomark _)) (pss_one ps_never) pss_nil), ?_⟩
    refine ⟨_, rfl, m2, CM, dx2, _, _, rfl, g1, M.cl, M.nt, mf_t _ _ _ _, _, rfl, m, CR, dx, _, _, rfl, h1, R.cl, R.nt, rf_t _ _ _, t2, tdx2, _, .ref C, rfl, t3, .ins t1, nfC, t2, _, rs, rfl, ht2, .inl ⟨t, rs, rfl, hm.tree, _, rfl, _, rfl, ?_⟩⟩
    exact iteF' (by simp) hq
end
end Ts

set_option maxRecDepth 100000
set_option maxHeartbeats 1000000
namespace Ts
open PySem L2
/-- d.update(e), two dicts -/
def rDUpd : V → List V → Hp → VK → Prop := fun x vs H Q => ∃ (a b : Addr) (kvs more : List (Key × V)), x = .ref a ∧ vs = [.ref b] ∧ a ≠ b ∧ H a = some (.dK kvs) ∧ H b = some (.dK more) ∧ kvs.length + more.length ≤ 1000 ∧ Q .non (upd H a (.dK (mergeK kvs more)))
theorem mt_update {X : Cx} : MtR X "dict.update" rDUpd := by
  intro pins s σ H x vs v us Q I rx rv h
  obtain ⟨a, b, kvs, more, rfl, rfl, ne, ha, hb, hl, q⟩ := h
  cases rx
  obtain ⟨u, rfl, ru⟩ := vals1 rv
  cases ru
  obtain ⟨_, hda, vs1, r1, d1⟩ := dk_of I.hok ha
  obtain ⟨_, hdb, vs2, r2, d2⟩ := dk_of I.hok hb
  have l1 : vs1.length = kvs.length := (Paired.length r1).symm
  have l2 : vs2.length = more.length := (Paired.length r2).symm
  have big : (1000 : Nat) ≤ sizeLine := by rw [sizeLine_eq]; decide
  refine call_meetsIn F.slot_dict_update (Heap.DictOf.typeIs d1) F.entry_dict_update (F.args_dict_update_2 _ _) (meets_dict_update (mixKind X.prog X.w) a b ne hdb) ⟨vs1, vs2, d1, d2, by omega, fun h' d1' d2' hs => ?_⟩
  have hz : (mergeK kvs more).length ≤ sizeLine := by
    have := length_mergeK more kvs
    omega
  have he : ∃ q, h'.get? a = some q := by
    obtain ⟨o, _, _, e, _⟩ := d1'
    exact ⟨o, e⟩
  exact ⟨V.non, _, d_write I (by rw [ha]; trivial) hs he (dk_new hz hda (KV.merge r2 r1) d1'), rfl, q⟩
end Ts

set_option maxRecDepth 100000
set_option maxHeartbeats 4000000
namespace Ts
open PySem L2
theorem valV_kvX_none {f : Str → V} {z : Str} {l : List Str} (hn : z ∉ l) : valV (kvX f l) (.inr z : Key) = none := by
  induction l with
  | nil => rfl
  | cons x m ih =>
    show valV (((.inr x : Key), f x) :: kvX f m) _ = _
    rw [valV_neg (fun q => hn (by rw [Sum.inr.inj q]; exact List.mem_cons_self ..))]
    exact ih fun q => hn (List.mem_cons_of_mem _ q)
theorem merge_over (g f : Str → V) {l m : List Str} (h : ∀ z ∈ m, z ∈ l) : mergeK (kvX g l) (kvX f m) = kvX (fun z => if z ∈ m then f z else g z) l := by
  have key : ∀ (m : List Str) (g : Str → V), (∀ z ∈ m, z ∈ l) → mergeK (kvX g l) (kvX f m) = kvX (fun z => if z ∈ m then f z else g z) l := by
    intro m
    induction m with
    | nil =>
      intro g _
      exact kvX_congr fun z _ => (if_neg List.not_mem_nil).symm
    | cons x m ih =>
      intro g h
      show mergeK (putK (kvX g l) (.inr x) (f x)) (kvX f m) = _
      rw [kvX_put (h x (List.mem_cons_self ..)), ih _ fun z hz => h z (List.mem_cons_of_mem _ hz)]
      refine kvX_congr fun z _ => ?_
      by_cases q : z ∈ m
      · rw [if_pos q, if_pos (List.mem_cons_of_mem _ q)]
      · rw [if_neg q]
        by_cases e : z = x
        · rw [if_pos e, if_pos (by rw [e]; exact List.mem_cons_self ..), e]
        · rw [if_neg e, if_neg (fun hm => (List.mem_cons.mp hm).elim e q)]
  exact key m g h
section
variable {P : Program} {w : World} {K : PySem.W.Frag} {mg : Str → Option Value} {base : Heap} {C CR CM CC : Addr}
abbrev nJoin : List Str := ["meaning", "one", "other", "first", "second", "place", "values"]
theorem sc_join : FnScope nJoin ["meaning", "one", "other"] (defScope s_join) := ⟨rfl, rfl, rfl, by decide +kernel, rfl, by decide +kernel, by decide +kernel⟩
def spJoin (C CR CM CC : Addr) : Sp := fun vs H Q E => ∃ (m r1 r2 t t1 t2 : Addr) (rs : List Row) (ds es : List De) (v : Str → Bool), vs = [.ref m, .ref r1, .ref r2] ∧ MV C CM H m t rs v ∧ RowAt C CR H r1 t1 rs ds ∧ RowAt C CR H r2 t2 rs es ∧
  (∀ z, wrongL rs v ds es = some z → ∀ d H', H d = none → Same H H' → H' d = some (.xd [("box", .str z)]) → E (.ref CC) (some d) H') ∧
  (wrongL rs v ds es = none → ∀ m3 H', Same H H' → MV C CM H' m3 t rs (joinV rs v ds es) → Q (.ref m3) H')
theorem ok_join {fI : Addr} {fdI : FuncData} (D : DefAt K mg "join" s_join ["meaning", "one", "other"]) (R : TxR K mg CR) (M : TxM K mg CM)
    (Dc : DefAt K mg "check_trees" s_check_trees ["one", "other"]) (Gc : FnOk P w K mg base CX0 4 Dc.f Dc.fd ["one", "other"] (spCheckTreesMR C CR CM))
    (Dt : DefAt K mg "told_values" s_told_values ["meaning", "row"]) (Gt : FnOk P w K mg base CX0 11 Dt.f Dt.fd ["meaning", "row"] (spTold C CR CM))
    (mS : MethAt K CM "states" "Meaning.states" s_Meaning_states ["self"]) (GS : FnOk P w K mg base CX0 2 mS.f mS.fd ["self"] (spMStates C CM))
    (Dw : DefAt K mg "with_values" s_with_values ["tree", "values"]) (Gw : FnOk P w K mg base CX0 9 Dw.f Dw.fd ["tree", "values"] (spWith C CM))
    (O : OexC K CC) (iC : PySem.W.findIn K (.ref CC) "__init__" = some (some (.ref fI))) (tI : PySem.W.typeIn K (.ref fI) = some (.type "function")) (gC : mg "Clash" = some (.ref CC)) (GI : FnOk P w K mg base CX0 2 fI fdI ["self", "box"] (spErr1 CC "box")) (bI : Binds K fdI ["self", "box"] []) :
    FnOk P w K mg base (L2.CX P w) 12 D.f D.fd ["meaning", "one", "other"] (spJoin C CR CM CC) := by
  refine D.F.okX sc_join (fun vs H Q E h => ?_) (fun cdv A outer s H vs Q E hr h => ?_)
  · obtain ⟨m, r1, r2, t, t1, t2, rs, ds, es, v, rfl, _⟩ := h
    rfl
  · have hu := hu_of hr
    have hr1 : Room 2 _ := hr.mono (by decide)
    have hr2 : Room 3 _ := hr.mono (by decide)
    have hr3 : Room 4 _ := hr.mono (by decide)
    have hr8 : Room 9 _ := hr.mono (by decide)
    refine ⟨_, pss_cons (ps_expr (pe_call Gc hr3 rfl Dc.g Dc.F.kp Dc.b .nil pass0 (pa_cons (pv 0) (pa_cons (pv 1) pa_nil))))
      (pss_cons (ps_expr (pe_call Gc hr3 rfl Dc.g Dc.F.kp Dc.b .nil pass0 (pa_cons (pv 0) (pa_cons (pv 2) pa_nil))))
      (pss_cons (ps_par (i := 3) (j := 4) rfl sc_join.nd rfl rfl (by decide) rfl rfl (pa_cons (pe_call Gt hr rfl Dt.g Dt.F.kp Dt.b .nil pass0 (pa_cons (pv 0) (pa_cons (pv 1) pa_nil))) (pa_cons (pe_call Gt hr rfl Dt.g Dt.F.kp Dt.b .nil pass0 (pa_cons (pv 0) (pa_cons (pv 2) pa_nil))) pa_nil)) (by rfl))
      (pss_cons (ps_lock (ps_for PassesOwn.leaving rfl (pi_keys (pv 3)) (pg_name (i := 5) sc_join.nd rfl (.inl rfl))
        (pss_one (ps_if (PW.pt (pw_and (pt_cmp (pc_din hu (pv 5) (pv 4))) (pw_and1 (pt_cmpR op_ne (pe_dget hu (pv 3) (pv 5) (fun _ _ => rfl)) (pe_dget hu (pv 4) (pv 5) (fun _ _ => rfl)) (nomark _))))) (pss_one (ps_raise rfl (takes_of rfl rfl rfl rfl) (pmk_oex O iC tI GI hr2 bI .nil pass0 rfl gC (by exact pa_cons (pv 5) pa_nil)))) pss_nil))))
      (pss_cons (ps_set (i := 6) sc_join.nd rfl (.inl rfl) (pe_meth0 (pv 0) M.cl mS.m GS hr1 mS.b .nil pass0))
      (pss_cons (ps_expr (pe_bm PySem.F.plainAttrs_dict PySem.F.slot_dict_update PySem.F.type_dict_update mt_update (pv 6) (pa_cons (pv 3) pa_nil)))
      (pss_cons (ps_expr (pe_bm PySem.F.plainAttrs_dict PySem.F.slot_dict_update PySem.F.type_dict_update mt_update (pv 6) (pa_cons (pv 4) pa_nil)))
      (pss_one (ps_ret (pe_call Gw hr8 rfl Dw.g Dw.F.kp Dw.b .nil pass0 (pa_cons (pe_fld (pv 0) rfl) (pa_cons (pv 6) pa_nil))))))))))), ?_⟩
    obtain ⟨m, r1, r2, t, t1, t2, rs, ds, es, v, rfl, hm, hR1, hR2, hE, hQ⟩ := h
    have hv := hm.valid
    have l100 := hm.turns.tree.len
    have lpl : (plc rs).length ≤ 101 := by rw [plc_len']; omega
    refine ⟨_, rfl, _, rfl, r1, m, t1, t, rs, ds, v, rfl, hR1, hm, ?_⟩
    refine ⟨_, rfl, _, rfl, r2, m, t2, t, rs, es, v, rfl, hR2, hm, ?_⟩
    refine ⟨_, rfl, _, rfl, m, r1, t1, t, rs, ds, v, rfl, hR1, hm, fun D1 H1 hD1 s1 e1 => ?_⟩
    refine ⟨_, rfl, _, rfl, m, r2, t2, t, rs, es, v, rfl, hR2.same s1, hm.same s1, fun D2 H2 hD2 s2 e2 => ⟨_, _, rfl, ?_⟩⟩
    have n12 : D2 ≠ D1 := fun e => by rw [e, e1] at hD2; cases hD2
    have e1' := s2 _ _ e1
    have s12 := s1.trans s2
    refine ⟨D1, _, e1', trivial, fun od => ?_⟩
    obtain ⟨Hl, El⟩ : ∃ Hx, Hx = upd H2 D1 (.frz od (.dK (kvX (fun z => V.bl (doneV rs v ds z)) (toldL rs ds)))) := ⟨_, rfl⟩
    have lk : Hl D1 = some (.frz od (.dK (kvX (fun z => V.bl (doneV rs v ds z)) (toldL rs ds)))) := by rw [El]; exact upd_same
    have e2l : Hl D2 = some (.dK (kvX (fun z => V.bl (doneV rs v es z)) (toldL rs es))) := by rw [El, upd_ne n12]; exact e2
    have sl : Same H Hl := fun b o eb => by
      rw [El, upd_ne (ne_of_none eb hD1)]; exact s12 _ _ eb
    rw [← El]
    refine ⟨_, rfl, D1, od, rfl, .inl ⟨_, lk, ?_⟩⟩
    refine for_it (walk_keys (d := D1) (o := od) (kvs := kvX (fun z => V.bl (doneV rs v ds z)) (toldL rs ds))) (fun i σ H' => ∃ v5 : Option V, σ = [some (.ref m), some (.ref r1), some (.ref r2), some (.ref D1), some (.ref D2), v5, none] ∧ H' = Hl ∧ ∀ z ∈ (toldL rs ds).take i, (decide (z ∈ toldL rs es) && decide (doneV rs v ds z ≠ doneV rs v es z)) = false) ⟨none, rfl, rfl, fun z hz => by simp at hz⟩ (fun i σ H' _ ⟨_, _, e, _⟩ => by rw [e]; exact lk) ?_ ?_
    · rintro i x σ H5x H5 hi ⟨v5, rfl, rfl, hall⟩ ⟨rfl, k', v', hk, rfl⟩
      obtain ⟨z, rfl, hz⟩ := kvX_at hk
      have hzm := List.mem_of_getElem? hz
      have bl : ∀ a b : Bool, (!decide (V.bl a = V.bl b)) = decide (a ≠ b) := by intro a b; cases a <;> cases b <;> rfl
      have dg1 : DGet H5 D1 (.str z) (some (.bl (doneV rs v ds z))) := .inl ⟨_, .inr z, .inr ⟨od, lk⟩, rfl, (valV_kvX (fun z => V.bl (doneV rs v ds z)) hzm).symm⟩
      have more : (decide (z ∈ toldL rs es) && decide (doneV rs v ds z ≠ doneV rs v es z)) = false → ∀ y ∈ (toldL rs ds).take (i + 1), (decide (y ∈ toldL rs es) && decide (doneV rs v ds y ≠ doneV rs v es y)) = false := fun hz0 y hy => by
        rw [take_more hz] at hy
        rcases List.mem_append.mp hy with hy | hy
        · exact hall y hy
        · rw [List.mem_singleton.mp hy]; exact hz0
      refine ⟨_, rfl, _, rfl, D2, _, rfl, DGet.k (k := Sum.inr z) e2l, _, rfl, ?_⟩
      by_cases hin : z ∈ toldL rs es
      · rw [valV_kvX (fun z => V.bl (doneV rs v es z)) hin]
        have dg2 : DGet H5 D2 (.str z) (some (.bl (doneV rs v es z))) := .inl ⟨_, .inr z, .inl e2l, rfl, (valV_kvX (fun z => V.bl (doneV rs v es z)) hin).symm⟩
        refine iteT ⟨_, rfl, _, rfl, D1, _, rfl, dg1, _, rfl, _, rfl, D2, _, rfl, dg2, rfl, _, rfl, ?_⟩
        rw [bl]
        refine ite2 (fun hc => ?_) (fun hc => ?_)
        · have ef : wrongL rs v ds es = some z := find_at hall hz (by rw [decide_eq_true hin, hc]; rfl)
          exact ⟨_, rfl, rd_err1 fun d hd => hE z ef d _ (sl.free hd) (sl.trans (Same.new hd)) upd_same⟩
        · refine ⟨_, rfl, rfl, more ?_⟩
          have : decide (doneV rs v ds z ≠ doneV rs v es z) = false := by simpa using hc
          rw [this, Bool.and_false]
      · rw [valV_kvX_none hin]
        refine iteF (iteF ⟨_, rfl, rfl, more ?_⟩)
        rw [decide_eq_false hin, Bool.false_and]
    · rintro σ H5 ⟨v5, rfl, rfl, hall⟩
      refine ⟨lk, ?_⟩
      rw [kvX_len, List.take_length] at hall
      have ef : wrongL rs v ds es = none := List.find?_eq_none.mpr fun z hz => by rw [hall z hz]; exact Bool.false_ne_true
      have bk : Same H (upd H5 D1 (.dK (kvX (fun z => V.bl (doneV rs v ds z)) (toldL rs ds)))) := fun b o eb => by
        rw [upd_ne (ne_of_none eb hD1)]; exact sl _ _ eb
      have f1 : (upd H5 D1 (.dK (kvX (fun z => V.bl (doneV rs v ds z)) (toldL rs ds)))) D1 = some (.dK (kvX (fun z => V.bl (doneV rs v ds z)) (toldL rs ds))) := upd_same
      have f2 : (upd H5 D1 (.dK (kvX (fun z => V.bl (doneV rs v ds z)) (toldL rs ds)))) D2 = some (.dK (kvX (fun z => V.bl (doneV rs v es z)) (toldL rs es))) := by rw [upd_ne n12]; exact e2l
      generalize upd H5 D1 (.dK (kvX (fun z => V.bl (doneV rs v ds z)) (toldL rs ds))) = H6 at bk f1 f2
      have hm6 := hm.same bk
      have noS : ∀ {t q e : Addr} {b : Bool}, (mf t q e b).lookup ("states" : Str) = none := fun {t q e b} => mf_no _ _ _ _ (by decide +kernel) (by decide +kernel) (by decide +kernel) (by decide +kernel)
      obtain ⟨dxm, um, km, m1, _⟩ := id hm6.turns.ex
      refine ⟨_, rfl, m, dxm, _, rfl, m1, noS, m, t, rs, _, _, rfl, hm6.turns, fun vd hvd => ?_⟩
      rw [kvM_kvG hv (val_turnsG hv v)]
      have s7 : Same H6 (upd H6 vd (.dK (kvG rs v))) := Same.new hvd
      have e7 : (upd H6 vd (.dK (kvG rs v))) vd = some (.dK (kvX (fun z => V.bl (v z)) (plc rs))) := upd_same
      generalize upd H6 vd (.dK (kvG rs v)) = H7 at s7 e7
      have nv1 : vd ≠ D1 := (ne_of_none f1 hvd).symm
      have nv2 : vd ≠ D2 := (ne_of_none f2 hvd).symm
      have lt1 : (toldL rs ds).length ≤ 101 := Nat.le_trans (List.length_filter_le _ _) lpl
      have lt2 : (toldL rs es).length ≤ 101 := Nat.le_trans (List.length_filter_le _ _) lpl
      have sub1 : ∀ z ∈ toldL rs ds, z ∈ plc rs := fun z hz => (List.mem_filter.mp hz).1
      have sub2 : ∀ z ∈ toldL rs es, z ∈ plc rs := fun z hz => (List.mem_filter.mp hz).1
      refine ⟨_, rfl, .inr (.inr (.inl ⟨rfl, .inl ⟨_, e7⟩⟩)), _, rfl, vd, D1, _, _, rfl, rfl, nv1, e7, s7 _ _ f1, by rw [kvX_len, kvX_len]; omega, ?_⟩
      rw [merge_over _ _ sub1]
      have e8 : (upd H7 vd (.dK (kvX (fun z => if z ∈ toldL rs ds then V.bl (doneV rs v ds z) else V.bl (v z)) (plc rs)))) vd = some (.dK (kvX (fun z => if z ∈ toldL rs ds then V.bl (doneV rs v ds z) else V.bl (v z)) (plc rs))) := upd_same
      have s8 : ∀ b o, b ≠ vd → H6 b = some o → (upd H7 vd (.dK (kvX (fun z => if z ∈ toldL rs ds then V.bl (doneV rs v ds z) else V.bl (v z)) (plc rs)))) b = some o := fun b o nb eb => by rw [upd_ne nb]; exact s7 _ _ eb
      generalize upd H7 vd (.dK (kvX (fun z => if z ∈ toldL rs ds then V.bl (doneV rs v ds z) else V.bl (v z)) (plc rs))) = H8 at e8 s8
      refine ⟨_, rfl, .inr (.inr (.inl ⟨rfl, .inl ⟨_, e8⟩⟩)), _, rfl, vd, D2, _, _, rfl, rfl, nv2, e8, s8 _ _ nv2.symm f2, by rw [kvX_len, kvX_len]; omega, ?_⟩
      rw [merge_over _ _ sub2]
      have ej : (kvX (fun z => if z ∈ toldL rs es then V.bl (doneV rs v es z) else if z ∈ toldL rs ds then V.bl (doneV rs v ds z) else V.bl (v z)) (plc rs)) = kvG rs (joinV rs v ds es) := by
        show kvX _ _ = kvX (fun z => V.bl (joinV rs v ds es z)) (plc rs)
        refine kvX_congr fun z _ => ?_
        unfold joinV
        by_cases q2 : z ∈ toldL rs es
        · rw [if_pos q2, if_pos q2]
        · rw [if_neg q2, if_neg q2]
          by_cases q1 : z ∈ toldL rs ds
          · rw [if_pos q1, if_pos q1]
          · rw [if_neg q1, if_neg q1]
      rw [ej]
      have s9 : Same H (upd H8 vd (.dK (kvG rs (joinV rs v ds es)))) := fun b o eb => by
        have nb : b ≠ vd := ne_of_none (bk _ _ eb) hvd
        rw [upd_ne nb]; exact s8 _ _ nb (bk _ _ eb)
      have e9 : (upd H8 vd (.dK (kvG rs (joinV rs v ds es)))) vd = some (.dK (kvG rs (joinV rs v ds es))) := upd_same
      generalize upd H8 vd (.dK (kvG rs (joinV rs v ds es))) = H9 at s9 e9
      obtain ⟨dx9, um9, km9, m9, _⟩ := id (hm.same s9).turns.ex
      refine ⟨_, rfl, m, CM, dx9, _, _, rfl, m9, M.cl, M.nt, mf_t _ _ _ _, _, rfl, t, vd, rs, joinV rs v ds es, rfl, hm.turns.tree.same s9, e9, fun r' hr' q => absurd q (hR1.un r' hr'), fun m3 H10 s10 hm3 => hQ ef m3 H10 (s9.trans s10) hm3⟩
end
end Ts

set_option maxRecDepth 100000
set_option maxHeartbeats 4000000
namespace Ts
open PySem L2
/-! ### the least row -/
def firm (w : Str) : Bool := decide (w ∈ (["on", "off"] : List Str))
def leastW (w : Str) : Str := if firm w = true then w else "flip"
def leastD (rs : List Row) (f : Str → Str) : List De := (entL rs f).map fun z => (leastW (f z), z)
def foldE (rs : List Row) (ds : List De) (e : Str → Str) : Str → Str := ds.foldl (fun e d => stepE rs d e) e
theorem eff_fold (rs : List Row) (ds : List De) : eff rs ds = foldE rs ds fun _ => "keep" := rfl
theorem foldE_app (rs : List Row) (A B : List De) (e : Str → Str) : foldE rs (A ++ B) e = foldE rs B (foldE rs A e) := List.foldl_append ..
theorem fold_skip {rs : List Row} {b : Str} : ∀ {B : List De} (e : Str → Str), (∀ d ∈ B, within rs d.2 b = false) → foldE rs B e b = e b
  | [], e, _ => rfl
  | d :: B, e, h => by
    show foldE rs B (stepE rs d e) b = e b
    rw [fold_skip _ fun x hx => h x (List.mem_cons_of_mem _ hx)]
    unfold stepE
    rw [if_neg (by rw [h d (List.mem_cons_self ..)]; exact Bool.false_ne_true)]
theorem fold_same {rs : List Row} {b c : Str} : ∀ {B : List De} (e : Str → Str), (∀ d ∈ B, within rs d.2 b = within rs d.2 c) → e b = e c → foldE rs B e b = foldE rs B e c
  | [], e, _, h => h
  | d :: B, e, h, h0 => by
    show foldE rs B (stepE rs d e) b = foldE rs B (stepE rs d e) c
    refine fold_same _ (fun x hx => h x (List.mem_cons_of_mem _ hx)) ?_
    unfold stepE
    rw [h d (List.mem_cons_self ..), h0]
theorem flp_firm : ∀ w ∈ words4, firm (flp w) = firm w := by decide +kernel
theorem word_firm : ∀ w ∈ words3, ¬ w = ("flip" : Str) → firm w = true := by decide +kernel
theorem loose_flp : ∀ w ∈ words4, ∀ x ∈ words4, firm w = false → firm x = false → w ≠ x → flp x = w := by decide +kernel
theorem firm_words : ∀ w ∈ words4, firm w = true → w ≠ ("flip" : Str) := by decide +kernel
theorem leastW_mem : ∀ w ∈ words4, leastW w ∈ words3 := by decide +kernel
theorem within_up {rs : List Row} (hv : Valid rs) {r : Row} (hr : r ∈ rs) {p : Str} (ne : r.nm ≠ p) : within rs p r.nm = within rs p r.fo := by
  have hn : r.nm ∈ plc rs := nm_plc hr
  have hf : r.fo ∈ plc rs := fo_plc hv hr
  have nt : r.nm ≠ ("top" : Str) := fun e => top_not hv (by rw [← e]; exact List.mem_map.mpr ⟨r, hr, rfl⟩)
  rw [Bool.eq_iff_iff, within_law hv hn, within_law hv hf, way_step hv hr]
  constructor
  · rintro (h | h | ⟨_, h⟩)
    · exact absurd h ne
    · exact .inr (.inl h)
    · rcases List.mem_append.mp h with h | h
      · by_cases q : r.fo = ("top" : Str)
        · rw [q, way_top hv] at h; cases h
        · exact .inr (.inr ⟨q, h⟩)
      · exact absurd (List.mem_singleton.mp h).symm ne
  · rintro (h | h | ⟨_, h⟩)
    · by_cases q : p = ("top" : Str)
      · exact .inr (.inl q)
      · refine .inr (.inr ⟨nt, List.mem_append_left _ ?_⟩)
        rw [← h]
        exact way_self hv ((mem_plc.mp hf).resolve_left fun e => q (h ▸ e))
    · exact .inr (.inl h)
    · exact .inr (.inr ⟨nt, List.mem_append_left _ h⟩)
/-- below what is firm all is firm -/
theorem firm_down {rs : List Row} (hv : Valid rs) {r : Row} (hr : r ∈ rs) : ∀ {ds : List De}, Words ds → firm (eff rs ds r.fo) = true → firm (eff rs ds r.nm) = true := fun {ds} =>
  ds_rec (p := fun ds => Words ds → firm (eff rs ds r.fo) = true → firm (eff rs ds r.nm) = true) (fun _ h => h) (fun l x ih h => by
    rw [eff_snoc]
    by_cases f : x.1 = ("flip" : Str)
    · have st : ∀ b, stepE rs x (eff rs l) b = if within rs x.2 b = true then flp (eff rs l b) else eff rs l b := fun b => by unfold stepE; rw [if_pos f]
      have fs : ∀ b, firm (stepE rs x (eff rs l) b) = firm (eff rs l b) := fun b => by
        rw [st]
        split
        · exact flp_firm _ (eff_mem h.init b)
        · rfl
      rw [fs, fs]
      exact ih h.init
    · have st : ∀ b, stepE rs x (eff rs l) b = if within rs x.2 b = true then x.1 else eff rs l b := fun b => by unfold stepE; rw [if_neg f]
      rw [st, st]
      by_cases q : r.nm = x.2
      · have c1 : within rs x.2 r.nm = true := by unfold within; rw [decide_eq_true q]; rfl
        rw [if_pos c1]
        exact fun _ => word_firm _ h.last f
      · rw [within_up hv hr q]
        by_cases c : within rs x.2 r.fo = true
        · rw [if_pos c, if_pos c]
          exact fun e => e
        · rw [if_neg c, if_neg c]
          exact ih h.init) _ ds rfl
theorem within_later {rs : List Row} (hv : Valid rs) {i : Nat} {b p : Str} (hb : b = ("top" : Str) ∨ b ∈ names (rs.take i)) (hp : p ∈ names (rs.drop i)) : within rs p b = false := by
  have hpn : p ∈ names rs := by
    obtain ⟨q, hq, e⟩ := List.mem_map.mp hp
    exact List.mem_map.mpr ⟨q, List.mem_of_mem_drop hq, e⟩
  have pt : p ≠ ("top" : Str) := fun e => top_not hv (e ▸ hpn)
  have hb' : b ∈ plc rs := mem_plc.mpr (hb.imp id fun h => by
    obtain ⟨q, hq, e⟩ := List.mem_map.mp h
    exact List.mem_map.mpr ⟨q, List.mem_of_mem_take hq, e⟩)
  have nd := hv.nodup
  have dis : ∀ x, x ∈ names (rs.take i) → x ∉ names (rs.drop i) := fun x h1 h2 => by
    have e : names rs = names (rs.take i) ++ names (rs.drop i) := by unfold names; rw [← List.map_append, List.take_append_drop]
    have nd' : (names rs).Nodup := nd
    rw [e] at nd'
    exact (List.nodup_append.mp nd').2.2 x h1 x h2 rfl
  cases c : within rs p b with
  | false => rfl
  | true =>
    rcases (within_law hv hb').mp c with h | h | ⟨h, hw⟩
    · rcases hb with e | e
      · exact absurd (h.symm.trans e) pt
      · exact absurd (h ▸ hp) (dis b e)
    · exact absurd h pt
    · rcases hb with e | e
      · exact absurd e h
      · exact absurd hp (dis p (way_pre hv i e hw))
theorem least_split {rs : List Row} {i : Nat} {r : Row} (h : rs[i]? = some r) (f : Str → Str) :
    leastD rs f = (((("top" : Str) :: names (rs.take i)).filter fun z => decide (f z ≠ arF rs f z)).map fun z => (leastW (f z), z)) ++ ((([r.nm].filter fun z => decide (f z ≠ arF rs f z)).map fun z => (leastW (f z), z)) ++ ((names (rs.drop (i + 1))).filter fun z => decide (f z ≠ arF rs f z)).map fun z => (leastW (f z), z)) := by
  have e : plc rs = (("top" : Str) :: names (rs.take i)) ++ ([r.nm] ++ names (rs.drop (i + 1))) := by
    show ("top" : Str) :: names rs = _
    have : rs = rs.take i ++ (r :: rs.drop (i + 1)) := by
      obtain ⟨hi, e⟩ := List.getElem?_eq_some_iff.mp h
      rw [← e, ← List.drop_eq_getElem_cons hi, List.take_append_drop]
    have e2 : names rs = names (rs.take i) ++ ([r.nm] ++ names (rs.drop (i + 1))) := by
      conv => lhs; rw [this]
      unfold names
      rw [List.map_append]; rfl
    rw [e2]; rfl
  unfold leastD entL
  rw [e, List.filter_append, List.filter_append, List.map_append, List.map_append]
theorem eff_least {rs : List Row} (hv : Valid rs) {ds : List De} (hw : Words ds) : ∀ z ∈ plc rs, eff rs (leastD rs (eff rs ds)) z = eff rs ds z := by
  obtain ⟨f, hf⟩ : ∃ f, f = eff rs ds := ⟨_, rfl⟩
  have f4 : ∀ b, f b ∈ words4 := fun b => by rw [hf]; exact eff_mem hw b
  have fd : ∀ r ∈ rs, firm (f r.fo) = true → firm (f r.nm) = true := fun r hr => by rw [hf]; exact firm_down hv hr hw
  rw [← hf]
  have top : eff rs (leastD rs f) "top" = f "top" := by
    have e : leastD rs f = ((([("top" : Str)]).filter fun z => decide (f z ≠ arF rs f z)).map fun z => (leastW (f z), z)) ++ (((names rs).filter fun z => decide (f z ≠ arF rs f z)).map fun z => (leastW (f z), z)) := by
      unfold leastD entL
      rw [show plc rs = [("top" : Str)] ++ names rs from rfl, List.filter_append, List.map_append]
    rw [e, eff_fold, foldE_app, fold_skip _ fun d hd => by
      obtain ⟨z, hz, rfl⟩ := List.mem_map.mp hd
      refine within_later hv (i := 0) (.inl rfl) ?_
      rw [List.drop_zero]
      exact (List.mem_filter.mp hz).1]
    by_cases q : f "top" = "keep"
    · rw [List.filter_cons_of_neg (by rw [arF_top]; simp [q])]
      exact q.symm
    · rw [List.filter_cons_of_pos (by rw [arF_top]; simp [q])]
      show stepE rs (leastW (f "top"), "top") (fun _ => "keep") "top" = f "top"
      unfold stepE
      rw [if_pos (by unfold within; rw [decide_eq_true rfl]; rfl)]
      unfold leastW
      cases c : firm (f "top") with
      | true => rw [if_pos rfl, if_neg (firm_words _ (f4 _) c)]
      | false => rw [if_neg Bool.false_ne_true, if_pos rfl]; exact loose_flp _ (f4 _) _ w_keep c (by decide +kernel) q
  have main : ∀ (i : Nat) (r : Row), rs[i]? = some r → eff rs (leastD rs f) r.nm = f r.nm := by
    intro i
    induction i using Nat.strongRecOn with
    | _ i ih =>
      intro r hr
      have hrm := List.mem_of_getElem? hr
      have nt : r.nm ≠ ("top" : Str) := fun e => top_not hv (by rw [← e]; exact List.mem_map.mpr ⟨r, hrm, rfl⟩)
      have ro := rowOf_at hv hr
      have foi := hv.fo hr
      have ef : eff rs (leastD rs f) r.fo = f r.fo := by
        rcases foi with e | e
        · rw [e]; exact top
        · obtain ⟨q, hq, eq⟩ := List.mem_map.mp e
          obtain ⟨j, hj, ej⟩ := List.mem_take_iff_getElem.mp hq
          rw [← eq]
          exact ih j (by omega) q (by rw [← ej]; exact List.getElem?_eq_getElem _)
      have sp := least_split hr f
      obtain ⟨A, hA⟩ : ∃ A, A = (((("top" : Str) :: names (rs.take i)).filter fun z => decide (f z ≠ arF rs f z)).map fun z => (leastW (f z), z)) := ⟨_, rfl⟩
      obtain ⟨B, hB⟩ : ∃ B, B = (((names (rs.drop (i + 1))).filter fun z => decide (f z ≠ arF rs f z)).map fun z => (leastW (f z), z)) := ⟨_, rfl⟩
      obtain ⟨M, hM⟩ : ∃ M, M = (([r.nm].filter fun z => decide (f z ≠ arF rs f z)).map fun z => (leastW (f z), z)) := ⟨_, rfl⟩
      rw [← hA, ← hB, ← hM] at sp
      have inTake : r.nm ∈ names (rs.take (i + 1)) := by
        rw [take_more hr]; unfold names; rw [List.map_append]; exact List.mem_append_right _ (List.mem_singleton.mpr rfl)
      have skB : ∀ b, (b = ("top" : Str) ∨ b ∈ names (rs.take (i + 1))) → ∀ e, foldE rs B e b = e b := fun b hb e => fold_skip e fun d hd => by
        rw [hB] at hd
        obtain ⟨z, hz, rfl⟩ := List.mem_map.mp hd
        exact within_later hv hb (List.mem_filter.mp hz).1
      have skM : ∀ e, foldE rs M e r.fo = e r.fo := fun e => fold_skip e fun d hd => by
        rw [hM] at hd
        obtain ⟨z, hz, rfl⟩ := List.mem_map.mp hd
        have hz1 := List.mem_singleton.mp (List.mem_filter.mp hz).1
        refine within_later hv foi ?_
        rw [hz1]
        obtain ⟨hi, e⟩ := List.getElem?_eq_some_iff.mp hr
        rw [List.drop_eq_getElem_cons hi, e]
        exact List.mem_map.mpr ⟨r, List.mem_cons_self .., rfl⟩
      have foi2 : r.fo = ("top" : Str) ∨ r.fo ∈ names (rs.take (i + 1)) := foi.imp id fun h => by
        rw [take_more hr]; unfold names; rw [List.map_append]; exact List.mem_append_left _ h
      have eA : foldE rs A (fun _ => "keep") r.fo = f r.fo := by
        rw [← ef, sp, eff_fold, foldE_app, foldE_app, skB _ foi2, skM]
      have eA2 : foldE rs A (fun _ => "keep") r.nm = f r.fo := by
        rw [← eA]
        refine fold_same _ (fun d hd => ?_) rfl
        rw [hA] at hd
        obtain ⟨z, hz, rfl⟩ := List.mem_map.mp hd
        refine within_up hv hrm fun e => ?_
        have e' : r.nm = z := e
        rcases List.mem_cons.mp (List.mem_filter.mp hz).1 with h | h
        · exact nt (e'.trans h)
        · exact (hv i r hr).new (by rw [e']; exact h)
      rw [sp, eff_fold, foldE_app, foldE_app, skB _ (.inr inTake)]
      have ar := arF_row (f := f) nt ro
      by_cases q : f r.nm = f r.fo
      · rw [hM, List.filter_cons_of_neg (by rw [ar]; simp [q]), List.filter_nil]
        exact eA2.trans q.symm
      · rw [hM, List.filter_cons_of_pos (by rw [ar]; simp [q]), List.filter_nil]
        show stepE rs (leastW (f r.nm), r.nm) (foldE rs A fun _ => "keep") r.nm = f r.nm
        unfold stepE
        rw [if_pos (by unfold within; rw [decide_eq_true rfl]; rfl), eA2]
        unfold leastW
        cases c : firm (f r.nm) with
        | true => rw [if_pos rfl, if_neg (firm_words _ (f4 _) c)]
        | false =>
          rw [if_neg Bool.false_ne_true, if_pos rfl]
          refine loose_flp _ (f4 _) _ (f4 _) c ?_ q
          cases c2 : firm (f r.fo) with
          | false => rfl
          | true => rw [fd r hrm c2] at c; cases c
  intro z hz
  rcases mem_plc.mp hz with rfl | hz
  · exact top
  · obtain ⟨r, hr, rfl⟩ := List.mem_map.mp hz
    obtain ⟨i, hi, e⟩ := List.mem_iff_getElem.mp hr
    exact main i r (by rw [← e]; exact List.getElem?_eq_getElem hi)
theorem least_words {rs : List Row} {f : Str → Str} (f4 : ∀ b, f b ∈ words4) : VDs rs (leastD rs f) := fun d hd => by
  obtain ⟨z, hz, rfl⟩ := List.mem_map.mp hd
  exact ⟨leastW_mem _ (f4 z), (List.mem_filter.mp hz).1⟩
theorem least_len {rs : List Row} {f : Str → Str} : (leastD rs f).length ≤ rs.length + 1 := by
  unfold leastD entL
  rw [List.length_map]
  have := List.length_filter_le (fun z => decide (f z ≠ arF rs f z)) (plc rs)
  rw [plc_len'] at this
  exact this
/-- rows that are alike have the same entries -/
theorem arF_congr {rs : List Row} (hv : Valid rs) {f g : Str → Str} (h : ∀ z ∈ plc rs, f z = g z) {z : Str} (hz : z ∈ plc rs) : arF rs f z = arF rs g z := by
  by_cases e : z = ("top" : Str)
  · rw [e, arF_top, arF_top]
  · obtain ⟨r, er, hr, rfl⟩ := rowOf_some ((mem_plc.mp hz).resolve_left e)
    rw [arF_row e er, arF_row e er]
    exact h _ (fo_plc hv hr)
theorem ent_congr {rs : List Row} (hv : Valid rs) {f g : Str → Str} (h : ∀ z ∈ plc rs, f z = g z) : entL rs f = entL rs g := by
  unfold entL
  exact List.filter_congr fun z hz => by rw [h z hz, arF_congr hv h hz]
theorem least_congr {rs : List Row} (hv : Valid rs) {f g : Str → Str} (h : ∀ z ∈ plc rs, f z = g z) : leastD rs f = leastD rs g := by
  unfold leastD
  rw [ent_congr hv h]
  exact List.map_congr_left fun z hz => by rw [h z (List.mem_filter.mp hz).1]
theorem alike_iff {rs : List Row} {ds es : List De} : alikeE rs ds es = true ↔ ∀ z ∈ plc rs, eff rs ds z = eff rs es z := by
  unfold alikeE
  rw [List.all_eq_true]
  exact ⟨fun h z hz => of_decide_eq_true (h z hz), fun h z hz => decide_eq_true (h z hz)⟩
/-- no row of fewer deeds, of none or of one, is alike -/
theorem few_none {rs : List Row} (hv : Valid rs) {ds : List De} (h : 1 ≤ (entL rs (eff rs ds)).length) : alikeE rs [] ds = false := by
  cases c : alikeE rs [] ds with
  | false => rfl
  | true =>
    rw [← ent_congr hv (alike_iff.mp c)] at h
    have e0 : entL rs (eff rs []) = [] := List.filter_eq_nil_iff.mpr fun z hz => by
      by_cases e : z = ("top" : Str)
      · rw [e, arF_top]; simp [eff]
      · obtain ⟨r, er, hr, rfl⟩ := rowOf_some ((mem_plc.mp hz).resolve_left e)
        rw [arF_row e er]; simp [eff]
    rw [e0] at h
    exact absurd h (by decide)
theorem few_one {rs : List Row} (hv : Valid rs) {ds : List De} (h : 2 ≤ (entL rs (eff rs ds)).length) (d : De) : alikeE rs [d] ds = false := by
  cases c : alikeE rs [d] ds with
  | false => rfl
  | true =>
    rw [← ent_congr hv (alike_iff.mp c)] at h
    have hs : ∀ z ∈ entL rs (eff rs [d]), z = d.2 := fun z hz => by
      obtain ⟨hz, hne⟩ := List.mem_filter.mp hz
      refine Classical.byContradiction fun ne => of_decide_eq_true hne ?_
      by_cases e : z = ("top" : Str)
      · rw [e, arF_top]
        show stepE rs d (fun _ => "keep") "top" = "keep"
        unfold stepE
        rw [if_neg]
        intro hw
        rcases (within_law hv (mem_plc.mpr (.inl rfl))).mp hw with h | h | ⟨h, _⟩
        · exact ne (e.trans h)
        · exact ne (e.trans h.symm)
        · exact h rfl
      · obtain ⟨r, er, hr, rfl⟩ := rowOf_some ((mem_plc.mp hz).resolve_left e)
        rw [arF_row e er]
        show stepE rs d (fun _ => "keep") r.nm = stepE rs d (fun _ => "keep") r.fo
        unfold stepE
        rw [within_up hv hr ne]
    have nd : (entL rs (eff rs [d])).Nodup := (plc_nd hv).filter _
    match q : entL rs (eff rs [d]) with
    | [] => rw [q] at h; simp at h
    | [x] => rw [q] at h; simp at h
    | x :: y :: l =>
      rw [q] at nd hs
      have e1 := hs x (List.mem_cons_self ..)
      have e2 := hs y (List.mem_cons_of_mem _ (List.mem_cons_self ..))
      exact absurd (e1.trans e2.symm) fun e => (List.nodup_cons.mp nd).1 (e ▸ List.mem_cons_self ..)
/-- undo undoes -/
theorem vb_twice : ∀ w ∈ words4, firm w = false → ∀ v : Bool, vb w (vb w v) = v := by decide +kernel
theorem undo_done {rs : List Row} (hv : Valid rs) {ds : List De} (hw : Words ds) (hn : ∀ z ∈ plc rs, firm (eff rs ds z) = false) (v : Str → Bool) : ∀ z ∈ plc rs, doneV rs (doneV rs v ds) (leastD rs (eff rs ds)) z = v z := fun z hz => by
  rw [done_eff (least_words (rs := rs) (fun b => eff_mem hw b)).words, eff_least hv hw z hz, done_eff hw]
  exact vb_twice _ (eff_mem hw z) (hn z hz) _
end Ts

set_option maxRecDepth 100000
set_option maxHeartbeats 4000000
namespace Ts
open PySem L2
def firmL (rs : List Row) (f : Str → Str) : Bool := (plc rs).any fun z => firm (f z)
def spRowOf (C CR : Addr) : Sp := fun vs H Q _ => ∃ (t e : Addr) (rs : List Row) (f : Str → Str), vs = [.ref t, .ref e] ∧ TreeAt C H t rs ∧ Unl0 rs ∧ H e = some (.dK (kvS f (plc rs))) ∧ (∀ z, f z ∈ words4) ∧ rs.length ≤ 90 ∧ ∀ r H', H r = none → Same H H' → RowAt C CR H' r t rs (leastD rs f) → Q (.ref r) H'
def spRLeast (C CR : Addr) : Sp := fun vs H Q _ => ∃ (r t : Addr) (rs : List Row) (ds : List De), vs = [.ref r] ∧ RowAt C CR H r t rs ds ∧ rs.length ≤ 90 ∧ ∀ r2 H', H r2 = none → Same H H' → RowAt C CR H' r2 t rs (leastD rs (eff rs ds)) → Q (.ref r2) H'
def spRUndo (C CR : Addr) : Sp := fun vs H Q _ => ∃ (r t : Addr) (rs : List Row) (ds : List De), vs = [.ref r] ∧ RowAt C CR H r t rs ds ∧ rs.length ≤ 90 ∧
  (firmL rs (eff rs ds) = true → ∀ H', Same H H' → Q .non H') ∧ (firmL rs (eff rs ds) = false → ∀ r2 H', H r2 = none → Same H H' → RowAt C CR H' r2 t rs (leastD rs (eff rs ds)) → Q (.ref r2) H')
def spREqN (K : PySem.W.Frag) (C CR : Addr) : Sp := fun vs H Q _ => ∃ (r t : Addr) (x : V) (rs : List Row) (ds : List De), vs = [.ref r, x] ∧ RowAt C CR H r t rs ds ∧
  ((∃ (r2 t2 : Addr) (es : List De), x = .ref r2 ∧ RowAt C CR H r2 t2 rs es ∧ Q (.bl (alikeE rs ds es)) H) ∨ (∃ (r2 t2 : Addr) (qs : List Row) (es : List De), x = .ref r2 ∧ RowAt C CR H r2 t2 qs es ∧ rs ≠ qs ∧ Q (.bl false) H) ∨ (Other K H x (.ref CR) ∧ Q (.bl false) H))
theorem kvS_at {f : Str → Str} {l : List Str} {j : Nat} {k : Key} {v : V} (h : (kvS f l)[j]? = some (k, v)) : ∃ z : Str, k = .inr z ∧ l[j]? = some z ∧ v = .str (f z) := by
  unfold kvS kvX at h
  rw [List.getElem?_map] at h
  obtain ⟨z, hz, e⟩ := Option.map_eq_some_iff.mp h
  cases e
  exact ⟨z, rfl, hz, rfl⟩
section
variable {P : Program} {w : World} {K : PySem.W.Frag} {mg : Str → Option Value} {base : Heap} {C CR : Addr}
theorem ok_R_eqN {f : Addr} {fd : FuncData} (F : Fun K "__eq__" "Row.__eq__" s_Row_eq f fd) (B : TxB mg) (R : TxR K mg CR) (I : C8.InsC K CR)
    (mE : MethAt K C "__eq__" "Tree.__eq__" s_Tree_eq ["self", "other"]) (GE : FnOk P w K mg base CX0 2 mE.f mE.fd ["self", "other"] (spEqT K C)) : FnOk P w K mg base CX0 3 f fd ["self", "other"] (spREqN K C CR) := by
  refine F.ok sc_R_eq (fun vs H Q E h => ?_) (fun cdv A outer s H vs Q E hr h => ?_)
  · obtain ⟨r, t, x, rs, ds, rfl, _⟩ := h
    rfl
  · obtain ⟨r, t, x, rs, ds, rfl, hm, h⟩ := h
    have hu64 := hr.units
    obtain ⟨dx, q, e, as, h1, h2, h3, h4⟩ := hm.ex
    refine ⟨_, pss_one (ps_ret (pe_and (pe_callB call_isi (by rfl) B.isinstance (by decide +kernel) (pa_cons (pv 1) (pa_cons (pe_glob (by rfl) R.g (v := .ref CR) rfl) pa_nil)))
      (pe_and (pe_cmpR (op_eqC GE mE.m hr mE.b pass0) (pe_fld (pv 0) rfl) (pe_fld (pv 1) rfl) (nomark _))
      (pe_one (pe_cmpR (op_eqX (Nat.lt_of_le_of_lt (Nat.le_add_right _ _) hu64)) (pe_fld (pv 0) rfl) (pe_fld (pv 1) rfl) (nomark _)))))), ?_⟩
    rcases h with ⟨r2, t2, es, rfl, hm2, hq⟩ | ⟨r2, t2, qs, es, rfl, hm2, hne, hq⟩ | ⟨⟨ty, hty, hk⟩, hq⟩
    · obtain ⟨dx', q', e', as', g1, g2, g3, g4⟩ := hm2.ex
      obtain ⟨tx, _, _, _, _, _, k1, _⟩ := id hm.tree.ex
      obtain ⟨tx2, _, _, _, _, _, k3, _⟩ := id hm2.tree.ex
      refine ⟨_, rfl, _, _, _, _, true, rfl, .own CR, .base (.ins g1 I.cl I.ha I.hn I.htk I.hm), I.me, _, rfl, iteT ?_⟩
      refine ⟨_, rfl, r, CR, dx, _, _, rfl, h1, R.cl, R.nt, rf_t _ _ _, _, rfl, r2, CR, dx', _, _, rfl, g1, R.cl, R.nt, rf_t _ _ _, t, tx, _, .ref C, rfl, k1, .ins k3, nfC, t, .ref t2, rs, rfl, hm.tree, .inl ⟨t2, rs, rfl, hm2.tree, ?_⟩⟩
      refine ⟨_, rfl, _, rfl, ?_⟩
      refine iteNS' (by simp) ?_
      refine ⟨_, rfl, r, CR, dx, _, _, rfl, h1, R.cl, R.ne, rf_e _ _ _, _, rfl, r2, CR, dx', _, _, rfl, g1, R.cl, R.ne, rf_e _ _ _, e, e', _, _, plc rs, rfl, rfl, h4, g4, words_flat, ?_⟩
      rw [eff_alike]
      exact hq
    · obtain ⟨dx', q', e', as', g1, g2, g3, g4⟩ := hm2.ex
      obtain ⟨tx, _, _, _, _, _, k1, _⟩ := id hm.tree.ex
      obtain ⟨tx2, _, _, _, _, _, k3, _⟩ := id hm2.tree.ex
      refine ⟨_, rfl, _, _, _, _, true, rfl, .own CR, .base (.ins g1 I.cl I.ha I.hn I.htk I.hm), I.me, _, rfl, iteT ?_⟩
      refine ⟨_, rfl, r, CR, dx, _, _, rfl, h1, R.cl, R.nt, rf_t _ _ _, _, rfl, r2, CR, dx', _, _, rfl, g1, R.cl, R.nt, rf_t _ _ _, t, tx, _, .ref C, rfl, k1, .ins k3, nfC, t, .ref t2, rs, rfl, hm.tree, .inl ⟨t2, qs, rfl, hm2.tree, ?_⟩⟩
      refine ⟨_, rfl, _, rfl, ?_⟩
      exact iteF' (by simp [hne]) hq
    · exact ⟨_, rfl, _, _, _, _, false, rfl, .own CR, hty, hk, _, rfl, iteF hq⟩
abbrev nRowOf : List Str := ["tree", "effects", "entries", "place", "word"]
theorem sc_row_of : FnScope nRowOf ["tree", "effects"] (defScope s_row_of) := ⟨rfl, rfl, rfl, by decide +kernel, rfl, by decide +kernel, by decide +kernel⟩
theorem ok_row_of {fR : Addr} {fdR : FuncData} (D : DefAt K mg "row_of" s_row_of ["tree", "effects"]) (TD : TxD K mg w) (TF : TxF K mg) (R : TxR K mg CR) (De : DefAt K mg "entries_of" s_entries_of ["tree", "effects"]) (Ge : FnOk P w K mg base CX0 6 De.f De.fd ["tree", "effects"] (spEntries C))
    (MR : Mk K CR fR) (bR : Binds K fdR ["self", "tree", "deeds"] []) (GR : FnOk P w K mg base CX0 7 fR fdR ["self", "tree", "deeds"] (spRowInit C CR)) : FnOk P w K mg base CX0 9 D.f D.fd ["tree", "effects"] (spRowOf C CR) := by
  obtain ⟨t1, gF⟩ := TD.flip
  refine D.F.ok sc_row_of (fun vs H Q E h => ?_) (fun cdv A outer s H vs Q E hr h => ?_)
  · obtain ⟨t, e, rs, f, rfl, _⟩ := h
    rfl
  · obtain ⟨t, e, rs, f, rfl, ht, hun, he, f4, hl, hq⟩ := h
    have r6 : Room 6 _ := hr.mono (by decide)
    have r8 : Room 8 _ := hr.mono (by decide)
    refine ⟨_, pss_cons (ps_set (i := 2) sc_row_of.nd rfl (.inl rfl) (pe_call Ge r6 rfl De.g De.F.kp De.b .nil pass0 (pa_cons (pv 0) (pa_cons (pv 1) pa_nil))))
      (pss_one (ps_ret (pe_make MR GR r8 rfl R.g bR .nil pass0 (pa_cons (pv 0) (pa_cons (pe_lock (pe_lc (own := [("place", 3), ("word", 4)]) (g := gTup K 2 (gCons (gName 3) (gCons (gName 4) gNil))) (tt := tYes) (te := tTup (tCons (tIf (tTest (tOp (rIn K false) (tVar 4) (tC (.ref TF.firmA)))) (tVar 4) (tC (.str ("flip" : Str)))) (tCons (tVar 3) tNil))) rfl sc_row_of.nd (pi_items (pv 2)) (blkOk_by (N := nRowOf) (sc := defScope s_row_of) (by decide +kernel))
          (fun _ _ _ _ _ => by exact pg_tup rfl (pgs_cons (pg_name (i := 3) sc_row_of.nd rfl (Or.inl rfl)) (pgs_cons (pg_name (i := 4) sc_row_of.nd rfl (Or.inl rfl)) pgs_nil))) (fun _ _ _ _ _ => pts_nil)
          (fun _ _ _ _ _ => by exact pe_tup (pa_cons (pe_ifExp (pt_cmpR op_in_seq (pv 4) (pe_glob (by rfl) TF.firm (v := .ref TF.firmA) rfl) (by rfl)) (pv 4) (pe_glob (by rfl) gF (v := .str ("flip" : Str)) ⟨_, rfl⟩)) (pa_cons (pv 3) pa_nil))))) pa_nil))))), ?_⟩
    have hv := ht.val
    refine ⟨_, rfl, _, rfl, t, e, rs, f, rfl, ht, he, fun en H1 hen s1 een => ?_⟩
    have lpl : (plc rs).length ≤ 91 := by rw [plc_len']; omega
    have len : (entL rs f).length ≤ 91 := Nat.le_trans (List.length_filter_le _ _) lpl
    refine ⟨_, rfl, en, _, een, trivial, fun od => ?_⟩
    have lk : (upd H1 en (.frz od (.dK (kvS f (entL rs f))))) en = some (.frz od (.dK (kvS f (entL rs f)))) := upd_same
    obtain ⟨Hl, El⟩ : ∃ Hx, Hx = upd H1 en (.frz od (.dK (kvS f (entL rs f)))) := ⟨_, rfl⟩
    rw [← El]
    rw [← El] at lk
    refine ⟨_, rfl, en, od, _, rfl, lk, fun D2 hD2 => ?_⟩
    have nDe : D2 ≠ en := (ne_of_none lk hD2).symm
    refine lc_it (walk_items (d := en) (o := od) (kvs := kvS f (entL rs f))) (fun i H' => Same Hl H' ∧ ∃ as : List Addr, H' D2 = some (.lst (as.map V.ref)) ∧ DsAt H' as (((entL rs f).take i).map fun z => (leastW (f z), z))) ⟨Same.new hD2, [], upd_same, DsAt.nil⟩ (fun i H' _ m => m.1 _ _ lk) ?_ ?_
    · rintro i x H5x H5 hi ⟨s5, as, hD5, da⟩ ⟨T, kx, vx, rfl, hT, rfl, hkx, hvx⟩
      rw [Option.map_eq_some_iff] at hkx hvx
      obtain ⟨⟨k', v'⟩, hk, rfl⟩ := hkx
      obtain ⟨⟨k'', v''⟩, hk2, rfl⟩ := hvx
      rw [hk] at hk2
      cases Option.some.inj hk2
      obtain ⟨z, rfl, hz, rfl⟩ := kvS_at hk
      have sT : Same H5x (upd H5x T (.tup [V.str z, V.str (f z)])) := Same.new hT
      have eT : (upd H5x T (.tup [V.str z, V.str (f z)])) T = some (.tup [V.str z, V.str (f z)]) := upd_same
      have s6 := s5.trans sT
      have hD6 := sT _ _ hD5
      have da6 := da.same sT
      show gTup K 2 _ _ _ (upd H5x T (.tup [V.str z, V.str (f z)])) _
      generalize upd H5x T (.tup [V.str z, V.str (f z)]) = H6 at sT eT s6 hD6 da6
      refine ⟨T, _, rfl, sqT eT, rfl, _, _, rfl, _, _, rfl, rfl, rfl, tYes_if ?_⟩
      refine ⟨_, rfl, TF.firmA, _, rfl, .inr (.inr TF.firmT), rfl, flat_strs _, _, rfl, ?_⟩
      have e0 : (if false = true then !inV (.str (f z)) ((["on", "off"] : List Str).map V.str) else inV (.str (f z)) ((["on", "off"] : List Str).map V.str)) = firm (f z) := by
        rw [if_neg Bool.false_ne_true, inV_strs]; rfl
      rw [e0]
      have las : as.length ≤ 91 := by rw [da.len, List.length_map, List.length_take]; omega
      have fin : ∀ y : Str, y = leastW (f z) → (fun (v : V) (H7 : Hp) => v = .str y ∧ H7 = H6) (.str y) H6 := fun y _ => ⟨rfl, rfl⟩
      have go : ∀ y : Str, y = leastW (f z) → ([V.str y, V.str z].length ≤ sizeLine ∧ ∀ p, H6 p = none → ∃ acc, (upd H6 p (.tup [V.str y, V.str z])) D2 = some (.lst acc) ∧ acc.length < sizeLine ∧ (Same Hl (upd (upd H6 p (.tup [V.str y, V.str z])) D2 (.lst (acc ++ [.ref p]))) ∧ ∃ as : List Addr, (upd (upd H6 p (.tup [V.str y, V.str z])) D2 (.lst (acc ++ [.ref p]))) D2 = some (.lst (as.map V.ref)) ∧ DsAt (upd (upd H6 p (.tup [V.str y, V.str z])) D2 (.lst (acc ++ [.ref p]))) as (((entL rs f).take (i + 1)).map fun z => (leastW (f z), z)))) := by
        intro y hy
        refine ⟨(by show 2 ≤ sizeLine; decide), fun p hp => ?_⟩
        have nDp : D2 ≠ p := ne_of_none hD6 hp
        refine ⟨as.map V.ref, by rw [upd_ne nDp]; exact hD6, small1000 (by rw [List.length_map]; omega), fun b o eb => ?_, as ++ [p], by rw [upd_same, List.map_append]; rfl, ?_⟩
        · rw [upd_ne (fun y => by rw [y, hD2] at eb; cases eb), upd_ne (ne_of_none (s6 _ _ eb) hp)]
          exact s6 _ _ eb
        · rw [take_more hz, List.map_append]
          have kp : ∀ {b : Addr} {xs : List V}, H6 b = some (.tup xs) → (upd (upd H6 p (.tup [V.str y, V.str z])) D2 (.lst (as.map V.ref ++ [V.ref p]))) b = some (.tup xs) := fun {b xs} e => by
            rw [upd_ne (fun y => by rw [y, hD6] at e; cases e), upd_ne (ne_of_none e hp)]; exact e
          refine DsAt.snoc ⟨da6.len, fun i2 b d x y => kp (da6.at_ i2 b d x y)⟩ ?_
          rw [upd_ne nDp.symm, upd_same, hy]
          rfl
      refine ite2 (fun hc => ?_) (fun hc => ?_)
      · exact ⟨_, rfl, _, rfl, go _ (by unfold leastW; rw [if_pos hc])⟩
      · exact ⟨_, rfl, go _ (by unfold leastW; rw [if_neg hc])⟩
    rintro H5 ⟨s5, as, hD5, da⟩
    have el : (kvS f (entL rs f)).length = (entL rs f).length := by unfold kvS; rw [kvX_len]
    rw [el, List.take_length] at da
    refine ⟨s5 _ _ lk, ?_⟩
    rw [El] at s5
    have sB := lock_backE een s5
    have eB : (upd H5 en (.dK (kvS f (entL rs f)))) D2 = some (.lst (as.map V.ref)) := by rw [upd_ne nDe]; exact hD5
    have dB : DsAt (upd H5 en (.dK (kvS f (entL rs f)))) as (leastD rs f) := ⟨da.len, fun i2 b d x y => by
      have e3 := da.at_ i2 b d x y
      rw [upd_ne (fun q => by rw [q, s5 _ _ (by rw [← El]; exact lk)] at e3; cases e3)]
      exact e3⟩
    generalize upd H5 en (.dK (kvS f (entL rs f))) = H6 at sB eB dB
    have s06 := s1.trans sB
    have ll := least_len (rs := rs) (f := f)
    exact fun r dr nr ndr _ => ⟨r, dr, t, D2, rs, as, leastD rs f, rfl, upd_same, (ht.same s06).same (mk_same0 nr ndr), hun, .inr (mk_same0 (C := CR) nr ndr _ _ eB), (dB.same (mk_same0 nr ndr)).seq, least_words f4, by omega, fun H7 sb7 hr7 => ⟨rfl, hq r H7 (s06.free nr) (s06.trans (mk_same nr ndr sb7)) hr7⟩⟩
theorem sc_R_least : FnScope ["self"] ["self"] (defScope s_Row_least) := ⟨rfl, rfl, rfl, by decide +kernel, rfl, by decide +kernel, by decide +kernel⟩
theorem ok_R_least {f : Addr} {fd : FuncData} (F : Fun K "least" "Row.least" s_Row_least f fd) (R : TxR K mg CR) (Dr : DefAt K mg "row_of" s_row_of ["tree", "effects"]) (Gr : FnOk P w K mg base CX0 9 Dr.f Dr.fd ["tree", "effects"] (spRowOf C CR)) : FnOk P w K mg base CX0 10 f fd ["self"] (spRLeast C CR) := by
  refine F.ok sc_R_least (fun vs H Q E h => ?_) (fun cdv A outer s H vs Q E hr h => ?_)
  · obtain ⟨r, t, rs, ds, rfl, _⟩ := h
    rfl
  · obtain ⟨r, t, rs, ds, rfl, hR, hl, hq⟩ := h
    obtain ⟨dx, q, e, as, h1, h2, h3, h4⟩ := id hR.ex
    refine ⟨_, pss_one (ps_ret (pe_call Gr hr rfl Dr.g Dr.F.kp Dr.b .nil pass0 (pa_cons (pe_fld (pv 0) rfl) (pa_cons (pe_fld (pv 0) rfl) pa_nil)))), ?_⟩
    exact ⟨_, rfl, r, CR, dx, _, _, rfl, h1, R.cl, R.nt, rf_t _ _ _, _, rfl, r, CR, dx, _, _, rfl, h1, R.cl, R.ne, rf_e _ _ _, t, e, rs, eff rs ds, rfl, hR.tree, hR.un, h4, fun z => eff_mem hR.vd.words z, hl, fun r2 H' hn s' hr2 => hq r2 H' hn s' hr2⟩
end
end Ts

set_option maxRecDepth 100000
set_option maxHeartbeats 4000000
namespace Ts
open PySem L2
/-! ### each deed adds at most one entry -/
theorem filter_le {α : Type} {P Q : α → Bool} : ∀ {l : List α}, (∀ z ∈ l, P z = true → Q z = true) → (l.filter P).length ≤ (l.filter Q).length
  | [], _ => Nat.le_refl _
  | x :: l, h => by
    have ih := filter_le (l := l) fun z hz => h z (List.mem_cons_of_mem _ hz)
    rw [List.filter_cons, List.filter_cons]
    cases hp : P x
    · rw [if_neg Bool.false_ne_true]
      split
      · rw [List.length_cons]; omega
      · exact ih
    · rw [if_pos rfl, if_pos (h x (List.mem_cons_self ..) hp), List.length_cons, List.length_cons]
      omega
theorem filter_le1 {α : Type} [DecidableEq α] {P Q : α → Bool} {a : α} : ∀ {l : List α}, l.Nodup → (∀ z ∈ l, z ≠ a → P z = true → Q z = true) → (l.filter P).length ≤ (l.filter Q).length + 1
  | [], _, _ => Nat.zero_le _
  | x :: l, nd, h => by
    have nd' := List.nodup_cons.mp nd
    by_cases e : x = a
    · have ih := filter_le (P := P) (Q := Q) (l := l) fun z hz hp => h z (List.mem_cons_of_mem _ hz) (fun q => nd'.1 (e ▸ q ▸ hz)) hp
      rw [List.filter_cons, List.filter_cons]
      split <;> split <;> (try simp only [List.length_cons]) <;> omega
    · have ih := filter_le1 (P := P) (Q := Q) (a := a) nd'.2 fun z hz => h z (List.mem_cons_of_mem _ hz)
      rw [List.filter_cons, List.filter_cons]
      cases hp : P x
      · rw [if_neg Bool.false_ne_true]
        split
        · rw [List.length_cons]; omega
        · exact ih
      · rw [if_pos rfl, if_pos (h x (List.mem_cons_self ..) e hp), List.length_cons, List.length_cons]
        omega
theorem ent_step {rs : List Row} (hv : Valid rs) (d : De) (e : Str → Str) : (entL rs (stepE rs d e)).length ≤ (entL rs e).length + 1 := by
  unfold entL
  refine filter_le1 (a := d.2) (plc_nd hv) fun z hz ne h => ?_
  rw [decide_eq_true_eq] at h ⊢
  intro q
  apply h
  rcases mem_plc.mp hz with rfl | hz'
  · rw [arF_top] at q ⊢
    have w0 : within rs d.2 "top" = false := by
      rcases hw : within rs d.2 "top" with _ | _
      · rfl
      · rcases (within_law hv hz).mp hw with e1 | e1 | e1
        · exact absurd e1 ne
        · exact absurd e1.symm ne
        · exact absurd rfl e1.1
    unfold stepE
    rw [w0, if_neg Bool.false_ne_true]
    exact q
  · obtain ⟨r, hr, rfl⟩ := List.mem_map.mp hz'
    obtain ⟨i, hi, er⟩ := List.mem_iff_getElem.mp hr
    have ro : rowOf rs r.nm = some r := rowOf_at hv (by rw [← er]; exact List.getElem?_eq_getElem hi)
    have nt : r.nm ≠ ("top" : Str) := fun y => by
      have := top_not hv
      rw [y] at hz'
      exact this hz'
    rw [arF_row nt ro] at q ⊢
    unfold stepE
    rw [within_up hv hr ne, q]
theorem ent_fold {rs : List Row} (hv : Valid rs) : ∀ (ds : List De) (e : Str → Str), (entL rs (foldE rs ds e)).length ≤ (entL rs e).length + ds.length
  | [], _ => Nat.le_refl _
  | d :: ds, e => by
    have h1 := ent_fold hv ds (stepE rs d e)
    have h2 := ent_step hv d e
    show (entL rs (foldE rs ds (stepE rs d e))).length ≤ _
    rw [List.length_cons]
    omega
/-- a row has at least as many deeds as its maps have entries -/
theorem ent_le {rs : List Row} (hv : Valid rs) (ds : List De) : (entL rs (eff rs ds)).length ≤ ds.length := by
  have h := ent_fold hv ds fun _ => "keep"
  have h0 : (entL rs fun _ => ("keep" : Str)) = [] := by
    unfold entL
    rw [List.filter_eq_nil_iff]
    intro z hz
    rw [decide_eq_true_eq]
    refine fun hne => hne ?_
    rcases mem_plc.mp hz with rfl | hz'
    · rw [arF_top]
    · obtain ⟨r, hr, rfl⟩ := List.mem_map.mp hz'
      obtain ⟨i, hi, er⟩ := List.mem_iff_getElem.mp hr
      have ro : rowOf rs r.nm = some r := rowOf_at hv (by rw [← er]; exact List.getElem?_eq_getElem hi)
      have nt : r.nm ≠ ("top" : Str) := fun y => by
        have := top_not hv
        rw [y] at hz'
        exact this hz'
      rw [arF_row nt ro]
  rw [h0] at h
  rw [eff_fold]
  simpa using h
end Ts

set_option maxRecDepth 100000
set_option maxHeartbeats 4000000
namespace Ts
open PySem L2
/-! ### the least number of entries -/
def un (a b : Str) : Nat := if a = b then 0 else 1
def addAt (A : Str → Nat) (z : Str) (n : Nat) : Str → Nat := fun y => if y = z then A y + n else A y
/-- the least number of entries below a place, counted from rows on: where it is loose, where it is firm -/
def pot (l h : Str → Str) : List Row → (Str → Nat) × (Str → Nat)
  | [] => (fun _ => 0, fun _ => 0)
  | r :: S => (addAt (pot l h S).1 r.fo (min ((pot l h S).1 r.nm + un (l r.nm) (l r.fo)) ((pot l h S).2 r.nm + 1)), addAt (pot l h S).2 r.fo ((pot l h S).2 r.nm + un (h r.nm) (h r.fo)))
def costR (g : Str → Str) (S : List Row) : Nat := (S.map fun r => un (g r.nm) (g r.fo)).sum
def valP (l h : Str → Str) (S : List Row) (g : Str → Str) (z : Str) : Nat := if firm (g z) = true then (pot l h S).2 z else (pot l h S).1 z
def sumP (l h : Str → Str) (S : List Row) (g : Str → Str) (Pre : List Str) : Nat := (Pre.map (valP l h S g)).sum
/-- soft and hard words -/
structure LH (l h : Str → Str) : Prop where
  soft : ∀ z, firm (l z) = false
  hard : ∀ z, firm (h z) = true
/-- a map of the told form at a row -/
structure OkR (l h g : Str → Str) (r : Row) : Prop where
  low : firm (g r.fo) = true → g r.nm = h r.nm
  two : g r.nm = l r.nm ∨ g r.nm = h r.nm
structure Suf (Pre : List Str) (S : List Row) : Prop where
  fo : ∀ i r, S[i]? = some r → r.fo ∈ Pre ∨ r.fo ∈ names (S.take i)
  nd : (Pre ++ names S).Nodup
theorem Suf.next {Pre : List Str} {r : Row} {S : List Row} (h : Suf Pre (r :: S)) : Suf (Pre ++ [r.nm]) S := by
  refine ⟨fun i q hq => ?_, ?_⟩
  · have := h.fo (i + 1) q (by simpa using hq)
    rcases this with e | e
    · exact .inl (List.mem_append_left _ e)
    · rw [List.take_succ_cons] at e
      rcases List.mem_cons.mp e with e | e
      · exact .inl (List.mem_append_right _ (List.mem_singleton.mpr e))
      · exact .inr e
  · have := h.nd
    rw [List.append_assoc]
    exact this
theorem Suf.head {Pre : List Str} {r : Row} {S : List Row} (h : Suf Pre (r :: S)) : r.fo ∈ Pre := by
  rcases h.fo 0 r rfl with e | e
  · exact e
  · cases e
theorem sum_addAt {v w : Str → Nat} {a : Str} {n : Nat} : ∀ {Pre : List Str}, Pre.Nodup → a ∈ Pre → (∀ z ∈ Pre, z ≠ a → w z = v z) → w a = v a + n → (Pre.map w).sum = (Pre.map v).sum + n
  | [], _, h, _, _ => by cases h
  | x :: Pre, nd, ha, h, hw => by
    have nd' := List.nodup_cons.mp nd
    rw [List.map_cons, List.map_cons, List.sum_cons, List.sum_cons]
    by_cases e : x = a
    · have e2 : Pre.map w = Pre.map v := List.map_congr_left fun z hz => h z (List.mem_cons_of_mem _ hz) fun q => nd'.1 (e ▸ q ▸ hz)
      rw [e2, e, hw]; omega
    · have ih := sum_addAt (v := v) (w := w) (n := n) nd'.2 (by
        rcases List.mem_cons.mp ha with q | q
        · exact absurd q.symm e
        · exact q) (fun z hz => h z (List.mem_cons_of_mem _ hz)) hw
      rw [ih, h x (List.mem_cons_self ..) e]; omega
/-- what the first row adds -/
def addR (l h : Str → Str) (S : List Row) (g : Str → Str) (r : Row) : Nat := if firm (g r.fo) = true then (pot l h S).2 r.nm + un (h r.nm) (h r.fo) else min ((pot l h S).1 r.nm + un (l r.nm) (l r.fo)) ((pot l h S).2 r.nm + 1)
theorem sumP_cons {l h g : Str → Str} {r : Row} {S : List Row} {Pre : List Str} (nd : Pre.Nodup) (hfo : r.fo ∈ Pre) : sumP l h (r :: S) g Pre = sumP l h S g Pre + addR l h S g r := by
  refine sum_addAt nd hfo (fun z _ hz => ?_) ?_
  · unfold valP
    show (if firm (g z) = true then addAt _ r.fo _ z else addAt _ r.fo _ z) = _
    unfold addAt
    rw [if_neg hz, if_neg hz]
  · unfold valP addR
    show (if firm (g r.fo) = true then addAt _ r.fo _ r.fo else addAt _ r.fo _ r.fo) = _
    unfold addAt
    rw [if_pos rfl, if_pos rfl]
    split <;> rfl
theorem un_firm {a b : Str} (ha : firm a = true) (hb : firm b = false) : un a b = 1 := by
  unfold un
  rw [if_neg fun e => by rw [e, hb] at ha; cases ha]
theorem sumP_nil {l h g : Str → Str} : ∀ Pre : List Str, sumP l h [] g Pre = 0
  | [] => rfl
  | z :: Pre => by
    have ih := sumP_nil (l := l) (h := h) (g := g) Pre
    unfold sumP at ih ⊢
    rw [List.map_cons, List.sum_cons, ih]
    have e : valP l h [] g z = 0 := by
      unfold valP
      show (if firm (g z) = true then 0 else 0) = 0
      split <;> rfl
    rw [e]
/-- no map of the told form has fewer -/
theorem low_bound {l h g : Str → Str} (lh : LH l h) : ∀ (S : List Row) (Pre : List Str), Suf Pre S → (∀ z ∈ Pre, g z = l z ∨ g z = h z) → (∀ r ∈ S, OkR l h g r) → sumP l h S g Pre ≤ costR g S
  | [], Pre, _, _, _ => by
    rw [sumP_nil]
    exact Nat.zero_le _
  | r :: S, Pre, suf, hz, hok => by
    have hr := hok r (List.mem_cons_self ..)
    have ih := low_bound (g := g) lh S (Pre ++ [r.nm]) suf.next (fun z hz' => by
      rcases List.mem_append.mp hz' with e | e
      · exact hz z e
      · rw [List.mem_singleton.mp e]; exact hr.two) fun q hq => hok q (List.mem_cons_of_mem _ hq)
    have nd : Pre.Nodup := (List.nodup_append.mp suf.nd).1
    rw [sumP_cons nd suf.head]
    have e1 : sumP l h S g (Pre ++ [r.nm]) = sumP l h S g Pre + valP l h S g r.nm := by
      unfold sumP
      rw [List.map_append, List.sum_append]
      simp
    rw [e1] at ih
    have e2 : costR g (r :: S) = un (g r.nm) (g r.fo) + costR g S := by
      unfold costR
      rw [List.map_cons, List.sum_cons]
    rw [e2]
    have key : addR l h S g r ≤ un (g r.nm) (g r.fo) + valP l h S g r.nm := by
      unfold addR valP
      rcases hf : firm (g r.fo) with _ | _
      · have gf : g r.fo = l r.fo := by
          rcases hz _ suf.head with e | e
          · exact e
          · rw [e, lh.hard] at hf; cases hf
        rw [if_neg Bool.false_ne_true]
        rcases hr.two with e | e
        · rw [e, gf, lh.soft, if_neg Bool.false_ne_true]
          omega
        · rw [e, lh.hard, if_pos rfl, un_firm (lh.hard _) hf]
          omega
      · have gf : g r.fo = h r.fo := by
          rcases hz _ suf.head with e | e
          · rw [e, lh.soft] at hf; cases hf
          · exact e
        rw [if_pos rfl, hr.low hf, gf, lh.hard, if_pos rfl]
        omega
    omega
/-- the code's choice at a row, and for all rows -/
def gstep (l h : Str → Str) (S : List Row) (e : Str → Str) (r : Row) : Str → Str := fun z => if z = r.nm then (if firm (e r.fo) = true ∨ (pot l h S).2 r.nm + 1 < (pot l h S).1 r.nm + un (l r.nm) (e r.fo) then h r.nm else l r.nm) else e z
def greedy (l h : Str → Str) : List Row → (Str → Str) → (Str → Str)
  | [], e => e
  | r :: S, e => greedy l h S (gstep l h S e r)
theorem gstep_ne {l h : Str → Str} {S : List Row} {e : Str → Str} {r : Row} {z : Str} (hz : z ≠ r.nm) : gstep l h S e r z = e z := by
  unfold gstep; rw [if_neg hz]
theorem gstep_at {l h : Str → Str} {S : List Row} {e : Str → Str} {r : Row} : gstep l h S e r r.nm = (if firm (e r.fo) = true ∨ (pot l h S).2 r.nm + 1 < (pot l h S).1 r.nm + un (l r.nm) (e r.fo) then h r.nm else l r.nm) := by
  unfold gstep; rw [if_pos rfl]
theorem greedy_out {l h : Str → Str} : ∀ (S : List Row) (e : Str → Str) {z : Str}, z ∉ names S → greedy l h S e z = e z
  | [], _, _, _ => rfl
  | r :: S, e, z, hz => by
    show greedy l h S (gstep l h S e r) z = e z
    rw [greedy_out S _ fun q => hz (List.mem_cons_of_mem _ q)]
    exact gstep_ne fun q => hz (by rw [q]; exact List.mem_cons_self ..)
theorem Suf.sep {Pre : List Str} {r : Row} {S : List Row} (h : Suf Pre (r :: S)) : r.nm ∉ Pre ∧ r.nm ∉ names S ∧ Pre.Nodup ∧ (∀ z ∈ Pre, z ∉ names S) := by
  have hn := List.nodup_append.mp h.nd
  refine ⟨fun q => hn.2.2 _ q _ (List.mem_cons_self ..) rfl, (List.nodup_cons.mp hn.2.1).1, hn.1, fun z hz q => hn.2.2 _ hz _ (List.mem_cons_of_mem _ q) rfl⟩
theorem sumP_congr {l h g g' : Str → Str} {S : List Row} : ∀ {Pre : List Str}, (∀ z ∈ Pre, g z = g' z) → sumP l h S g Pre = sumP l h S g' Pre := fun {Pre} hg => by
  unfold sumP
  congr 1
  exact List.map_congr_left fun z hz => by unfold valP; rw [hg z hz]
theorem sumP_snoc {l h g : Str → Str} {S : List Row} {Pre : List Str} {z : Str} : sumP l h S g (Pre ++ [z]) = sumP l h S g Pre + valP l h S g z := by
  unfold sumP
  rw [List.map_append, List.sum_append]
  simp
theorem costR_cons {g : Str → Str} {r : Row} {S : List Row} : costR g (r :: S) = un (g r.nm) (g r.fo) + costR g S := by
  unfold costR
  rw [List.map_cons, List.sum_cons]
theorem gkey {l h e : Str → Str} {S : List Row} {r : Row} (lh : LH l h) (hz : e r.fo = l r.fo ∨ e r.fo = h r.fo) : un (gstep l h S e r r.nm) (e r.fo) + valP l h S (gstep l h S e r) r.nm = addR l h S e r := by
    unfold addR valP
    rw [gstep_at]
    rcases hf : firm (e r.fo) with _ | _
    · have gf : e r.fo = l r.fo := by
        rcases hz with q | q
        · exact q
        · rw [q, lh.hard] at hf; cases hf
      rw [if_neg Bool.false_ne_true]
      by_cases c : (pot l h S).2 r.nm + 1 < (pot l h S).1 r.nm + un (l r.nm) (e r.fo)
      · rw [if_pos (.inr c), lh.hard, if_pos rfl, un_firm (lh.hard _) hf]
        rw [gf] at c
        omega
      · rw [if_neg (fun q => q.elim (fun q => by cases q) c), lh.soft, if_neg Bool.false_ne_true]
        rw [gf] at c ⊢
        omega
    · have gf : e r.fo = h r.fo := by
        rcases hz with q | q
        · rw [q, lh.soft] at hf; cases hf
        · exact q
      rw [if_pos rfl, if_pos (.inl rfl), lh.hard, if_pos rfl, gf]
      omega
/-- the code's choice has as few as told -/
theorem greedy_cost {l h : Str → Str} (lh : LH l h) : ∀ (S : List Row) (Pre : List Str) (e : Str → Str), Suf Pre S → (∀ z ∈ Pre, e z = l z ∨ e z = h z) → costR (greedy l h S e) S = sumP l h S e Pre
  | [], Pre, _, _, _ => by rw [sumP_nil]; rfl
  | r :: S, Pre, e, suf, hz => by
    obtain ⟨n1, n2, nd, n3⟩ := suf.sep
    have hfo := suf.head
    have nfr : r.fo ≠ r.nm := fun q => n1 (q ▸ hfo)
    have two : gstep l h S e r r.nm = l r.nm ∨ gstep l h S e r r.nm = h r.nm := by
      rw [gstep_at]
      split
      · exact .inr rfl
      · exact .inl rfl
    have keep : ∀ z ∈ Pre, gstep l h S e r z = e z := fun z hz' => gstep_ne fun q => n1 (q ▸ hz')
    have ih := greedy_cost lh S (Pre ++ [r.nm]) (gstep l h S e r) suf.next fun z hz' => by
      rcases List.mem_append.mp hz' with q | q
      · rw [keep z q]; exact hz z q
      · rw [List.mem_singleton.mp q]; exact two
    show costR (greedy l h S (gstep l h S e r)) (r :: S) = _
    rw [costR_cons, ih, sumP_snoc, sumP_congr keep, sumP_cons nd hfo, greedy_out S _ n2, greedy_out S _ (n3 _ hfo), gstep_ne nfr]
    have key := gkey (S := S) lh (hz _ hfo)
    omega
theorem gtwo {l h e : Str → Str} {S : List Row} {r : Row} : gstep l h S e r r.nm = l r.nm ∨ gstep l h S e r r.nm = h r.nm := by
  rw [gstep_at]
  split
  · exact .inr rfl
  · exact .inl rfl
theorem greedy_two {l h : Str → Str} : ∀ (S : List Row) (Pre : List Str) (e : Str → Str), Suf Pre S → (∀ z ∈ Pre, e z = l z ∨ e z = h z) → ∀ z, z ∈ Pre ∨ z ∈ names S → greedy l h S e z = l z ∨ greedy l h S e z = h z
  | [], Pre, e, _, hz, z, hm => hm.elim (hz z) (fun q => by cases q)
  | r :: S, Pre, e, suf, hz, z, hm => by
    obtain ⟨n1, n2, nd, n3⟩ := suf.sep
    refine greedy_two S (Pre ++ [r.nm]) (gstep l h S e r) suf.next (fun y hy => ?_) z ?_
    · rcases List.mem_append.mp hy with q | q
      · rw [gstep_ne fun w => n1 (w ▸ q)]; exact hz y q
      · rw [List.mem_singleton.mp q]; exact gtwo
    · rcases hm with q | q
      · exact .inl (List.mem_append_left _ q)
      · rcases List.mem_cons.mp q with q | q
        · exact .inl (List.mem_append_right _ (List.mem_singleton.mpr q))
        · exact .inr q
theorem greedy_ok {l h : Str → Str} : ∀ (S : List Row) (Pre : List Str) (e : Str → Str), Suf Pre S → (∀ z ∈ Pre, e z = l z ∨ e z = h z) → ∀ r ∈ S, OkR l h (greedy l h S e) r
  | [], _, _, _, _, r, hr => by cases hr
  | r :: S, Pre, e, suf, hz, q, hq => by
    obtain ⟨n1, n2, nd, n3⟩ := suf.sep
    have hfo := suf.head
    have nfr : r.fo ≠ r.nm := fun q => n1 (q ▸ hfo)
    have hz' : ∀ y ∈ Pre ++ [r.nm], gstep l h S e r y = l y ∨ gstep l h S e r y = h y := fun y hy => by
      rcases List.mem_append.mp hy with q | q
      · rw [gstep_ne fun w => n1 (w ▸ q)]; exact hz y q
      · rw [List.mem_singleton.mp q]; exact gtwo
    rcases List.mem_cons.mp hq with rfl | hq
    · show OkR l h (greedy l h S (gstep l h S e q)) q
      refine ⟨fun hf => ?_, ?_⟩
      · rw [greedy_out S _ (n3 _ hfo), gstep_ne nfr] at hf
        rw [greedy_out S _ n2, gstep_at, if_pos (.inl hf)]
      · rw [greedy_out S _ n2]; exact gtwo
    · exact greedy_ok S (Pre ++ [r.nm]) (gstep l h S e r) suf.next hz' q hq
/-- of all that have as few the code's choice comes first: where another first differs, it is hard and the code's soft -/
theorem greedy_first {l h g : Str → Str} (lh : LH l h) : ∀ (S : List Row) (Pre : List Str) (e : Str → Str), Suf Pre S → (∀ z ∈ Pre, e z = l z ∨ e z = h z) → (∀ z ∈ Pre, g z = e z) → (∀ r ∈ S, OkR l h g r) → costR g S ≤ sumP l h S e Pre →
    ∀ (i : Nat) (r : Row), S[i]? = some r → (∀ (j : Nat) (q : Row), j < i → S[j]? = some q → g q.nm = greedy l h S e q.nm) → g r.nm ≠ greedy l h S e r.nm → greedy l h S e r.nm = l r.nm ∧ g r.nm = h r.nm
  | [], _, _, _, _, _, _, _, i, r, hi, _, _ => by simp at hi
  | r :: S, Pre, e, suf, hz, hg, hok, hc, i, q, hi, hb, hd => by
    obtain ⟨n1, n2, nd, n3⟩ := suf.sep
    have hfo := suf.head
    have nfr : r.fo ≠ r.nm := fun q => n1 (q ▸ hfo)
    have hr := hok r (List.mem_cons_self ..)
    have keep : ∀ z ∈ Pre, gstep l h S e r z = e z := fun z hz' => gstep_ne fun q => n1 (q ▸ hz')
    have hz' : ∀ y ∈ Pre ++ [r.nm], gstep l h S e r y = l y ∨ gstep l h S e r y = h y := fun y hy => by
      rcases List.mem_append.mp hy with q | q
      · rw [keep y q]; exact hz y q
      · rw [List.mem_singleton.mp q]; exact gtwo
    have hgz : ∀ y ∈ Pre ++ [r.nm], g y = l y ∨ g y = h y := fun y hy => by
      rcases List.mem_append.mp hy with q | q
      · rw [hg y q]; exact hz y q
      · rw [List.mem_singleton.mp q]; exact hr.two
    have lb := low_bound (g := g) lh S (Pre ++ [r.nm]) suf.next hgz fun q hq => hok q (List.mem_cons_of_mem _ hq)
    rw [sumP_snoc, sumP_congr hg] at lb
    rw [costR_cons, sumP_cons nd hfo, hg _ hfo] at hc
    have eG : greedy l h (r :: S) e r.nm = gstep l h S e r r.nm := greedy_out S _ n2
    match i, hi with
    | 0, hi =>
      cases hi
      rw [eG] at hd ⊢
      rcases hr.two with g1 | g1
      · exfalso
        rw [gstep_at] at hd
        by_cases c : firm (e r.fo) = true ∨ (pot l h S).2 r.nm + 1 < (pot l h S).1 r.nm + un (l r.nm) (e r.fo)
        · rcases c with c | c
          · have := hr.low (by rw [hg _ hfo]; exact c)
            rw [if_pos (.inl c)] at hd
            exact hd this
          · have gf : firm (e r.fo) = false := by
              rcases hf : firm (e r.fo) with _ | _
              · rfl
              · have := hr.low (by rw [hg _ hfo]; exact hf)
                rw [if_pos (.inr c)] at hd
                exact absurd this hd
            have ef : e r.fo = l r.fo := by
              rcases hz _ hfo with q | q
              · exact q
              · rw [q, lh.hard] at gf; cases gf
            unfold valP at lb
            unfold addR at hc
            rw [g1, lh.soft, if_neg Bool.false_ne_true] at lb
            rw [g1, gf, if_neg Bool.false_ne_true] at hc
            rw [ef] at c hc
            omega
        · rw [if_neg c] at hd
          exact hd g1
      · refine ⟨?_, g1⟩
        rcases gtwo (l := l) (h := h) (S := S) (e := e) (r := r) with q | q
        · exact q
        · exact absurd (g1.trans q.symm) hd
    | i + 1, hi =>
      have e0 : g r.nm = gstep l h S e r r.nm := by
        rw [← eG]; exact hb 0 r (Nat.zero_lt_succ _) rfl
      have key := gkey (S := S) lh (hz _ hfo)
      refine greedy_first lh S (Pre ++ [r.nm]) (gstep l h S e r) suf.next hz' (fun z hz1 => ?_) (fun q hq => hok q (List.mem_cons_of_mem _ hq)) ?_ i q (by simpa using hi) (fun j p hj hp => hb (j + 1) p (Nat.succ_lt_succ hj) (by simpa using hp)) hd
      · rcases List.mem_append.mp hz1 with w | w
        · rw [keep z w]; exact hg z w
        · rw [List.mem_singleton.mp w]; exact e0
      · rw [sumP_snoc, sumP_congr keep]
        rw [e0] at hc
        omega
end Ts

set_option maxRecDepth 100000
set_option maxHeartbeats 4000000
namespace Ts
open PySem L2
def kvN (A : Str → Nat) (l : List Str) : List (Key × V) := kvX (fun z => .int (A z : Nat)) l
def spUnlike : Sp := fun vs H Q _ => ∃ a b : Str, vs = [.str a, .str b] ∧ Q (.int (un a b : Nat)) H
def spCounts (C : Addr) : Sp := fun vs H Q _ => ∃ (t a b : Addr) (rs : List Row) (l h : Str → Str), vs = [.ref t, .ref a, .ref b] ∧ TreeAt C H t rs ∧ rs.length ≤ 90 ∧ H a = some (.dK (kvS l (plc rs))) ∧ H b = some (.dK (kvS h (plc rs))) ∧
  ∀ T A B H', Same H H' → H A = none → H B = none → H' T = some (.tup [.ref A, .ref B]) → H' A = some (.dK (kvN (pot l h rs).1 (plc rs))) → H' B = some (.dK (kvN (pot l h rs).2 (plc rs))) → Q (.ref T) H'
theorem kvN_put {A : Str → Nat} {l : List Str} {z : Str} {m : Int} {n : Nat} (hz : z ∈ l) (hm : m = ((A z + n : Nat) : Int)) : putK (kvN A l) (.inr z) (.int m) = kvN (addAt A z n) l := by
  unfold kvN
  rw [kvX_put hz]
  congr 1
  funext x
  unfold addAt
  by_cases e : x = z
  · rw [if_pos e, if_pos e, e, hm]
  · rw [if_neg e, if_neg e]
theorem kvN_get {A : Str → Nat} {l : List Str} {z : Str} (hz : z ∈ l) {H : Hp} {d : Addr} (e : H d = some (.dK (kvN A l))) : DGet H d (.str z) (some (.int (A z : Nat))) := .inl ⟨_, .inr z, .inl e, rfl, (valV_kvX (fun z => V.int (A z : Nat)) hz).symm⟩
theorem drop_at {rs : List Row} {i : Nat} (hi : i < rs.length) : ∃ R, rs[rs.length - 1 - i]? = some R ∧ rs.drop (rs.length - (i + 1)) = R :: rs.drop (rs.length - i) := by
  refine ⟨rs[rs.length - 1 - i]'(by omega), List.getElem?_eq_getElem _, ?_⟩
  have e : rs.length - (i + 1) = rs.length - 1 - i := by omega
  have e2 : rs.length - i = rs.length - 1 - i + 1 := by omega
  rw [e, e2]
  exact List.drop_eq_getElem_cons _
section
variable {P : Program} {w : World} {K : PySem.W.Frag} {mg : Str → Option Value} {base : Heap} {C : Addr}
theorem sc_unlike : FnScope ["one", "other"] ["one", "other"] (defScope s_unlike) := ⟨rfl, rfl, rfl, by decide +kernel, rfl, by decide +kernel, by decide +kernel⟩
theorem ok_unlike (D : DefAt K mg "unlike" s_unlike ["one", "other"]) : FnOk P w K mg base CX0 2 D.f D.fd ["one", "other"] spUnlike := by
  refine D.F.ok sc_unlike (fun vs H Q E h => ?_) (fun cdv A outer s H vs Q E hr h => ?_)
  · obtain ⟨a, b, rfl, _⟩ := h
    rfl
  · obtain ⟨a, b, rfl, hq⟩ := h
    refine ⟨_, pss_one (ps_ret (pe_ifExp (pt_cmpR op_eq (pv 0) (pv 1) (nomark _)) pe_int pe_int)), ?_⟩
    refine ⟨_, rfl, _, rfl, rfl, _, rfl, ?_⟩
    refine ite2 (fun c => ?_) (fun c => ?_)
    · have e : a = b := V.str.inj (of_decide_eq_true c)
      have : un a b = 0 := by unfold un; rw [if_pos e]
      rw [this] at hq
      exact hq
    · have e : a ≠ b := fun e => c (decide_eq_true (congrArg V.str e))
      have : un a b = 1 := by unfold un; rw [if_neg e]
      rw [this] at hq
      exact hq
abbrev nCounts : List Str := ["tree", "loose", "firm", "if_loose", "if_firm", "box", "folder", "place"]
theorem sc_counts : FnScope nCounts ["tree", "loose", "firm"] (defScope s_entry_counts) := ⟨rfl, rfl, rfl, by decide +kernel, rfl, by decide +kernel, by decide +kernel⟩
theorem ok_counts (D : DefAt K mg "entry_counts" s_entry_counts ["tree", "loose", "firm"]) (hMin : mg "min" = none) (TC : TxC K mg) (T : TxT K mg C) (Du : DefAt K mg "unlike" s_unlike ["one", "other"])
    (mB : MethAt K C "below" "Tree.below" s_Tree_below ["self", "box"]) (GB : FnOk P w K mg base CX0 5 mB.f mB.fd ["self", "box"] (spListOf C belowL))
    (mF : MethAt K C "folder" "Tree.folder" s_Tree_folder ["self", "box"]) (GF : FnOk P w K mg base CX0 4 mF.f mF.fd ["self", "box"] (spGet C fun r => .str r.fo)) : FnOk P w K mg base CX0 6 D.f D.fd ["tree", "loose", "firm"] (spCounts C) := by
  have Gu : FnOk P w K mg base CX0 2 Du.f Du.fd ["one", "other"] spUnlike := ok_unlike Du
  obtain ⟨t1, gT⟩ := TC.top
  refine D.F.ok sc_counts (fun vs H Q E h => ?_) (fun cdv A outer s H vs Q E hr h => ?_)
  · obtain ⟨t, a, b, rs, l, h, rfl, _⟩ := h
    rfl
  · obtain ⟨t, a, b, rs, l, h, rfl, ht, hl, ha, hb, hq⟩ := h
    have hu := hu_of hr
    have h64 := hr.units
    have r4 : Room 4 _ := hr.mono (by decide)
    have r2 : Room 2 _ := hr.mono (by decide)
    have hu1 : (A.deeper (PyProof.Rows.envOfC ("entry_counts" : Str) (defScope s_entry_counts) s.heap.objs.size D.f cdv)).units + 1 < cLine := by omega
    refine ⟨_, pss_cons (ps_lock (ps_setDc (i := 3) (own := [("place", 7)]) (g := gName 7) (tt := tYes) (tk := tVar 7) (tv := tC (.int 0)) rfl sc_counts.nd rfl rfl (swd_true rfl rfl rfl (by decide +kernel)) (pi_keys (pv 1)) (blkOk_by (N := nCounts) (sc := defScope s_entry_counts) (by decide +kernel))
          (fun _ _ _ _ _ => pg_name (i := 7) sc_counts.nd rfl (Or.inl rfl)) (fun _ _ _ _ _ => pts_nil) (fun _ _ _ _ _ => pv 7) (fun _ _ _ _ _ => pe_int)))
      (pss_cons (ps_lock (ps_setDc (i := 4) (own := [("place", 7)]) (g := gName 7) (tt := tYes) (tk := tVar 7) (tv := tC (.int 0)) rfl sc_counts.nd rfl rfl (swd_true rfl rfl rfl (by decide +kernel)) (pi_keys (pv 2)) (blkOk_by (N := nCounts) (sc := defScope s_entry_counts) (by decide +kernel))
          (fun _ _ _ _ _ => pg_name (i := 7) sc_counts.nd rfl (Or.inl rfl)) (fun _ _ _ _ _ => pts_nil) (fun _ _ _ _ _ => pv 7) (fun _ _ _ _ _ => pe_int)))
      (pss_cons (ps_for PassesOwn.never rfl (pi_list (pe_revL (pe_meth (pv 0) T.cl mB.m GB hr mB.b .nil pass0 (pa_cons (pe_glob (by rfl) gT (v := .str ("top" : Str)) ⟨_, rfl⟩) pa_nil)))) (pg_name (i := 5) sc_counts.nd rfl (.inl rfl))
          (pss_cons (ps_set (i := 6) sc_counts.nd rfl (.inl rfl) (pe_meth (pv 0) T.cl mF.m GF r4 mF.b .nil pass0 (pa_cons (pv 5) pa_nil)))
          (pss_cons (ps_daug hu1 (pv 3) (pv 6) (pe_callB (call_min2 rfl) (by rfl) hMin (by decide +kernel) (pa_cons (pe_op op_add (pe_dget hu (pv 3) (pv 5) (fun _ _ => rfl)) (pe_call Gu r2 rfl Du.g Du.F.kp Du.b .nil pass0 (pa_cons (pe_dget hu (pv 1) (pv 5) (fun _ _ => rfl)) (pa_cons (pe_dget hu (pv 1) (pv 6) (fun _ _ => rfl)) pa_nil)))) (pa_cons (pe_op op_add (pe_dget hu (pv 4) (pv 5) (fun _ _ => rfl)) pe_int) pa_nil))) in_add (by intros; rfl))
          (pss_one (ps_daug hu1 (pv 4) (pv 6) (pe_op op_add (pe_dget hu (pv 4) (pv 5) (fun _ _ => rfl)) (pe_call Gu r2 rfl Du.g Du.F.kp Du.b .nil pass0 (pa_cons (pe_dget hu (pv 2) (pv 5) (fun _ _ => rfl)) (pa_cons (pe_dget hu (pv 2) (pv 6) (fun _ _ => rfl)) pa_nil)))) in_add (by intros; rfl))))))
      (pss_one (ps_ret (pe_tup (pa_cons (pv 3) (pa_cons (pv 4) pa_nil))))))), ?_⟩
    have hv := ht.val
    have nd := plc_nd hv
    have lpl : (plc rs).length ≤ 91 := by rw [plc_len']; omega
    obtain ⟨dx, q, f, k, p, qs, h1, _⟩ := id ht.ex
    have noB : (tf q f k p).lookup ("below" : Str) = none := tf_no _ _ _ _ (by decide +kernel) (by decide +kernel) (by decide +kernel) (by decide +kernel)
    have noF : (tf q f k p).lookup ("folder" : Str) = none := tf_no _ _ _ _ (by decide +kernel) (by decide +kernel) (by decide +kernel) (by decide +kernel)
    refine ⟨a, _, ha, trivial, fun od => ?_⟩
    have lkD1 : (upd H a (.frz od (.dK (kvS l (plc rs))))) a = some (.frz od (.dK (kvS l (plc rs)))) := upd_same
    obtain ⟨HlD1, ElD1⟩ : ∃ Hx, Hx = upd H a (.frz od (.dK (kvS l (plc rs)))) := ⟨_, rfl⟩
    rw [← ElD1]
    rw [← ElD1] at lkD1
    refine ⟨_, rfl, a, od, rfl, .inl ⟨_, lkD1, fun D1 hD1 => ?_⟩⟩
    have nD1 : D1 ≠ a := (ne_of_none lkD1 hD1).symm
    refine dc_it (walk_keys (d := a) (o := od) (kvs := kvS l (plc rs))) (fun i H' => Same HlD1 H' ∧ H' D1 = some (.dK (kvN (fun _ => 0) ((plc rs).take i)))) ⟨Same.new hD1, upd_same⟩ (fun i H' _ m => m.1 _ _ lkD1) ?_ ?_
    · rintro i x H5x H5 hi ⟨s5, hD5⟩ ⟨rfl, k', v', hk, rfl⟩
      obtain ⟨z, rfl, hz, rfl⟩ := kvS_at hk
      refine ⟨rfl, tYes_if ⟨_, rfl, _, .inr z, rfl, hD5, small1000 (by unfold kvN; rw [kvX_len, List.length_take]; omega), fun b o eb => ?_, ?_⟩⟩
      · rw [upd_ne (fun y => by rw [y, hD1] at eb; cases eb)]
        exact s5 _ _ eb
      · rw [upd_same]
        exact congrArg _ (congrArg _ (kvX_more nd (fun _ => V.int ((0 : Nat) : Int)) hz))
    rintro H5 ⟨s5, hD5⟩
    have el : (kvS l (plc rs)).length = (plc rs).length := by unfold kvS; rw [kvX_len]
    rw [el, List.take_length] at hD5
    refine ⟨s5 _ _ lkD1, ?_⟩
    rw [ElD1] at s5
    have sH6 := lock_backE ha s5
    have eD1 : (upd H5 a (.dK (kvS l (plc rs)))) D1 = some (.dK (kvN (fun _ => 0) (plc rs))) := by rw [upd_ne nD1]; exact hD5
    generalize upd H5 a (.dK (kvS l (plc rs))) = H6 at sH6 eD1
    have hb6 := sH6 _ _ hb
    refine ⟨b, _, hb6, trivial, fun od => ?_⟩
    have lkD2 : (upd H6 b (.frz od (.dK (kvS h (plc rs))))) b = some (.frz od (.dK (kvS h (plc rs)))) := upd_same
    obtain ⟨HlD2, ElD2⟩ : ∃ Hx, Hx = upd H6 b (.frz od (.dK (kvS h (plc rs)))) := ⟨_, rfl⟩
    rw [← ElD2]
    rw [← ElD2] at lkD2
    refine ⟨_, rfl, b, od, rfl, .inl ⟨_, lkD2, fun D2 hD2 => ?_⟩⟩
    have nD2 : D2 ≠ b := (ne_of_none lkD2 hD2).symm
    refine dc_it (walk_keys (d := b) (o := od) (kvs := kvS h (plc rs))) (fun i H' => Same HlD2 H' ∧ H' D2 = some (.dK (kvN (fun _ => 0) ((plc rs).take i)))) ⟨Same.new hD2, upd_same⟩ (fun i H' _ m => m.1 _ _ lkD2) ?_ ?_
    · rintro i x H5x H5 hi ⟨s5, hD5⟩ ⟨rfl, k', v', hk, rfl⟩
      obtain ⟨z, rfl, hz, rfl⟩ := kvS_at hk
      refine ⟨rfl, tYes_if ⟨_, rfl, _, .inr z, rfl, hD5, small1000 (by unfold kvN; rw [kvX_len, List.length_take]; omega), fun b o eb => ?_, ?_⟩⟩
      · rw [upd_ne (fun y => by rw [y, hD2] at eb; cases eb)]
        exact s5 _ _ eb
      · rw [upd_same]
        exact congrArg _ (congrArg _ (kvX_more nd (fun _ => V.int ((0 : Nat) : Int)) hz))
    rintro H5 ⟨s5, hD5⟩
    have el : (kvS h (plc rs)).length = (plc rs).length := by unfold kvS; rw [kvX_len]
    rw [el, List.take_length] at hD5
    refine ⟨s5 _ _ lkD2, ?_⟩
    rw [ElD2] at s5
    have sH8 := lock_backE hb6 s5
    have eD2 : (upd H5 b (.dK (kvS h (plc rs)))) D2 = some (.dK (kvN (fun _ => 0) (plc rs))) := by rw [upd_ne nD2]; exact hD5
    generalize upd H5 b (.dK (kvS h (plc rs))) = H8 at sH8 eD2
    have s08 := sH6.trans sH8
    have eD1' := sH8 _ _ eD1
    have fD1 : H D1 = none := by
      have := hD1
      rw [ElD1, upd_ne nD1] at this
      exact this
    have fD2 : H6 D2 = none := by
      have := hD2
      rw [ElD2, upd_ne nD2] at this
      exact this
    have n12 : D1 ≠ D2 := ne_of_none eD1 fD2
    have fD2' : H D2 = none := sH6.free fD2
    clear lkD1 lkD2 ElD1 ElD2 hD1 hD2 eD1
    have ht8 := ht.same s08
    have ha8 := s08 _ _ ha
    have hb8 := s08 _ _ hb
    -- backwards
    refine ⟨_, rfl, t, dx, _, rfl, s08 _ _ h1, noB, t, ("top" : Str), rs, rfl, ht8, .inl rfl, fun bl H9 hbl s9 e9 => ⟨bl, _, rfl, SqL.of e9, fun rl hrl => ⟨rl, rfl, ⟨_, SqL.of upd_same⟩, ?_⟩⟩⟩
    rw [below_top hv] at e9 ⊢
    have s10 : Same H8 (upd H9 rl (.lst ((names rs).map V.str).reverse)) := s9.trans (Same.new hrl)
    have e10 : (upd H9 rl (.lst ((names rs).map V.str).reverse)) rl = some (.lst ((names rs).map V.str).reverse) := upd_same
    generalize upd H9 rl (.lst ((names rs).map V.str).reverse) = H10 at s10 e10
    have nr1 : rl ≠ D1 := fun e => by rw [e, s10 _ _ eD1'] at e10; cases e10
    have nr2 : rl ≠ D2 := fun e => by rw [e, s10 _ _ eD2] at e10; cases e10
    have len : (((names rs).map V.str).reverse).length = rs.length := by unfold names; simp
    refine for_list (K := K) (a := rl) (xs := ((names rs).map V.str).reverse) (fun i σ H' => ∃ v5 v6 : Option V, σ = [some (.ref t), some (.ref a), some (.ref b), some (.ref D1), some (.ref D2), v5, v6, none] ∧ (∀ c o, c ≠ D1 → c ≠ D2 → H10 c = some o → H' c = some o) ∧ H' D1 = some (.dK (kvN (pot l h (rs.drop (rs.length - i))).1 (plc rs))) ∧ H' D2 = some (.dK (kvN (pot l h (rs.drop (rs.length - i))).2 (plc rs)))) ⟨_, _, rfl, fun c o _ _ e => e, by rw [Nat.sub_zero, List.drop_length]; exact s10 _ _ eD1', by rw [Nat.sub_zero, List.drop_length]; exact s10 _ _ eD2⟩ (fun i σ H' _ ⟨_, _, _, kp, _⟩ => SqL.of (kp _ _ nr1 nr2 e10)) ?_ ?_
    · rintro i x σ H11 hx ⟨v5, v6, rfl, kp, eA, eB⟩
      have hi : i < rs.length := by rw [← len]; exact (List.getElem?_eq_some_iff.mp hx).1
      obtain ⟨R, hR, hdr⟩ := drop_at hi
      have ex : x = .str R.nm := by
        rw [List.getElem?_reverse (by rw [← List.length_reverse, len]; exact hi)] at hx
        have e1 : ((names rs).map V.str).length - 1 - i = rs.length - 1 - i := by unfold names; rw [List.length_map, List.length_map]
        rw [e1, List.getElem?_map] at hx
        unfold names at hx
        rw [List.getElem?_map, hR] at hx
        exact (Option.some.inj hx).symm
      subst ex
      have hRm := List.mem_of_getElem? hR
      have ho : ∀ {c : Addr} {o : HO}, H c = some o → H11 c = some o := fun {c o} e => kp _ _ (ne_of_none e fD1) (ne_of_none e fD2') (s10 _ _ (s08 _ _ e))
      have ht11 : TreeAt C H11 t rs := ht.same fun c o e => ho e
      have hfo : R.fo ∈ plc rs := mem_plc.mpr (hv.foAll hRm)
      have hnm : R.nm ∈ plc rs := mem_plc.mpr (.inr (List.mem_map.mpr ⟨R, hRm, rfl⟩))
      refine ⟨_, rfl, t, dx, _, rfl, ho h1, noF, _, rfl, t, R.nm, rs, R, rfl, ht11, rowOf_at hv hR, ?_⟩
      have dgl : ∀ {H' : Hp} {z : Str}, H' a = some (.dK (kvS l (plc rs))) → z ∈ plc rs → DGet H' a (.str z) (some (.str (l z))) := fun {H' z} e hz => .inl ⟨_, .inr z, .inl e, rfl, (valV_kvX (fun z => V.str (l z)) hz).symm⟩
      have dgh : ∀ {H' : Hp} {z : Str}, H' b = some (.dK (kvS h (plc rs))) → z ∈ plc rs → DGet H' b (.str z) (some (.str (h z))) := fun {H' z} e hz => .inl ⟨_, .inr z, .inl e, rfl, (valV_kvX (fun z => V.str (h z)) hz).symm⟩
      refine ⟨_, rfl, _, rfl, D1, _, rfl, kvN_get hfo eA, _, rfl, _, rfl, D1, _, rfl, kvN_get hnm eA, _, rfl, _, rfl, a, _, rfl, dgl (ho ha) hnm, _, rfl, _, rfl, a, _, rfl, dgl (ho ha) hfo, l R.nm, l R.fo, rfl, _, _, rfl, rfl, _, rfl, _, rfl, D2, _, rfl, kvN_get hnm eB, _, _, rfl, rfl, _, _, rfl, _, _, rfl, rfl, _, .inl ⟨_, .inr R.fo, eA, rfl, ?_, rfl⟩, ?_⟩
      · unfold kvN; exact small1000 (by rw [kvX_len]; omega)
      rw [kvN_put (n := min ((pot l h (rs.drop (rs.length - i))).1 R.nm + un (l R.nm) (l R.fo)) ((pot l h (rs.drop (rs.length - i))).2 R.nm + 1)) hfo (by split <;> omega)]
      generalize hS : rs.drop (rs.length - i) = S at eA eB hdr
      obtain ⟨H12, E12⟩ : ∃ Hx, Hx = upd H11 D1 (.dK (kvN (addAt (pot l h S).1 R.fo (min ((pot l h S).1 R.nm + un (l R.nm) (l R.fo)) ((pot l h S).2 R.nm + 1))) (plc rs))) := ⟨_, rfl⟩
      rw [← E12]
      have eA12 : H12 D1 = some (.dK (kvN (pot l h (R :: S)).1 (plc rs))) := by rw [E12, upd_same]; rfl
      have eB12 : H12 D2 = some (.dK (kvN (pot l h S).2 (plc rs))) := by rw [E12, upd_ne n12.symm]; exact eB
      have kp12 : ∀ c o, c ≠ D1 → c ≠ D2 → H10 c = some o → H12 c = some o := fun c o h1 h2 e => by rw [E12, upd_ne h1]; exact kp c o h1 h2 e
      clear E12 eA eB kp ho ht11
      have ho : ∀ {c : Addr} {o : HO}, H c = some o → H12 c = some o := fun {c o} e => kp12 _ _ (ne_of_none e fD1) (ne_of_none e fD2') (s10 _ _ (s08 _ _ e))
      refine ⟨_, rfl, _, rfl, D2, _, rfl, kvN_get hfo eB12, _, rfl, _, rfl, D2, _, rfl, kvN_get hnm eB12, _, rfl, _, rfl, b, _, rfl, dgh (ho hb) hnm, _, rfl, _, rfl, b, _, rfl, dgh (ho hb) hfo, h R.nm, h R.fo, rfl, _, _, rfl, rfl, _, _, rfl, rfl, _, .inl ⟨_, .inr R.fo, eB12, rfl, ?_, rfl⟩, ?_⟩
      · unfold kvN; exact small1000 (by rw [kvX_len]; omega)
      rw [kvN_put (n := (pot l h S).2 R.nm + un (h R.nm) (h R.fo)) hfo (by omega)]
      refine ⟨_, _, rfl, fun c o h1 h2 e => ?_, ?_, ?_⟩
      · rw [upd_ne h2]; exact kp12 c o h1 h2 e
      · rw [hdr, upd_ne n12]; exact eA12
      · rw [hdr, upd_same]; rfl
    · rintro σ H11 ⟨v5, v6, rfl, kp, eA, eB⟩
      rw [len, Nat.sub_self, List.drop_zero] at eA eB
      refine ⟨_, rfl, _, rfl, (by show 2 ≤ sizeLine; decide), fun T hT => ?_⟩
      have nT1 : D1 ≠ T := ne_of_none eA hT
      have nT2 : D2 ≠ T := ne_of_none eB hT
      exact hq T D1 D2 _ (fun c o e => by
        rw [upd_ne (ne_of_none (kp _ _ (ne_of_none e fD1) (ne_of_none e fD2') (s10 _ _ (s08 _ _ e))) hT)]
        exact kp _ _ (ne_of_none e fD1) (ne_of_none e fD2') (s10 _ _ (s08 _ _ e))) fD1 fD2' upd_same (by rw [upd_ne nT1]; exact eA) (by rw [upd_ne nT2]; exact eB)
end
end Ts

set_option maxRecDepth 100000
set_option maxHeartbeats 4000000
namespace Ts
open PySem L2
theorem pot_ne {l h : Str → Str} {q : Row} {S : List Row} {z : Str} (hz : z ≠ q.fo) : (pot l h (q :: S)).1 z = (pot l h S).1 z ∧ (pot l h (q :: S)).2 z = (pot l h S).2 z := by
  refine ⟨?_, ?_⟩
  · show addAt _ q.fo _ z = _
    unfold addAt; rw [if_neg hz]
  · show addAt _ q.fo _ z = _
    unfold addAt; rw [if_neg hz]
theorem Suf.nm_out {Pre : List Str} {S : List Row} (h : Suf Pre S) {r : Row} (hr : r ∈ S) : r.nm ∉ Pre := fun q =>
  (List.nodup_append.mp h.nd).2.2 _ q _ (List.mem_map.mpr ⟨r, hr, rfl⟩) rfl
theorem pot_at {l h : Str → Str} : ∀ (S : List Row) (Pre : List Str), Suf Pre S → ∀ (i : Nat) (r : Row), S[i]? = some r → (pot l h S).1 r.nm = (pot l h (S.drop (i + 1))).1 r.nm ∧ (pot l h S).2 r.nm = (pot l h (S.drop (i + 1))).2 r.nm
  | [], _, _, i, r, hi => by simp at hi
  | q :: S, Pre, suf, i, r, hi => by
    have hn : r.nm ≠ q.fo := fun e => suf.nm_out (List.mem_of_getElem? hi) (e ▸ suf.head)
    have e := pot_ne (l := l) (h := h) (S := S) hn
    match i, hi with
    | 0, hi => cases hi; exact e
    | i + 1, hi =>
      have ih := pot_at (l := l) (h := h) S _ suf.next i r (by simpa using hi)
      rw [e.1, e.2, List.drop_succ_cons]
      exact ih
theorem greedy_at {l h : Str → Str} : ∀ (S : List Row) (Pre : List Str) (e : Str → Str), Suf Pre S → ∀ (i : Nat) (r : Row), S[i]? = some r →
    greedy l h S e r.nm = (if firm (greedy l h S e r.fo) = true ∨ (pot l h (S.drop (i + 1))).2 r.nm + 1 < (pot l h (S.drop (i + 1))).1 r.nm + un (l r.nm) (greedy l h S e r.fo) then h r.nm else l r.nm)
  | [], _, _, _, i, r, hi => by simp at hi
  | q :: S, Pre, e, suf, i, r, hi => by
    obtain ⟨n1, n2, nd, n3⟩ := suf.sep
    match i, hi with
    | 0, hi =>
      cases hi
      have nfr : q.fo ≠ q.nm := fun y => n1 (y ▸ suf.head)
      have a1 : greedy l h (q :: S) e q.nm = gstep l h S e q q.nm := greedy_out S _ n2
      have a2 : greedy l h (q :: S) e q.fo = e q.fo := (greedy_out S _ (n3 _ suf.head)).trans (gstep_ne nfr)
      rw [a1, a2, gstep_at]
      rfl
    | i + 1, hi =>
      have ih := greedy_at (l := l) (h := h) S _ (gstep l h S e q) suf.next i r (by simpa using hi)
      rw [List.drop_succ_cons]
      exact ih
/-- the top as a row of its own -/
def topR : Row := ⟨"top", "", "folder", none⟩
theorem suf_top {rs : List Row} (hv : Valid rs) : Suf [("" : Str)] (topR :: rs) := by
  have ne : ∀ r ∈ rs, r.nm ≠ ("" : Str) := fun r hr e => by
    obtain ⟨i, hi, er⟩ := List.mem_iff_getElem.mp hr
    have := (hv i r (by rw [← er]; exact List.getElem?_eq_getElem hi)).shape.pos.1
    have h1 : ("" : Str).length = 0 := by decide +kernel
    rw [e, h1] at this
    omega
  refine ⟨fun i r hi => ?_, ?_⟩
  · match i, hi with
    | 0, hi => cases hi; exact .inl (List.mem_singleton.mpr rfl)
    | i + 1, hi =>
      have hi : rs[i]? = some r := by simpa using hi
      refine .inr ?_
      rw [List.take_succ_cons]
      rcases hv.fo hi with e | e
      · rw [e]; exact List.mem_cons_self ..
      · exact List.mem_cons_of_mem _ e
  · show (("" : Str) :: ("top" : Str) :: names rs).Nodup
    refine List.nodup_cons.mpr ⟨fun q => ?_, plc_nd hv⟩
    rcases List.mem_cons.mp q with q | q
    · exact absurd q (by decide +kernel)
    · obtain ⟨r, hr, e⟩ := List.mem_map.mp q
      exact ne r hr e
def fewF (l h : Str → Str) (rs : List Row) : Str → Str := greedy l h (topR :: rs) fun _ => "keep"
theorem fewF_empty {l h : Str → Str} {rs : List Row} (hv : Valid rs) : fewF l h rs "" = "keep" := by
  have sf := suf_top hv
  exact greedy_out _ _ fun q => (List.nodup_append.mp sf.nd).2.2 _ (List.mem_singleton.mpr rfl) _ q rfl
theorem fewF_top {l h : Str → Str} {rs : List Row} (hv : Valid rs) : fewF l h rs "top" = (if (pot l h rs).2 "top" + 1 < (pot l h rs).1 "top" + un (l "top") "keep" then h "top" else l "top") := by
  have e := greedy_at (l := l) (h := h) (topR :: rs) _ (fun _ => "keep") (suf_top hv) 0 topR rfl
  have e0 : greedy l h (topR :: rs) (fun _ => "keep") topR.fo = "keep" := fewF_empty hv
  rw [e0] at e
  have nf : ¬ firm ("keep" : Str) = true := by decide +kernel
  by_cases c : (pot l h rs).2 "top" + 1 < (pot l h rs).1 "top" + un (l "top") "keep"
  · rw [if_pos c]
    exact e.trans (if_pos (.inr c))
  · rw [if_neg c]
    exact e.trans (if_neg fun q => q.elim nf c)
theorem fewF_row {l h : Str → Str} {rs : List Row} (hv : Valid rs) {i : Nat} {r : Row} (hi : rs[i]? = some r) : fewF l h rs r.nm = (if firm (fewF l h rs r.fo) = true ∨ (pot l h rs).2 r.nm + 1 < (pot l h rs).1 r.nm + un (l r.nm) (fewF l h rs r.fo) then h r.nm else l r.nm) := by
  have sf := suf_top hv
  have e := greedy_at (l := l) (h := h) (topR :: rs) _ (fun _ => "keep") sf (i + 1) r (by simpa using hi)
  have p := pot_at (l := l) (h := h) rs _ sf.next i r hi
  rw [List.drop_succ_cons, ← p.1, ← p.2] at e
  exact e
end Ts

set_option maxRecDepth 100000
set_option maxHeartbeats 4000000
namespace Ts
open PySem L2
def spFewE (C : Addr) : Sp := fun vs H Q _ => ∃ (t a b : Addr) (rs : List Row) (l h : Str → Str), vs = [.ref t, .ref a, .ref b] ∧ TreeAt C H t rs ∧ rs.length ≤ 90 ∧ a ≠ b ∧ H a = some (.dK (kvS l (plc rs))) ∧ H b = some (.dK (kvS h (plc rs))) ∧
  ∀ D H', H D = none → Same H H' → H' D = some (.dK (kvS (fewF l h rs) (plc rs))) → Q (.ref D) H'
def spAroundP (C : Addr) : Sp := fun vs H Q _ => ∃ (t e : Addr) (z : Str) (rs : List Row) (f : Str → Str), vs = [.ref t, .ref e, .str z] ∧ TreeAt C H t rs ∧ z ∈ plc rs ∧ (∀ r, rowOf rs z = some r → DGet H e (.str r.fo) (some (.str (f r.fo)))) ∧ Q (.str (arF rs f z)) H
theorem fewF_at {l h : Str → Str} {rs : List Row} (hv : Valid rs) {z : Str} (hz : z ∈ plc rs) : fewF l h rs z = (if firm (arF rs (fewF l h rs) z) = true ∨ (pot l h rs).2 z + 1 < (pot l h rs).1 z + un (l z) (arF rs (fewF l h rs) z) then h z else l z) := by
  rcases mem_plc.mp hz with rfl | hn
  · rw [fewF_top hv, arF_top]
    have nf : ¬ firm ("keep" : Str) = true := by decide +kernel
    by_cases c : (pot l h rs).2 "top" + 1 < (pot l h rs).1 "top" + un (l "top") "keep"
    · rw [if_pos c, if_pos (.inr c)]
    · rw [if_neg c, if_neg fun q => q.elim nf c]
  · obtain ⟨r, hr, rfl⟩ := List.mem_map.mp hn
    obtain ⟨i, hi, er⟩ := List.mem_iff_getElem.mp hr
    have e : rs[i]? = some r := by rw [← er]; exact List.getElem?_eq_getElem hi
    have nt : r.nm ≠ ("top" : Str) := fun y => by
      have := top_not hv
      rw [y] at hn
      exact this hn
    rw [arF_row nt (rowOf_at hv e)]
    exact fewF_row hv e
theorem fo_take {rs : List Row} (hv : Valid rs) {i : Nat} {z : Str} (hz : (plc rs)[i]? = some z) {r : Row} (hr : rowOf rs z = some r) : r.fo ∈ (plc rs).take i := by
  have hn : z ∈ names rs := by
    have hr' := hr
    unfold rowOf at hr'
    exact List.mem_map.mpr ⟨r, List.mem_of_find?_eq_some hr', by simpa using List.find?_some hr'⟩
  match i, hz with
  | 0, hz =>
    have e : z = ("top" : Str) := (Option.some.inj hz).symm
    exact absurd (e ▸ hn) (top_not hv)
  | i + 1, hz =>
    have hz : (names rs)[i]? = some z := by simpa [plc] using hz
    unfold names at hz
    rw [List.getElem?_map] at hz
    obtain ⟨q, hq, rfl⟩ := Option.map_eq_some_iff.mp hz
    have e := rowOf_at hv hq
    rw [e] at hr
    cases hr
    unfold plc
    rw [List.take_succ_cons]
    rcases hv.fo hq with e | e
    · rw [e]; exact List.mem_cons_self ..
    · refine List.mem_cons_of_mem _ ?_
      unfold names at e ⊢
      rw [← List.map_take]
      exact e
section
variable {P : Program} {w : World} {K : PySem.W.Frag} {mg : Str → Option Value} {base : Heap} {C : Addr}
theorem ok_aroundP (D : DefAt K mg "effect_around" s_effect_around nAround) (TC : TxC K mg) (TD : TxD K mg w) (T : TxT K mg C)
    (mF : MethAt K C "folder" "Tree.folder" s_Tree_folder ["self", "box"]) (GF : FnOk P w K mg base CX0 4 mF.f mF.fd ["self", "box"] (spGet C fun r => .str r.fo)) : FnOk P w K mg base CX0 5 D.f D.fd nAround (spAroundP C) := by
  obtain ⟨t1, gT⟩ := TC.top
  obtain ⟨t3, gK⟩ := TD.keep
  refine D.F.ok sc_around (fun vs H Q E h => ?_) (fun cdv A outer s H vs Q E hr h => ?_)
  · obtain ⟨t, e, z, rs, f, rfl, _⟩ := h
    rfl
  · obtain ⟨t, e, z, rs, f, rfl, ht, hz, hf, hq⟩ := h
    have hu := hu_of hr
    refine ⟨_, pss_one (ps_ret (pe_ifExp (pt_cmpR op_eq (pv 2) (pe_glob (by rfl) gT (v := .str ("top" : Str)) ⟨_, rfl⟩) (nomark _)) (pe_glob (by rfl) gK (v := .str ("keep" : Str)) ⟨_, rfl⟩)
      (pe_dget hu (pv 1) (pe_meth (pv 0) T.cl mF.m GF hr mF.b .nil pass0 (pa_cons (pv 2) pa_nil)) (fun _ _ => rfl)))), ?_⟩
    obtain ⟨dx, q, ff, k, p, qs, h1, _⟩ := id ht.ex
    have noF : (tf q ff k p).lookup ("folder" : Str) = none := tf_no _ _ _ _ (by decide +kernel) (by decide +kernel) (by decide +kernel) (by decide +kernel)
    refine ⟨_, rfl, rfl, _, rfl, ?_⟩
    refine ite2 (fun c => ?_) (fun c => ?_)
    · have e1 : z = ("top" : Str) := V.str.inj (of_decide_eq_true c)
      subst e1
      rw [arF_top] at hq
      exact hq
    · have e1 : z ≠ ("top" : Str) := fun e => c (decide_eq_true (congrArg V.str e))
      rcases mem_plc.mp hz with e | hn
      · exact absurd e e1
      obtain ⟨r, er, hr', rfl⟩ := rowOf_some hn
      rw [arF_row e1 er] at hq
      exact ⟨_, rfl, _, rfl, t, dx, _, rfl, h1, noF, _, rfl, t, r.nm, rs, r, rfl, ht, er, e, _, rfl, hf r er, hq⟩
abbrev nFew : List Str := ["tree", "loose", "firm", "if_loose", "if_firm", "effects", "place", "around"]
theorem sc_few : FnScope nFew ["tree", "loose", "firm"] (defScope s_fewest_effects) := ⟨rfl, rfl, rfl, by decide +kernel, rfl, by decide +kernel, by decide +kernel⟩
theorem ok_few (D : DefAt K mg "fewest_effects" s_fewest_effects ["tree", "loose", "firm"]) (TF : TxF K mg) (Dc : DefAt K mg "entry_counts" s_entry_counts ["tree", "loose", "firm"]) (Gc : FnOk P w K mg base CX0 6 Dc.f Dc.fd ["tree", "loose", "firm"] (spCounts C)) (Du : DefAt K mg "unlike" s_unlike ["one", "other"])
    (Da : DefAt K mg "effect_around" s_effect_around nAround) (Ga : FnOk P w K mg base CX0 5 Da.f Da.fd nAround (spAroundP C)) : FnOk P w K mg base CX0 7 D.f D.fd ["tree", "loose", "firm"] (spFewE C) := by
  have Gu : FnOk P w K mg base CX0 2 Du.f Du.fd ["one", "other"] spUnlike := ok_unlike Du
  refine D.F.ok sc_few (fun vs H Q E h => ?_) (fun cdv A outer s H vs Q E hr h => ?_)
  · obtain ⟨t, a, b, rs, l, h, rfl, _⟩ := h
    rfl
  · obtain ⟨t, a, b, rs, l, h, rfl, ht, hl, nab, ha, hb, hq⟩ := h
    have hu := hu_of hr
    have h64 := hr.units
    have hu1 : (A.deeper (PyProof.Rows.envOfC ("fewest_effects" : Str) (defScope s_fewest_effects) s.heap.objs.size D.f cdv)).units + 1 < cLine := by omega
    have r5 : Room 5 _ := hr.mono (by decide)
    have r2 : Room 2 _ := hr.mono (by decide)
    refine ⟨_, pss_cons (ps_asg (pe_call Gc hr rfl Dc.g Dc.F.kp Dc.b .nil pass0 (pa_cons (pv 0) (pa_cons (pv 1) (pa_cons (pv 2) pa_nil)))) (pg_tup rfl (pgs_cons (pg_name (i := 3) sc_few.nd rfl (.inl rfl)) (pgs_cons (pg_name (i := 4) sc_few.nd rfl (.inl rfl)) pgs_nil))))
      (pss_cons (ps_set (i := 5) sc_few.nd rfl (.inl rfl) pe_dnewK)
      (pss_cons (ps_lock (ps_for PassesOwn.never rfl (pi_keys (pv 1)) (pg_name (i := 6) sc_few.nd rfl (.inl rfl))
          (pss_cons (ps_set (i := 7) sc_few.nd rfl (.inl rfl) (pe_call Ga r5 rfl Da.g Da.F.kp Da.b .nil pass0 (pa_cons (pv 0) (pa_cons (pv 5) (pa_cons (pv 6) pa_nil)))))
          (pss_one (ps_if (PW.pt (pw_or (pt_cmpR op_in_seq (pv 7) (pe_glob (by rfl) TF.firm (v := .ref TF.firmA) rfl) (by rfl)) (pw_or1 (pt_cmpR op_lt (pe_op op_add (pe_dget hu (pv 4) (pv 6) (fun _ _ => rfl)) pe_int) (pe_op op_add (pe_dget hu (pv 3) (pv 6) (fun _ _ => rfl)) (pe_call Gu r2 rfl Du.g Du.F.kp Du.b .nil pass0 (pa_cons (pe_dget hu (pv 1) (pv 6) (fun _ _ => rfl)) (pa_cons (pv 7) pa_nil)))) (nomark _)))))
            (pss_one (ps_dput hu1 (pv 5) (pv 6) (pe_dget hu (pv 2) (pv 6) (fun _ _ => rfl)) (by rfl))) (pss_one (ps_dput hu1 (pv 5) (pv 6) (pe_dget hu (pv 1) (pv 6) (fun _ _ => rfl)) (by rfl))))))))
      (pss_one (ps_ret (pv 5))))), ?_⟩
    have hv := ht.val
    have nd := plc_nd hv
    have lpl : (plc rs).length ≤ 91 := by rw [plc_len']; omega
    refine ⟨_, rfl, _, rfl, _, rfl, t, a, b, rs, l, h, rfl, ht, hl, ha, hb, fun T A1 B1 H1 s1 fA fB eT eA eB => ?_⟩
    refine ⟨T, _, rfl, sqT eT, rfl, _, _, rfl, _, _, rfl, rfl, ?_⟩
    refine fun D1 hD1 => ?_
    have s2 : Same H1 (upd H1 D1 (.dK [])) := Same.new hD1
    have eD : (upd H1 D1 (.dK [])) D1 = some (.dK []) := upd_same
    generalize upd H1 D1 (.dK []) = H2 at s2 eD
    have s02 := s1.trans s2
    have fD1 := s1.free hD1
    have ha2 := s02 _ _ ha
    refine ⟨a, _, ha2, trivial, fun od => ?_⟩
    have lk : (upd H2 a (.frz od (.dK (kvS l (plc rs))))) a = some (.frz od (.dK (kvS l (plc rs)))) := upd_same
    have nDa : D1 ≠ a := (ne_of_none ha fD1).symm
    have kpl : ∀ c o, c ≠ a → H2 c = some o → (upd H2 a (.frz od (.dK (kvS l (plc rs))))) c = some o := fun c o h1 e => by rw [upd_ne h1]; exact e
    have eDl := kpl _ _ nDa eD
    obtain ⟨Hl, El⟩ : ∃ Hx, Hx = upd H2 a (.frz od (.dK (kvS l (plc rs)))) := ⟨_, rfl⟩
    rw [← El]
    rw [← El] at lk eDl
    have kpl' : ∀ c o, c ≠ a → H2 c = some o → Hl c = some o := fun c o h1 e => by rw [El]; exact kpl c o h1 e
    have htl : TreeAt C Hl t rs := by
      rw [El]
      exact (ht.same s02).lockD ha2 (by unfold kvS; rw [kvX_len, plc_len'])
    have nAa : A1 ≠ a := (ne_of_none ha fA).symm
    have nBa : B1 ≠ a := (ne_of_none ha fB).symm
    have eAl := kpl' _ _ nAa (s2 _ _ eA)
    have eBl := kpl' _ _ nBa (s2 _ _ eB)
    have hbl := kpl' _ _ nab.symm (s02 _ _ hb)
    have nAD : A1 ≠ D1 := ne_of_none eA hD1
    have nBD : B1 ≠ D1 := ne_of_none eB hD1
    have nbD : b ≠ D1 := ne_of_none hb fD1
    refine ⟨_, rfl, a, od, rfl, .inl ⟨_, lk, ?_⟩⟩
    refine for_it (walk_keys (d := a) (o := od) (kvs := kvS l (plc rs))) (fun i σ H' => ∃ v6 v7 : Option V, σ = [some (.ref t), some (.ref a), some (.ref b), some (.ref A1), some (.ref B1), some (.ref D1), v6, v7] ∧ SB D1 Hl H' ∧ H' D1 = some (.dK (kvS (fewF l h rs) ((plc rs).take i)))) ⟨_, _, rfl, SB.refl _ _, eDl⟩ (fun i σ H' _ ⟨_, _, _, sb, _⟩ => sb _ _ nDa.symm lk) ?_ ?_
    · rintro i x σ H5x H5 hi ⟨v6, v7, rfl, sb, eD5⟩ ⟨rfl, k', v', hk, rfl⟩
      obtain ⟨z, rfl, hz, rfl⟩ := kvS_at hk
      have hzm := List.mem_of_getElem? hz
      have ht5 : TreeAt C H5 t rs := by
        refine TreeAt.sb (ht.lockD (o := .frz od (.dK (kvS l (plc rs)))) ha (by unfold kvS; rw [kvX_len, plc_len'])) (w := D1) (fun o e => by rw [upd_ne nDa, fD1] at e; cases e) fun c o n e => sb c o n ?_
        by_cases q : c = a
        · rw [q, upd_same] at e
          rw [q, lk]; exact e
        · rw [upd_ne q] at e
          exact kpl' c o q (s02 _ _ e)
      have eA5 := sb _ _ nAD eAl
      have eB5 := sb _ _ nBD eBl
      have hb5 := sb _ _ nbD hbl
      have ha5 := sb _ _ nDa.symm lk
      have dga : DGet H5 a (.str z) (some (.str (l z))) := .inl ⟨_, .inr z, .inr ⟨od, ha5⟩, rfl, (valV_kvX (fun z => V.str (l z)) hzm).symm⟩
      have dgb : DGet H5 b (.str z) (some (.str (h z))) := .inl ⟨_, .inr z, .inl hb5, rfl, (valV_kvX (fun z => V.str (h z)) hzm).symm⟩
      refine ⟨_, rfl, _, rfl, _, rfl, t, D1, z, rs, fewF l h rs, rfl, ht5, hzm, fun r hr => .inl ⟨_, .inr r.fo, .inl eD5, rfl, (valV_kvX (fun z => V.str (fewF l h rs z)) (fo_take hv hz hr)).symm⟩, ?_⟩
      have fin : ∀ w : Str, w = fewF l h rs z → ∃ v6 v7 : Option V, [some (.ref t), some (.ref a), some (.ref b), some (.ref A1), some (.ref B1), some (.ref D1), some (.str z), some (.str (arF rs (fewF l h rs) z))] = [some (.ref t), some (.ref a), some (.ref b), some (.ref A1), some (.ref B1), some (.ref D1), v6, v7] ∧ SB D1 Hl (upd H5 D1 (.dK (putK (kvS (fewF l h rs) ((plc rs).take i)) (.inr z) (.str w)))) ∧ (upd H5 D1 (.dK (putK (kvS (fewF l h rs) ((plc rs).take i)) (.inr z) (.str w)))) D1 = some (.dK (kvS (fewF l h rs) ((plc rs).take (i + 1)))) := fun w e => ⟨_, _, rfl, fun c o n e => by rw [upd_ne n]; exact sb c o n e, by
        rw [upd_same, e]
        exact congrArg _ (congrArg _ (kvX_more nd (fun z => V.str (fewF l h rs z)) hz))⟩
      have szD : (kvS (fewF l h rs) ((plc rs).take i)).length < sizeLine := by unfold kvS; exact small1000 (by rw [kvX_len, List.length_take]; omega)
      have eF := fewF_at (l := l) (h := h) hv hzm
      refine ⟨_, rfl, TF.firmA, _, rfl, .inr (.inr TF.firmT), rfl, flat_strs _, _, rfl, ?_⟩
      have e0 : (if false = true then !inV (.str (arF rs (fewF l h rs) z)) ((["on", "off"] : List Str).map V.str) else inV (.str (arF rs (fewF l h rs) z)) ((["on", "off"] : List Str).map V.str)) = firm (arF rs (fewF l h rs) z) := by
        rw [if_neg Bool.false_ne_true, inV_strs]; rfl
      rw [e0]
      refine ite2 (fun c => ?_) (fun c => ?_)
      · exact ⟨_, rfl, _, rfl, b, _, rfl, dgb, _, rfl, _, rfl, D1, _, rfl, .inl ⟨_, .inr z, eD5, rfl, szD, rfl⟩, fin _ (by rw [eF, if_pos (.inl c)])⟩
      · refine ⟨_, rfl, _, rfl, B1, _, rfl, kvN_get hzm eB5, _, _, rfl, rfl, _, rfl, _, rfl, A1, _, rfl, kvN_get hzm eA5, _, rfl, _, rfl, a, _, rfl, dga, _, rfl, l z, arF rs (fewF l h rs) z, rfl, _, _, rfl, rfl, _, _, rfl, rfl, _, rfl, ?_⟩
        refine ite2 (fun c2 => ?_) (fun c2 => ?_)
        · exact ⟨_, rfl, _, rfl, b, _, rfl, dgb, _, rfl, _, rfl, D1, _, rfl, .inl ⟨_, .inr z, eD5, rfl, szD, rfl⟩, fin _ (by
            have c3 := of_decide_eq_true c2
            rw [eF, if_pos (.inr (by omega))])⟩
        · exact ⟨_, rfl, _, rfl, a, _, rfl, dga, _, rfl, _, rfl, D1, _, rfl, .inl ⟨_, .inr z, eD5, rfl, szD, rfl⟩, fin _ (by
            rw [eF, if_neg fun q => q.elim c fun q => c2 (decide_eq_true (by omega))])⟩
    · rintro σ H5 ⟨v6, v7, rfl, sb, eD5⟩
      have el : (kvS l (plc rs)).length = (plc rs).length := by unfold kvS; rw [kvX_len]
      rw [el, List.take_length] at eD5
      refine ⟨sb _ _ nDa.symm lk, ?_⟩
      refine ⟨_, rfl, hq D1 _ fD1 (fun c o e => ?_) (by rw [upd_ne nDa]; exact eD5)⟩
      by_cases q : c = a
      · rw [q, upd_same, ← e, q]; exact ha.symm
      · rw [upd_ne q]
        exact sb c o (ne_of_none e fD1) (kpl' c o q (s02 _ _ e))
end
end Ts

set_option maxRecDepth 100000
set_option maxHeartbeats 4000000
namespace Ts
open PySem L2
def softF (rs : List Row) (v w : Str → Bool) : Str → Str := fun z => if z ∈ plc rs ∧ v z ≠ w z then "flip" else "keep"
def hardF (w : Str → Bool) : Str → Str := fun z => if w z = true then "on" else "off"
theorem lh_of (rs : List Row) (v w : Str → Bool) : LH (softF rs v w) (hardF w) := ⟨fun z => by
  unfold softF
  split <;> decide +kernel, fun z => by
  unfold hardF
  split <;> decide +kernel⟩
theorem greedy_mem {l h : Str → Str} {D : Str → Prop} : ∀ (S : List Row) (e : Str → Str), (∀ z, D (l z)  → True) → ∀ z, greedy l h S e z = e z ∨ greedy l h S e z = l z ∨ greedy l h S e z = h z
  | [], e, _, z => .inl rfl
  | r :: S, e, hD, z => by
    rcases greedy_mem (D := D) (l := l) (h := h) S (gstep l h S e r) hD z with q | q
    · show greedy l h S (gstep l h S e r) z = _ ∨ _
      rw [q]
      by_cases e1 : z = r.nm
      · subst e1
        rcases gtwo (l := l) (h := h) (S := S) (e := e) (r := r) with w | w
        · exact .inr (.inl (q.trans w))
        · exact .inr (.inr (q.trans w))
      · exact .inl (gstep_ne e1)
    · exact .inr q
theorem fewF_mem {rs : List Row} {v w : Str → Bool} (z : Str) : fewF (softF rs v w) (hardF w) rs z ∈ words4 := by
  rcases greedy_mem (D := fun _ => True) (l := softF rs v w) (h := hardF w) (topR :: rs) (fun _ => "keep") (fun _ _ => trivial) z with q | q | q
  · show greedy _ _ _ _ z ∈ words4
    rw [q]; decide +kernel
  · show greedy _ _ _ _ z ∈ words4
    rw [q]; unfold softF; split <;> decide +kernel
  · show greedy _ _ _ _ z ∈ words4
    rw [q]; unfold hardF; split <;> decide +kernel
theorem kvG_atF {rs : List Row} {v : Str → Bool} {j : Nat} {k : Key} {x : V} (h : (kvG rs v)[j]? = some (k, x)) : ∃ z : Str, k = .inr z ∧ (plc rs)[j]? = some z ∧ x = .bl (v z) := by
  unfold kvG at h
  rw [List.getElem?_map] at h
  obtain ⟨z, hz, e⟩ := Option.map_eq_some_iff.mp h
  cases e
  exact ⟨z, rfl, hz, rfl⟩
def spFewD (C CM CR : Addr) : Sp := fun vs H Q _ => ∃ (m m2 t t2 : Addr) (rs : List Row) (v w : Str → Bool), vs = [.ref m, .ref m2] ∧ MV C CM H m t rs v ∧ MV C CM H m2 t2 rs w ∧ Unl0 rs ∧ rs.length ≤ 90 ∧ ∀ r H', H r = none → Same H H' → RowAt C CR H' r t rs (leastD rs (fewF (softF rs v w) (hardF w) rs)) → Q (.ref r) H'
section
variable {P : Program} {w : World} {K : PySem.W.Frag} {mg : Str → Option Value} {base : Heap} {C CR CM : Addr}
abbrev nFewD : List Str := ["one", "other", "before", "behind", "loose", "firm", "place"]
theorem sc_fewD : FnScope nFewD ["one", "other"] (defScope s_fewest_deeds) := ⟨rfl, rfl, rfl, by decide +kernel, rfl, by decide +kernel, by decide +kernel⟩
theorem ok_fewD (D : DefAt K mg "fewest_deeds" s_fewest_deeds ["one", "other"]) (TD : TxD K mg w) (TF : TxF K mg) (hOff : ∃ t, mg "OFF" = some (.str "off" t)) (M : TxM K mg CM)
    (Dc : DefAt K mg "check_trees" s_check_trees ["one", "other"]) (Gc : FnOk P w K mg base CX0 4 Dc.f Dc.fd ["one", "other"] (spCheckTrees C CM))
    (Du : DefAt K mg "check_unlocked" s_check_unlocked ["tree"]) (Gu : FnOk P w K mg base CX0 6 Du.f Du.fd ["tree"] (spUnlocked C))
    (mS : MethAt K CM "states" "Meaning.states" s_Meaning_states ["self"]) (GS : FnOk P w K mg base CX0 2 mS.f mS.fd ["self"] (spMStates C CM))
    (De : DefAt K mg "fewest_effects" s_fewest_effects ["tree", "loose", "firm"]) (Ge : FnOk P w K mg base CX0 7 De.f De.fd ["tree", "loose", "firm"] (spFewE C))
    (Dr : DefAt K mg "row_of" s_row_of ["tree", "effects"]) (Gr : FnOk P w K mg base CX0 9 Dr.f Dr.fd ["tree", "effects"] (spRowOf C CR)) : FnOk P w K mg base CX0 10 D.f D.fd ["one", "other"] (spFewD C CM CR) := by
  obtain ⟨tF, gF⟩ := TD.flip
  obtain ⟨tK, gK⟩ := TD.keep
  obtain ⟨tO, gO⟩ := TF.on
  obtain ⟨tX, gX⟩ := hOff
  refine D.F.ok sc_fewD (fun vs H Q E h => ?_) (fun cdv A outer s H vs Q E hr h => ?_)
  · obtain ⟨m, m2, t, t2, rs, v, w', rfl, _⟩ := h
    rfl
  · obtain ⟨m, m2, t, t2, rs, v, w', rfl, hm, hm2, hun, hl, hq⟩ := h
    have hu := hu_of hr
    have r4 : Room 4 _ := hr.mono (by decide)
    have r6 : Room 6 _ := hr.mono (by decide)
    have r2 : Room 2 _ := hr.mono (by decide)
    have r7 : Room 7 _ := hr.mono (by decide)
    refine ⟨_, pss_cons (ps_expr (pe_call Gc r4 rfl Dc.g Dc.F.kp Dc.b .nil pass0 (pa_cons (pv 0) (pa_cons (pv 1) pa_nil))))
      (pss_cons (ps_expr (pe_call Gu r6 rfl Du.g Du.F.kp Du.b .nil pass0 (pa_cons (pe_fld (pv 0) rfl) pa_nil)))
      (pss_cons (ps_asg (pe_tup (pa_cons (pe_meth0 (pv 0) M.cl mS.m GS r2 mS.b .nil pass0) (pa_cons (pe_meth0 (pv 1) M.cl mS.m GS r2 mS.b .nil pass0) pa_nil))) (pg_tup rfl (pgs_cons (pg_name (i := 2) sc_fewD.nd rfl (.inr rfl)) (pgs_cons (pg_name (i := 3) sc_fewD.nd rfl (.inr rfl)) pgs_nil))))
      (pss_cons (ps_lock (ps_setDc (i := 4) (own := [("place", 6)]) (g := gName 6) (tt := tYes) (tk := tVar 6) (tv := tIf (tTest (tOp rEq (tDGet (tVar 2) (tVar 6)) (tDGet (tVar 3) (tVar 6)))) (tC (.str ("keep" : Str))) (tC (.str ("flip" : Str)))) rfl sc_fewD.nd rfl rfl (swd_true rfl rfl rfl (by decide +kernel)) (pi_keys (pv 2)) (blkOk_by (N := nFewD) (sc := defScope s_fewest_deeds) (by decide +kernel))
          (fun _ _ _ _ _ => pg_name (i := 6) sc_fewD.nd rfl (Or.inl rfl)) (fun _ _ _ _ _ => pts_nil) (fun _ _ _ _ _ => pv 6) (fun _ _ _ _ _ => by exact pe_ifExp (pt_cmpR op_eq (pe_dget hu (pv 2) (pv 6) (fun _ _ => rfl)) (pe_dget hu (pv 3) (pv 6) (fun _ _ => rfl)) (nomark _)) (pe_glob (by rfl) gK (v := .str ("keep" : Str)) ⟨_, rfl⟩) (pe_glob (by rfl) gF (v := .str ("flip" : Str)) ⟨_, rfl⟩))))
      (pss_cons (ps_lock (ps_setDc (i := 5) (own := [("place", 6)]) (g := gName 6) (tt := tYes) (tk := tVar 6) (tv := tIf (tTest (tDGet (tVar 3) (tVar 6))) (tC (.str ("on" : Str))) (tC (.str ("off" : Str)))) rfl sc_fewD.nd rfl rfl (swd_true rfl rfl rfl (by decide +kernel)) (pi_keys (pv 2)) (blkOk_by (N := nFewD) (sc := defScope s_fewest_deeds) (by decide +kernel))
          (fun _ _ _ _ _ => pg_name (i := 6) sc_fewD.nd rfl (Or.inl rfl)) (fun _ _ _ _ _ => pts_nil) (fun _ _ _ _ _ => pv 6) (fun _ _ _ _ _ => by exact pe_ifExp (pt_val (pe_dget hu (pv 3) (pv 6) (fun _ _ => rfl))) (pe_glob (by rfl) gO (v := .str ("on" : Str)) ⟨_, rfl⟩) (pe_glob (by rfl) gX (v := .str ("off" : Str)) ⟨_, rfl⟩))))
      (pss_one (ps_ret (pe_call Gr hr rfl Dr.g Dr.F.kp Dr.b .nil pass0 (pa_cons (pe_fld (pv 0) rfl) (pa_cons (pe_call Ge r7 rfl De.g De.F.kp De.b .nil pass0 (pa_cons (pe_fld (pv 0) rfl) (pa_cons (pv 4) (pa_cons (pv 5) pa_nil)))) pa_nil))))))))), ?_⟩
    have hv := hm.valid
    have nd := plc_nd hv
    have lpl : (plc rs).length ≤ 91 := by rw [plc_len']; omega
    obtain ⟨dx, u, k, h1, h2, h3⟩ := hm.turns.ex
    obtain ⟨dx2, u2, k2, g1, g2, g3⟩ := hm2.turns.ex
    have noS : ∀ {x u k : Addr} {d : Bool}, (mf x u k d).lookup ("states" : Str) = none := fun {x u k d} => mf_no _ _ _ _ (by decide +kernel) (by decide +kernel) (by decide +kernel) (by decide +kernel)
    refine ⟨_, rfl, _, rfl, m, m2, t, t2, rs, _, _, _, _, rfl, hm.turns, hm2.turns, ?_⟩
    refine ⟨_, rfl, m, CM, dx, _, _, rfl, h1, M.cl, M.nt, mf_t _ _ _ _, t, rs, rfl, hm.turns.tree, hun, fun H1 s1 => ?_⟩
    refine ⟨_, rfl, m, dx, _, rfl, s1 _ _ h1, noS, m, t, rs, _, _, rfl, hm.turns.same s1, fun b1 hb1 => ?_⟩
    rw [kvM_kvG hv (val_turnsG hv v)]
    have s2 : Same H1 (upd H1 b1 (.dK (kvG rs v))) := Same.new hb1
    have e2 : (upd H1 b1 (.dK (kvG rs v))) b1 = some (.dK (kvG rs v)) := upd_same
    generalize upd H1 b1 (.dK (kvG rs v)) = H2 at s2 e2
    have s02 := s1.trans s2
    refine ⟨_, rfl, m2, dx2, _, rfl, s02 _ _ g1, noS, m2, t2, rs, _, _, rfl, hm2.turns.same s02, fun b2 hb2 => ?_⟩
    rw [kvM_kvG hv (val_turnsG hv w')]
    have n12 : b1 ≠ b2 := ne_of_none e2 hb2
    have s3 : Same H2 (upd H2 b2 (.dK (kvG rs w'))) := Same.new hb2
    have e3 : (upd H2 b2 (.dK (kvG rs w'))) b2 = some (.dK (kvG rs w')) := upd_same
    generalize upd H2 b2 (.dK (kvG rs w')) = H3 at s3 e3
    refine ⟨(by show 2 ≤ sizeLine; decide), fun tp htp => ⟨tp, _, rfl, sqT upd_same, rfl, _, _, rfl, _, _, rfl, rfl, ?_⟩⟩
    have s4 : Same H3 (upd H3 tp (.tup [.ref b1, .ref b2])) := Same.new htp
    generalize upd H3 tp (.tup [.ref b1, .ref b2]) = H4 at s4
    have s04 := s02.trans (s3.trans s4)
    have eb1 := (s3.trans s4) _ _ e2
    have eb2 := s4 _ _ e3
    refine ⟨b1, _, eb1, trivial, fun od => ?_⟩
    have lkD1 : (upd H4 b1 (.frz od (.dK (kvG rs v)))) b1 = some (.frz od (.dK (kvG rs v))) := upd_same
    obtain ⟨HlD1, ElD1⟩ : ∃ Hx, Hx = upd H4 b1 (.frz od (.dK (kvG rs v))) := ⟨_, rfl⟩
    have kpD1 : ∀ c o, c ≠ b1 → H4 c = some o → HlD1 c = some o := fun c o h1 e => by rw [ElD1, upd_ne h1]; exact e
    rw [← ElD1]
    rw [← ElD1] at lkD1
    have eb2l := kpD1 _ _ n12.symm eb2
    refine ⟨_, rfl, b1, od, rfl, .inl ⟨_, lkD1, fun D1 hD1 => ?_⟩⟩
    have nD1 : D1 ≠ b1 := (ne_of_none lkD1 hD1).symm
    refine dc_it (walk_keys (d := b1) (o := od) (kvs := (kvG rs v))) (fun i H' => Same HlD1 H' ∧ H' D1 = some (.dK (kvS (softF rs v w') ((plc rs).take i)))) ⟨Same.new hD1, upd_same⟩ (fun i H' _ m => m.1 _ _ lkD1) ?_ ?_
    · rintro i x H5x H5 hi ⟨s5, hD5⟩ ⟨rfl, k', v', hk, rfl⟩
      obtain ⟨z, rfl, hz, rfl⟩ := kvG_atF hk
      have hzm := List.mem_of_getElem? hz
      have szD : (kvS (softF rs v w') ((plc rs).take i)).length < sizeLine := by unfold kvS; exact small1000 (by rw [kvX_len, List.length_take]; omega)
      have fin : ∀ y : Str, y = (softF rs v w') z → Same HlD1 (upd H5 D1 (.dK (putK (kvS (softF rs v w') ((plc rs).take i)) (.inr z) (.str y)))) ∧ (upd H5 D1 (.dK (putK (kvS (softF rs v w') ((plc rs).take i)) (.inr z) (.str y)))) D1 = some (.dK (kvS (softF rs v w') ((plc rs).take (i + 1)))) := fun y e => ⟨fun b o eb => by
        rw [upd_ne (fun y => by rw [y, hD1] at eb; cases eb)]
        exact s5 _ _ eb, by
        rw [upd_same, e]
        exact congrArg _ (congrArg _ (kvX_more nd (fun z => V.str ((softF rs v w') z)) hz))⟩
      have dg1 : DGet H5 b1 (.str z) (some (.bl (v z))) := .inl ⟨_, .inr z, .inr ⟨od, s5 _ _ lkD1⟩, rfl, (valV_kvG v hzm).symm⟩
      have dg2 : DGet H5 b2 (.str z) (some (.bl (w' z))) := .inl ⟨_, .inr z, .inl (s5 _ _ eb2l), rfl, (valV_kvG w' hzm).symm⟩
      refine ⟨rfl, tYes_if ⟨_, rfl, _, rfl, _, rfl, b1, _, rfl, dg1, _, rfl, _, rfl, b2, _, rfl, dg2, rfl, _, rfl, ?_⟩⟩
      refine ite2 (fun c => ?_) (fun c => ?_)
      · have c' : v z = w' z := V.bl.inj (of_decide_eq_true c)
        exact ⟨_, .inr z, rfl, hD5, szD, fin _ (by unfold softF; rw [if_neg fun q => q.2 c'])⟩
      · have c' : v z ≠ w' z := fun e => c (decide_eq_true (congrArg V.bl e))
        exact ⟨_, .inr z, rfl, hD5, szD, fin _ (by unfold softF; rw [if_pos ⟨hzm, c'⟩])⟩
    rintro H5 ⟨s5, hD5⟩
    have el : ((kvG rs v)).length = (plc rs).length := by unfold kvG; rw [List.length_map]
    rw [el, List.take_length] at hD5
    refine ⟨s5 _ _ lkD1, ?_⟩
    rw [ElD1] at s5
    have sH6 := lock_backE eb1 s5
    have eD1 : (upd H5 b1 (.dK (kvG rs v))) D1 = some (.dK (kvS (softF rs v w') (plc rs))) := by rw [upd_ne nD1]; exact hD5
    have fD1 : H4 D1 = none := by
      have := hD1
      rw [ElD1, upd_ne nD1] at this
      exact this
    generalize upd H5 b1 (.dK (kvG rs v)) = H6 at sH6 eD1
    clear lkD1 ElD1 kpD1 hD1
    have eb1' := sH6 _ _ eb1
    have eb2' := sH6 _ _ eb2
    refine ⟨b1, _, eb1', trivial, fun od => ?_⟩
    have lkD2 : (upd H6 b1 (.frz od (.dK (kvG rs v)))) b1 = some (.frz od (.dK (kvG rs v))) := upd_same
    obtain ⟨HlD2, ElD2⟩ : ∃ Hx, Hx = upd H6 b1 (.frz od (.dK (kvG rs v))) := ⟨_, rfl⟩
    have kpD2 : ∀ c o, c ≠ b1 → H6 c = some o → HlD2 c = some o := fun c o h1 e => by rw [ElD2, upd_ne h1]; exact e
    rw [← ElD2]
    rw [← ElD2] at lkD2
    have eb2l := kpD2 _ _ n12.symm eb2'
    refine ⟨_, rfl, b1, od, rfl, .inl ⟨_, lkD2, fun D2 hD2 => ?_⟩⟩
    have nD2 : D2 ≠ b1 := (ne_of_none lkD2 hD2).symm
    refine dc_it (walk_keys (d := b1) (o := od) (kvs := (kvG rs v))) (fun i H' => Same HlD2 H' ∧ H' D2 = some (.dK (kvS (hardF w') ((plc rs).take i)))) ⟨Same.new hD2, upd_same⟩ (fun i H' _ m => m.1 _ _ lkD2) ?_ ?_
    · rintro i x H5x H5 hi ⟨s5, hD5⟩ ⟨rfl, k', v', hk, rfl⟩
      obtain ⟨z, rfl, hz, rfl⟩ := kvG_atF hk
      have hzm := List.mem_of_getElem? hz
      have szD : (kvS (hardF w') ((plc rs).take i)).length < sizeLine := by unfold kvS; exact small1000 (by rw [kvX_len, List.length_take]; omega)
      have fin : ∀ y : Str, y = (hardF w') z → Same HlD2 (upd H5 D2 (.dK (putK (kvS (hardF w') ((plc rs).take i)) (.inr z) (.str y)))) ∧ (upd H5 D2 (.dK (putK (kvS (hardF w') ((plc rs).take i)) (.inr z) (.str y)))) D2 = some (.dK (kvS (hardF w') ((plc rs).take (i + 1)))) := fun y e => ⟨fun b o eb => by
        rw [upd_ne (fun y => by rw [y, hD2] at eb; cases eb)]
        exact s5 _ _ eb, by
        rw [upd_same, e]
        exact congrArg _ (congrArg _ (kvX_more nd (fun z => V.str ((hardF w') z)) hz))⟩
      have dg2 : DGet H5 b2 (.str z) (some (.bl (w' z))) := .inl ⟨_, .inr z, .inl (s5 _ _ eb2l), rfl, (valV_kvG w' hzm).symm⟩
      refine ⟨rfl, tYes_if ⟨_, rfl, _, rfl, _, rfl, b2, _, rfl, dg2, _, rfl, ?_⟩⟩
      refine ite2 (fun c => ?_) (fun c => ?_)
      · exact ⟨_, .inr z, rfl, hD5, szD, fin _ (by unfold hardF; rw [if_pos c])⟩
      · exact ⟨_, .inr z, rfl, hD5, szD, fin _ (by unfold hardF; rw [if_neg c])⟩
    rintro H5 ⟨s5, hD5⟩
    have el : ((kvG rs v)).length = (plc rs).length := by unfold kvG; rw [List.length_map]
    rw [el, List.take_length] at hD5
    refine ⟨s5 _ _ lkD2, ?_⟩
    rw [ElD2] at s5
    have sH8 := lock_backE eb1' s5
    have eD2 : (upd H5 b1 (.dK (kvG rs v))) D2 = some (.dK (kvS (hardF w') (plc rs))) := by rw [upd_ne nD2]; exact hD5
    have fD2 : H6 D2 = none := by
      have := hD2
      rw [ElD2, upd_ne nD2] at this
      exact this
    generalize upd H5 b1 (.dK (kvG rs v)) = H8 at sH8 eD2
    clear lkD2 ElD2 kpD2 hD2
    have s08 := s04.trans (sH6.trans sH8)
    have eD1' := sH8 _ _ eD1
    have nDD : D1 ≠ D2 := ne_of_none eD1 fD2
    refine ⟨_, rfl, m, CM, dx, _, _, rfl, s08 _ _ h1, M.cl, M.nt, mf_t _ _ _ _, ?_⟩
    refine ⟨_, rfl, m, CM, dx, _, _, rfl, s08 _ _ h1, M.cl, M.nt, mf_t _ _ _ _, _, rfl, _, rfl, t, D1, D2, rs, softF rs v w', hardF w', rfl, hm.turns.tree.same s08, hl, nDD, eD1', eD2, fun e H9 he s9 ee => ?_⟩
    have s09 := s08.trans s9
    exact ⟨t, e, rs, fewF (softF rs v w') (hardF w') rs, rfl, hm.turns.tree.same s09, hun, ee, fewF_mem, hl, fun r H' hn s' hr' => hq r H' (s09.free hn) (s09.trans s') hr'⟩
end
end Ts

set_option maxRecDepth 100000
set_option maxHeartbeats 4000000
namespace Ts
open PySem L2
theorem cut_take {xs : List V} {i : Nat} : cutV xs none (some (i : Int)) = xs.take i := by
  unfold cutV
  rw [HT.sIx_none, HT.sIx_nat, List.drop_zero, Nat.sub_zero]
  rcases Nat.le_total i xs.length with h | h
  · rw [Nat.min_eq_left h]
  · rw [Nat.min_eq_right h, List.take_of_length_le (Nat.le_refl _), List.take_of_length_le h]
theorem cut_drop {xs : List V} {i : Nat} : cutV xs (some (i : Int)) none = xs.drop i := by
  unfold cutV
  rw [HT.sIx_none, HT.sIx_nat]
  rcases Nat.le_total i xs.length with h | h
  · rw [Nat.min_eq_left h]
    exact List.take_of_length_le (by rw [List.length_drop]; omega)
  · rw [Nat.min_eq_right h, Nat.sub_self, List.take_zero, List.drop_eq_nil_of_le h]
def wo (ds : List De) (i : Nat) : List De := ds.take i ++ ds.drop (i + 1)
theorem wo_mem {ds : List De} {i : Nat} {d : De} (h : d ∈ wo ds i) : d ∈ ds := (List.mem_append.mp h).elim List.mem_of_mem_take List.mem_of_mem_drop
theorem wo_len (ds : List De) (i : Nat) : (wo ds i).length ≤ ds.length := by
  unfold wo
  rw [List.length_append, List.length_take, List.length_drop]; omega
theorem DsAt.take {H : Hp} {as : List Addr} {ds : List De} (h : DsAt H as ds) (n : Nat) : DsAt H (as.take n) (ds.take n) := ⟨by rw [List.length_take, List.length_take, h.len], fun i a d x y => by
  rw [List.getElem?_take] at x y
  by_cases c : i < n
  · rw [if_pos c] at x y
    exact h.at_ i a d x y
  · rw [if_neg c] at x
    cases x⟩
theorem DsAt.drop {H : Hp} {as : List Addr} {ds : List De} (h : DsAt H as ds) (n : Nat) : DsAt H (as.drop n) (ds.drop n) := ⟨by rw [List.length_drop, List.length_drop, h.len], fun i a d x y => by
  rw [List.getElem?_drop] at x y
  exact h.at_ _ a d x y⟩
theorem DsAt.wo {H : Hp} {as : List Addr} {ds : List De} (h : DsAt H as ds) (i : Nat) : DsAt H (as.take i ++ as.drop (i + 1)) (wo ds i) := (h.take i).append (h.drop (i + 1))
def idleL (rs : List Row) (ds : List De) : List Nat := (List.range ds.length).filter fun i => alikeE rs (wo ds i) ds
theorem range_take {n : Nat} (p : Nat → Bool) {i : Nat} (h : i < n) : (List.range (i + 1)).filter p = (List.range i).filter p ++ (if p i = true then [i] else []) := by
  rw [List.range_succ, List.filter_append]
  by_cases c : p i = true
  · rw [List.filter_cons_of_pos c, if_pos c]; rfl
  · rw [List.filter_cons_of_neg c, if_neg c]; rfl
theorem intV (n : Nat) : V.int (0 + (n : Int)) = V.int (n : Int) := by rw [Int.zero_add]
def spIdle (C CR : Addr) : Sp := fun vs H Q _ => ∃ (r t : Addr) (rs : List Row) (ds : List De), vs = [.ref r] ∧ RowAt C CR H r t rs ds ∧ ∀ D H', Same H H' → H D = none → H' D = some (.lst ((idleL rs ds).map fun i : Nat => V.int (i : Int))) → Q (.ref D) H'
section
variable {P : Program} {w : World} {K : PySem.W.Frag} {mg : Str → Option Value} {base : Heap} {C CR : Addr}
abbrev nIdle : List Str := ["row", "deeds", "at"]
theorem sc_idle : FnScope nIdle ["row"] (defScope s_idle) := ⟨rfl, rfl, rfl, by decide +kernel, rfl, by decide +kernel, by decide +kernel⟩
theorem ok_idle {fR : Addr} {fdR : FuncData} (D : DefAt K mg "idle" s_idle ["row"]) (B : TxB mg) (R : TxR K mg CR)
    (mD : MethAt K CR "deeds" "Row.deeds" s_Row_deeds ["self"]) (GD : FnOk P w K mg base CX0 2 mD.f mD.fd ["self"] (spRDeeds C CR))
    (mE : MethAt K CR "__eq__" "Row.__eq__" s_Row_eq ["self", "other"]) (GE : FnOk P w K mg base CX0 3 mE.f mE.fd ["self", "other"] (spREq K C CR))
    (MR : Mk K CR fR) (bR : Binds K fdR ["self", "tree", "deeds"] []) (GR : FnOk P w K mg base CX0 7 fR fdR ["self", "tree", "deeds"] (spRowInit C CR)) :
    FnOk P w K mg base CX0 9 D.f D.fd ["row"] (spIdle C CR) := by
  refine D.F.ok sc_idle (fun vs H Q E h => ?_) (fun cdv A outer s H vs Q E hr h => ?_)
  · obtain ⟨r, t, rs, ds, rfl, _⟩ := h
    rfl
  · obtain ⟨r, t, rs, ds, rfl, hm, hq⟩ := h
    have hr1 : Room 2 _ := hr.mono (by decide)
    have hr2 : Room 3 _ := hr.mono (by decide)
    refine ⟨_, pss_cons (ps_set (i := 1) sc_idle.nd rfl (.inr rfl) (pe_meth0 (pv 0) R.cl mD.m GD hr1 mD.b .nil pass0))
      (pss_one (ps_ret (pe_lc (own := [("at", 2)]) (g := gName 2) (tt := tTest (tOp (rEqC K CR (spREq K C CR) E0) (tMake CR (spRowInit C CR) [] E0 (tCons (tFld K (tVar 0) "tree") (tCons (tOp rCat (L2.tSl (rSlL K) (tVar 1) tNoPart (tPart (tVar 2))) (L2.tSl (rSlL K) (tVar 1) (tPart (tOp (rI0 fun i j => .int (i + j)) (tVar 2) (tC (.int 1)))) tNoPart)) tNil))) (tVar 0))) (te := tVar 2) rfl sc_idle.nd (pi_range1 (by rfl) B.range (pa_cons (pe_callB call_len_seq (by rfl) B.len PySem.boot_len (pa_cons (pv 1) pa_nil)) pa_nil)) (blkOk_by (N := nIdle) (sc := defScope s_idle) (by decide +kernel))
        (fun _ _ _ _ _ => pg_name (i := 2) sc_idle.nd rfl (Or.inl rfl)) (fun _ _ _ _ _ => by exact pts_one (pt_cmpR (op_eqC GE mE.m hr2 mE.b pass0) (pe_make MR GR hr rfl R.g bR .nil pass0 (pa_cons (pe_fld (pv 0) rfl) (pa_cons (pe_op op_cat (pe_slice sl_list (pv 1) po_none (po_some (pv 2))) (pe_slice sl_list (pv 1) (po_some (pe_op op_add (pv 2) pe_int)) po_none)) pa_nil))) (pv 0) (nomark _))) (fun _ _ _ _ _ => pv 2)))), ?_⟩
    obtain ⟨dx, q, e, as, h1, h2, h3, h4⟩ := id hm.ex
    have noD : (rf t q e).lookup ("deeds" : Str) = none := rf_no _ _ _ (by decide +kernel) (by decide +kernel) (by decide +kernel)
    have hl := hm.len
    refine ⟨_, rfl, r, dx, _, rfl, h1, noD, r, t, rs, ds, rfl, hm, fun Dd as' hDd hds => ?_⟩
    have s1 : Same H (upd H Dd (.lst (as'.map V.ref))) := Same.new hDd
    have e1 : (upd H Dd (.lst (as'.map V.ref))) Dd = some (.lst (as'.map V.ref)) := upd_same
    generalize upd H Dd (.lst (as'.map V.ref)) = H1 at s1 e1
    refine ⟨_, rfl, Dd, _, rfl, .inl (SqL.of e1), ?_⟩
    have la : as'.length = ds.length := hds.len
    refine ⟨_, rfl, by rw [List.length_map]; omega, by rw [List.length_map]; omega, fun D hD => ?_⟩
    have en : (((as'.map V.ref).length : Nat) : Int).toNat = ds.length := by rw [List.length_map, la]; rfl
    refine lc_range (lo := 0) (n := (((as'.map V.ref).length : Nat) : Int).toNat) (fun i H' => Same H1 H' ∧ H' D = some (.lst (((List.range i).filter fun i => alikeE rs (wo ds i) ds).map fun i : Nat => V.int (i : Int)))) ⟨Same.new hD, upd_same⟩ ?_ ?_
    · rintro i H2 hi ⟨s2, hD2⟩
      rw [en] at hi
      have s12 := s1.trans s2
      refine ⟨rfl, _, rfl, r, CR, dx, _, _, rfl, s12 _ _ h1, R.cl, R.nt, rf_t _ _ _, _, rfl, _, rfl, _, rfl, Dd, _, rfl, SqL.of (s2 _ _ e1), fun l1 hl1 => ?_⟩
      rw [show cutV (as'.map V.ref) none (some (0 + (i : Int))) = (as'.take i).map V.ref from by rw [Int.zero_add, cut_take, List.map_take]]
      have t1 : Same H2 (upd H2 l1 (.lst ((as'.take i).map V.ref))) := Same.new hl1
      have f1 : (upd H2 l1 (.lst ((as'.take i).map V.ref))) l1 = some (.lst ((as'.take i).map V.ref)) := upd_same
      generalize upd H2 l1 (.lst ((as'.take i).map V.ref)) = H3 at t1 f1
      refine ⟨_, rfl, _, rfl, _, _, rfl, rfl, _, rfl, Dd, _, rfl, SqL.of (t1 _ _ (s2 _ _ e1)), fun l2 hl2 => ?_⟩
      rw [show cutV (as'.map V.ref) (some (0 + (i : Int) + 1)) none = (as'.drop (i + 1)).map V.ref from by
        rw [show (0 + (i : Int) + 1) = ((i + 1 : Nat) : Int) by omega, cut_drop, List.map_drop]]
      have t2 : Same H3 (upd H3 l2 (.lst ((as'.drop (i + 1)).map V.ref))) := Same.new hl2
      refine ⟨l1, l2, _, _, rfl, rfl, t2 _ _ f1, upd_same, szl (by rw [List.length_map, List.length_map, List.length_take, List.length_drop]; omega), fun l3 hl3 => ?_⟩
      have t3 : Same H2 (upd (upd H3 l2 (.lst ((as'.drop (i + 1)).map V.ref))) l3 (.lst ((as'.take i).map V.ref ++ (as'.drop (i + 1)).map V.ref))) := (t1.trans t2).trans (Same.new hl3)
      have f3 : (upd (upd H3 l2 (.lst ((as'.drop (i + 1)).map V.ref))) l3 (.lst ((as'.take i).map V.ref ++ (as'.drop (i + 1)).map V.ref))) l3 = some (.lst ((as'.take i ++ as'.drop (i + 1)).map V.ref)) := by rw [upd_same, List.map_append]
      generalize upd (upd H3 l2 (.lst ((as'.drop (i + 1)).map V.ref))) l3 (.lst ((as'.take i).map V.ref ++ (as'.drop (i + 1)).map V.ref)) = H4 at t3 f3
      have sA := s12.trans t3
      refine fun x dx2 nx ndx _ => ⟨x, dx2, t, l3, rs, _, wo ds i, rfl, upd_same, (hm.tree.same sA).same (mk_same0 nx ndx), hm.un, .inr (mk_same0 (C := CR) nx ndx _ _ f3), (((hds.same sA).wo i).seq).same (mk_same0 nx ndx), fun d hd => hm.vd d (wo_mem hd), Nat.le_trans (wo_len ds i) hl, fun H5 sb5 hx5 => ⟨rfl, ?_⟩⟩
      have s5 := mk_same nx ndx sb5
      have sB := sA.trans s5
      obtain ⟨dx5, q5, e5, as5, k1, _⟩ := id hx5.ex
      refine ⟨_, rfl, x, dx5, _, .ref CR, rfl, k1, .ins (sB _ _ h1), nfC, x, t, .ref r, rs, wo ds i, rfl, hx5, .inl ⟨r, t, ds, rfl, hm.same sB, _, rfl, _, rfl, ?_⟩⟩
      have sz : (((List.range i).filter fun i => alikeE rs (wo ds i) ds).map fun i : Nat => V.int (i : Int)).length ≤ 100 := by
        rw [List.length_map]
        have := List.length_filter_le (fun i => alikeE rs (wo ds i) ds) (List.range i)
        rw [List.length_range] at this
        omega
      have sC := t3.trans s5
      refine ite2 (fun c => ?_) (fun c => ?_)
      · refine ⟨_, rfl, _, sC _ _ hD2, small1000 (by omega), fun b o eb => ?_, ?_⟩
        · rw [upd_ne (fun y => by rw [y, hD] at eb; cases eb)]
          exact sC _ _ (s2 _ _ eb)
        · rw [upd_same, range_take (n := i + 1) _ (by omega), if_pos c, List.map_append, intV]; rfl
      · refine ⟨s2.trans sC, ?_⟩
        rw [range_take (n := i + 1) _ (by omega), if_neg c, List.append_nil]
        exact sC _ _ hD2
    · rintro H2 ⟨s2, hD2⟩
      rw [en] at hD2
      exact hq D H2 (s1.trans s2) (s1.free hD) hD2
end
end Ts

set_option maxRecDepth 100000
set_option maxHeartbeats 4000000
namespace Ts
open PySem L2
/-! ### several meanings of one tree, as data -/
abbrev MD := Bool × List Str
def cntD (Ms : List MD) : Nat := (Ms.filter fun q => q.1).length
def cntT (Ms : List MD) (z : Str) : Nat := (Ms.filter fun q => decide (z ∈ q.2)).length
def vt (Ms : List MD) (z : Str) : Nat := if z = ("top" : Str) then cntD Ms else cntT Ms z
def kvI (v : Str → Nat) (l : List Str) : List (Key × V) := l.map fun z => ((.inr z : Key), V.int (v z))
theorem valV_kvI (v : Str → Nat) {z : Str} : ∀ {l : List Str}, z ∈ l → valV (kvI v l) (.inr z : Key) = some (.int (v z))
  | x :: l, hz => by
    show valV (((.inr x : Key), V.int (v x)) :: kvI v l) _ = _
    by_cases e : x = z
    · subst e; rw [valV_pos rfl]
    · rw [valV_neg (fun q => e (Sum.inr.inj q))]
      exact valV_kvI v ((List.mem_cons.mp hz).resolve_left fun q => e q.symm)
theorem kvI_more {l : List Str} (nd : l.Nodup) (v : Str → Nat) {i : Nat} {z : Str} (h : l[i]? = some z) : putK (kvI v (l.take i)) (.inr z) (.int (v z)) = kvI v (l.take (i + 1)) := by
  have hn : z ∉ l.take i := fun hm => by
    obtain ⟨j, hj, e⟩ := List.mem_take_iff_getElem.mp hm
    obtain ⟨hi, e2⟩ := List.getElem?_eq_some_iff.mp h
    have := (List.getElem_inj nd).mp (e.trans e2.symm)
    omega
  have hv : valV (kvI v (l.take i)) (.inr z : Key) = none := by
    generalize l.take i = m at hn
    induction m with
    | nil => rfl
    | cons x m ih =>
      show valV (((.inr x : Key), V.int (v x)) :: kvI v m) _ = _
      rw [valV_neg (fun q => hn (by rw [Sum.inr.inj q]; exact List.mem_cons_self ..))]
      exact ih fun q => hn (List.mem_cons_of_mem _ q)
  rw [putK_new _ hv, take_more h]
  unfold kvI
  rw [List.map_append]
  rfl
theorem kvI_at {v : Str → Nat} {l : List Str} {j : Nat} {k : Key} {x : V} (h : (kvI v l)[j]? = some (k, x)) : ∃ z : Str, k = .inr z ∧ l[j]? = some z := by
  unfold kvI at h
  rw [List.getElem?_map] at h
  obtain ⟨z, hz, e⟩ := Option.map_eq_some_iff.mp h
  exact ⟨z, (Prod.mk.inj e).1.symm, hz⟩
structure MsAt (C CM : Addr) (H : Hp) (t : Addr) (rs : List Row) (ms : List Addr) (Ms : List MD) : Prop where
  len : ms.length = Ms.length
  at_ : ∀ (i : Nat) (m : Addr) (q : MD), ms[i]? = some m → Ms[i]? = some q → MeanAt C CM H m t rs q.1 q.2
  fr : ∀ q ∈ Ms, ∀ z ∈ q.2, Free rs z
theorem MsAt.same {C CM : Addr} {H H' : Hp} {t : Addr} {rs : List Row} {ms : List Addr} {Ms : List MD} (h : MsAt C CM H t rs ms Ms) (s : Same H H') : MsAt C CM H' t rs ms Ms := ⟨h.len, fun i m q hm hq => (h.at_ i m q hm hq).same s, h.fr⟩
theorem MsAt.kl {C CM : Addr} {H H' : Hp} {t : Addr} {rs : List Row} {ms : List Addr} {Ms : List MD} (h : MsAt C CM H t rs ms Ms) (s : KL H H') : MsAt C CM H' t rs ms Ms := ⟨h.len, fun i m q hm hq => (h.at_ i m q hm hq).kl s, h.fr⟩
theorem MsAt.get {C CM : Addr} {H : Hp} {t : Addr} {rs : List Row} {ms : List Addr} {Ms : List MD} (h : MsAt C CM H t rs ms Ms) {i : Nat} {x : V} (hx : (ms.map V.ref)[i]? = some x) : ∃ m q, x = .ref m ∧ ms[i]? = some m ∧ Ms[i]? = some q ∧ MeanAt C CM H m t rs q.1 q.2 := by
  rw [List.getElem?_map] at hx
  obtain ⟨m, hm, rfl⟩ := Option.map_eq_some_iff.mp hx
  have hi : i < Ms.length := by rw [← h.len]; exact (List.getElem?_eq_some_iff.mp hm).1
  exact ⟨m, Ms[i], rfl, hm, List.getElem?_eq_getElem hi, h.at_ i m _ hm (List.getElem?_eq_getElem hi)⟩
/-- a list or a tuple that stands in the memory -/
def LT (H : Hp) (a : Addr) (xs : List V) : Prop := H a = some (.lst xs) ∨ H a = some (.tup xs)
theorem LT.same {H H' : Hp} {a : Addr} {xs : List V} (h : LT H a xs) (s : Same H H') : LT H' a xs := h.elim (fun h => .inl (s _ _ h)) fun h => .inr (s _ _ h)
theorem LT.eq {H H' : Hp} {a : Addr} {xs : List V} (h : LT H a xs) (s : Same H H') : H' a = H a := h.elim (fun h => by rw [h, s _ _ h]) fun h => by rw [h, s _ _ h]
theorem LT.sq {K : PySem.W.Frag} {H : Hp} {a : Addr} {xs : List V} (h : LT H a xs) : SqX K H a xs := h.elim (fun h => .inl (SqL.of h)) fun h => .inr (sqT h)
theorem LT.sq' {K : PySem.W.Frag} {H : Hp} {a : Addr} {xs : List V} (h : LT H a xs) : SqL K H a xs ∨ SqT K H a xs := h.sq
theorem rd_ixLT {K : PySem.W.Frag} {H : Hp} {p : Addr} {xs : List V} {v : V} {Q : VK} {i : Int} (h : LT H p xs) (e : atI xs i = some v) (q : Q v H) : rIx K (.ref p) (.int i) H Q :=
  h.elim (fun h => .inl ⟨p, xs, i, v, rfl, rfl, SqL.of h, e, q⟩) fun h => .inr (.inl ⟨p, xs, i, v, rfl, rfl, sqT h, e, q⟩)
theorem wipe_set (σ : St) (j : Nat) (v : Option V) : wipe ((wipe σ [j]).set j v) [j] = wipe σ [j] := by
  simp [wipe, List.set_set]
/-- a comprehension that keeps some of several meanings: how many -/
theorem cnt_lc {J : It} {a D : Addr} {H : Hp} {ms : List Addr} {Ms : List MD} {σ : St} {j : Nat} {tt : TT} {P : MD → Bool} {Qd : Hp → Prop} (W : Walk J (ms.map V.ref).length (fun H' => H' a = H a) (YAt (ms.map V.ref))) (ha : LT H a (ms.map V.ref)) (hD : H D = none) (hl : ms.length = Ms.length) (h1000 : ms.length ≤ 100) (hj : j < σ.length)
    (ht : ∀ (i : Nat) (m : Addr) (q : MD) (H' : Hp), ms[i]? = some m → Ms[i]? = some q → Same H H' → ∀ Q' : Bool → Hp → Prop, Q' (P q) H' → tt ((wipe σ [j]).set j (some (.ref m))) H' Q')
    (hd : ∀ H' (xs : List V), Same H H' → H' D = some (.lst xs) → xs.length = (Ms.filter P).length → Qd H') :
    ∃ W : Nat → Nat → Hp → Prop, (∃ m, W 0 m (upd H D (.lst []))) ∧ ∀ i m H, W i m H →
      (J.stop i H ∧ Qd H) ∨ (J.go i H ∧ ∃ Nx : Hp → Prop, (∀ H', Nx H' → ∃ m', m' < m ∧ W (i + 1) m' H') ∧ ∀ x H', J.yld i H x H' → gName j x (wipe σ [j]) H' fun σ2 H2 => wipe σ2 [j] = wipe σ [j] ∧ tt σ2 H2 fun b H3 =>
        if b = true then tVar j σ2 H3 fun y H4 => ∃ acc, H4 D = some (.lst acc) ∧ acc.length < sizeLine ∧ Nx (upd H4 D (.lst (acc ++ [y]))) else Nx H3) := by
  have sj : j < (wipe σ [j]).length := by rw [wipe_length]; exact hj
  refine lc_it W (fun i H' => Same H H' ∧ ∃ xs : List V, H' D = some (.lst xs) ∧ xs.length = ((Ms.take i).filter P).length) ⟨Same.new hD, [], upd_same, by simp⟩ (fun i H' _ m => ha.eq m.1) ?_ ?_
  · rintro i x H1 H2 hi ⟨s1, xs, e1, l1⟩ ⟨rfl, hx⟩
    rw [List.getElem?_map] at hx
    obtain ⟨m, hm, rfl⟩ := Option.map_eq_some_iff.mp hx
    have hi2 : i < Ms.length := by rw [← hl]; exact (List.getElem?_eq_some_iff.mp hm).1
    have hq : Ms[i]? = some Ms[i] := List.getElem?_eq_getElem hi2
    have lx : xs.length ≤ 100 := by
      rw [l1]
      have := List.length_filter_le P (Ms.take i)
      rw [List.length_take] at this
      omega
    refine ⟨wipe_set _ _ _, ht i m Ms[i] H2 hm hq s1 _ ?_⟩
    by_cases hc : P Ms[i] = true
    · rw [if_pos hc]
      refine ⟨V.ref m, List.getElem?_set_self sj, xs, e1, small1000 (by omega), fun b o e => ?_, _, upd_same, ?_⟩
      · rw [upd_ne (fun y => by rw [y, hD] at e; cases e)]
        exact s1 _ _ e
      · rw [take_more hq, List.filter_append, List.filter_cons_of_pos hc, List.length_append, List.length_append, l1]; rfl
    · rw [if_neg hc]
      refine ⟨s1, xs, e1, ?_⟩
      rw [take_more hq, List.filter_append, List.filter_cons_of_neg hc, List.filter_nil, List.append_nil]
      exact l1
  · rintro H1 ⟨s1, xs, e1, l1⟩
    rw [List.length_map, hl, List.take_length] at l1
    exact hd H1 xs s1 e1 l1
/-- x != y of two lists of the same objects -/
def rNeId (K : PySem.W.Frag) : R2 := fun x y H Q => ∃ (a b : Addr) (ms : List Addr), x = .ref a ∧ y = .ref b ∧ SqL K H a (ms.map V.ref) ∧ SqL K H b (ms.map V.ref) ∧ Q (.bl false) H
theorem vals_refs : ∀ {ms : List Addr} {us : List Value}, Vals (ms.map V.ref) us → us = ms.map Value.ref
  | [], us, h => by cases h; rfl
  | m :: ms, us, h => by
    cases h with
    | cons a b =>
      cases a
      rw [vals_refs b]; rfl
theorem op_neId {X : Cx} (hu : X.A.units + 64 < cLine) : OpR X (compareOp .NotEq) (rNeId X.K) := by
  intro pins s σ H x y v u Q I rx ry h
  obtain ⟨a, b, ms, rfl, rfl, ha, hb, q⟩ := h
  cases (show v = Value.ref a from rx)
  cases (show u = Value.ref b from ry)
  obtain ⟨us, r1, p1, _⟩ := I.list ha
  obtain ⟨ws, r2, p2, _⟩ := I.list hb
  have e1 := vals_refs r1
  have e2 := vals_refs r2
  subst e1; subst e2
  refine SeqAt.RcNeAt.lists p1.isList p2.isList rfl (by omega) (e := fun _ => true) (fun j h1 h2 => SeqAt.EqAt.same _) _ _ _ _ ?_
  rw [show ((List.range (ms.map Value.ref).toArray.size).all fun _ => true) = true from List.all_eq_true.mpr fun _ _ => rfl]
  exact ⟨.bl false, H, I, rfl, q⟩
end Ts

set_option maxRecDepth 100000
set_option maxHeartbeats 4000000
namespace Ts
open PySem L2
/-! ### the sum of what is unlike -/
def sumD (Ms : List MD) (d : Bool) (T : List Str) : Nat := (Ms.map fun q => (if decide (q.1 ≠ d) = true then 1 else 0) + ((T.filter fun z => !decide (z ∈ q.2)).length + (q.2.filter fun z => !decide (z ∈ T)).length)).sum
def midD (Ms : List MD) : Bool := decide (Ms.length < 2 * cntD Ms)
def midT (rs : List Row) (Ms : List MD) : List Str := (names rs).filter fun z => decide (Ms.length < 2 * cntT Ms z)
def halfL (rs : List Row) (Ms : List MD) : List Str := (plc rs).filter fun z => decide (2 * vt Ms z = Ms.length)
theorem sub_filter {L T : List Str} (nd : L.Nodup) (h : T.Sublist L) : T = L.filter fun z => decide (z ∈ T) := by
  induction h with
  | slnil => rfl
  | @cons l1 l2 a h ih =>
    have nd2 := (List.nodup_cons.mp nd).2
    have ha : a ∉ l1 := fun q => (List.nodup_cons.mp nd).1 (h.subset q)
    rw [List.filter_cons_of_neg (by simpa using ha)]
    exact ih nd2
  | @cons_cons l1 l2 a h ih =>
    have nd2 := (List.nodup_cons.mp nd).2
    rw [List.filter_cons_of_pos (by simp)]
    congr 1
    refine (ih nd2).trans (List.filter_congr fun z hz => ?_)
    have : z ≠ a := fun e => (List.nodup_cons.mp nd).1 (e ▸ hz)
    simp [this]
theorem two_filters (p q r : Str → Bool) : ∀ L : List Str, (∀ z ∈ L, (p z = true ∧ q z = false ∧ r z = true) ∨ (p z = false ∧ q z = true ∧ r z = true) ∨ (p z = false ∧ q z = false ∧ r z = false)) → (L.filter p).length + (L.filter q).length = (L.filter r).length
  | [], _ => rfl
  | z :: L, h => by
    have ih := two_filters p q r L fun y hy => h y (List.mem_cons_of_mem _ hy)
    rcases h z (List.mem_cons_self ..) with ⟨h1, h2, h3⟩ | ⟨h1, h2, h3⟩ | ⟨h1, h2, h3⟩
    · rw [List.filter_cons_of_pos h1, List.filter_cons_of_neg (by simp [h2]), List.filter_cons_of_pos h3, List.length_cons, List.length_cons]; omega
    · rw [List.filter_cons_of_neg (by simp [h1]), List.filter_cons_of_pos h2, List.filter_cons_of_pos h3, List.length_cons, List.length_cons]; omega
    · rw [List.filter_cons_of_neg (by simp [h1]), List.filter_cons_of_neg (by simp [h2]), List.filter_cons_of_neg (by simp [h3])]; exact ih
theorem unlike_len {L T U : List Str} (nd : L.Nodup) (hT : T.Sublist L) (hU : U.Sublist L) : (T.filter fun z => !decide (z ∈ U)).length + (U.filter fun z => !decide (z ∈ T)).length = (L.filter fun z => decide (z ∈ T) != decide (z ∈ U)).length := by
  have e1 : (T.filter fun z => !decide (z ∈ U)) = L.filter fun z => (!decide (z ∈ U)) && decide (z ∈ T) := by
    conv => lhs; rw [sub_filter nd hT]
    rw [List.filter_filter]
  have e2 : (U.filter fun z => !decide (z ∈ T)) = L.filter fun z => (!decide (z ∈ T)) && decide (z ∈ U) := by
    conv => lhs; rw [sub_filter nd hU]
    rw [List.filter_filter]
  rw [e1, e2]
  refine two_filters _ _ _ L fun z _ => ?_
  by_cases h1 : z ∈ T <;> by_cases h2 : z ∈ U <;> simp [h1, h2]
theorem sum_add {α : Type} (f g : α → Nat) : ∀ L : List α, (L.map fun z => f z + g z).sum = (L.map f).sum + (L.map g).sum
  | [] => rfl
  | x :: L => by
    simp only [List.map_cons, List.sum_cons, sum_add f g L]
    omega
theorem sum_zero {α : Type} : ∀ L : List α, (L.map fun _ => 0).sum = 0
  | [] => rfl
  | x :: L => by simp only [List.map_cons, List.sum_cons, sum_zero L]
theorem len_sum {α : Type} (p : α → Bool) : ∀ L : List α, (L.filter p).length = (L.map fun z => if p z = true then 1 else 0).sum
  | [] => rfl
  | x :: L => by
    by_cases h : p x = true
    · rw [List.filter_cons_of_pos h, List.length_cons, List.map_cons, List.sum_cons, if_pos h, len_sum p L]; omega
    · rw [List.filter_cons_of_neg h, List.map_cons, List.sum_cons, if_neg h, len_sum p L]; omega
theorem count_both {α β : Type} (f : α → β → Bool) (L : List β) : ∀ Ms : List α, (Ms.map fun q => (L.filter (f q)).length).sum = (L.map fun z => (Ms.filter fun q => f q z).length).sum
  | [] => by
    show 0 = (L.map fun _ => 0).sum
    rw [sum_zero]
  | q :: Ms => by
    rw [List.map_cons, List.sum_cons, count_both f L Ms, len_sum, ← sum_add]
    refine congrArg List.sum (List.map_congr_left fun z _ => ?_)
    by_cases h : f q z = true
    · rw [if_pos h, List.filter_cons_of_pos (p := fun q => f q z) h, List.length_cons]; omega
    · rw [if_neg h, List.filter_cons_of_neg (p := fun q => f q z) h]; omega
theorem sum_le {α : Type} {f g : α → Nat} : ∀ {L : List α}, (∀ z ∈ L, f z ≤ g z) → (L.map f).sum ≤ (L.map g).sum
  | [], _ => Nat.le_refl _
  | x :: L, h => by
    rw [List.map_cons, List.map_cons, List.sum_cons, List.sum_cons]
    exact Nat.add_le_add (h x (List.mem_cons_self ..)) (sum_le fun z hz => h z (List.mem_cons_of_mem _ hz))
theorem filter_compl {α : Type} (p : α → Bool) : ∀ L : List α, (L.filter p).length + (L.filter fun x => !p x).length = L.length
  | [] => rfl
  | x :: L => by
    have ih := filter_compl p L
    by_cases h : p x = true
    · rw [List.filter_cons_of_pos h, List.filter_cons_of_neg (by simp [h]), List.length_cons, List.length_cons]; omega
    · rw [List.filter_cons_of_neg h, List.filter_cons_of_pos (by simp [h]), List.length_cons, List.length_cons]; omega
theorem sumD_eq {rs : List Row} (hv : Valid rs) {Ms : List MD} {d : Bool} {T : List Str} (hM : ∀ q ∈ Ms, q.2.Sublist (names rs)) (hT : T.Sublist (names rs)) :
    sumD Ms d T = (Ms.filter fun q => decide (q.1 ≠ d)).length + ((names rs).map fun z => (Ms.filter fun q => decide (z ∈ T) != decide (z ∈ q.2)).length).sum := by
  unfold sumD
  rw [sum_add, ← len_sum, ← count_both]
  congr 1
  exact congrArg List.sum (List.map_congr_left fun q hq => unlike_len hv.nodup hT (hM q hq))
theorem part_in {Ms : List MD} {z : Str} {b : Bool} : (Ms.filter fun q => b != decide (z ∈ q.2)).length = if b = true then Ms.length - cntT Ms z else cntT Ms z := by
  have h := filter_compl (fun q : MD => decide (z ∈ q.2)) Ms
  have e : (Ms.filter fun q => decide (z ∈ q.2)).length = cntT Ms z := rfl
  cases b with
  | true =>
    rw [if_pos rfl]
    have e2 : (Ms.filter fun q => true != decide (z ∈ q.2)) = Ms.filter fun q => !decide (z ∈ q.2) := List.filter_congr fun q _ => by cases decide (z ∈ q.2) <;> rfl
    rw [e2]
    have h' : (Ms.filter fun q : MD => decide (z ∈ q.2)).length + (Ms.filter fun q => !decide (z ∈ q.2)).length = Ms.length := h
    omega
  | false =>
    rw [if_neg (by simp)]
    have e2 : (Ms.filter fun q => false != decide (z ∈ q.2)) = Ms.filter fun q => decide (z ∈ q.2) := List.filter_congr fun q _ => by cases decide (z ∈ q.2) <;> rfl
    rw [e2]; rfl
theorem part_d {Ms : List MD} {d : Bool} : (Ms.filter fun q => decide (q.1 ≠ d)).length = if d = true then Ms.length - cntD Ms else cntD Ms := by
  have h := filter_compl (fun q : MD => q.1) Ms
  cases d with
  | true =>
    rw [if_pos rfl]
    have e2 : (Ms.filter fun q => decide (q.1 ≠ true)) = Ms.filter fun q => !q.1 := List.filter_congr fun q _ => by cases q.1 <;> rfl
    rw [e2]
    unfold cntD
    omega
  | false =>
    rw [if_neg (by simp)]
    have e2 : (Ms.filter fun q => decide (q.1 ≠ false)) = Ms.filter fun q => q.1 := List.filter_congr fun q _ => by cases q.1 <;> rfl
    rw [e2]; rfl
theorem mid_least {rs : List Row} (hv : Valid rs) {Ms : List MD} {d : Bool} {T : List Str} (hM : ∀ q ∈ Ms, q.2.Sublist (names rs)) (hT : T.Sublist (names rs)) : sumD Ms (midD Ms) (midT rs Ms) ≤ sumD Ms d T := by
  have hF : (midT rs Ms).Sublist (names rs) := List.filter_sublist
  rw [sumD_eq hv hM hT, sumD_eq hv hM hF]
  refine Nat.add_le_add ?_ (sum_le fun z hz => ?_)
  · rw [part_d, part_d]
    have h : cntD Ms ≤ Ms.length := List.length_filter_le _ _
    by_cases c : Ms.length < 2 * cntD Ms
    · rw [show midD Ms = true from decide_eq_true c, if_pos rfl]
      cases d <;> simp <;> omega
    · rw [show midD Ms = false from decide_eq_false c, if_neg (by simp)]
      cases d <;> simp <;> omega
  · rw [part_in, part_in]
    have h : cntT Ms z ≤ Ms.length := List.length_filter_le _ _
    have e : z ∈ midT rs Ms ↔ Ms.length < 2 * cntT Ms z := by
      unfold midT
      rw [List.mem_filter, decide_eq_true_eq]
      exact ⟨fun h => h.2, fun h => ⟨hz, h⟩⟩
    by_cases c : Ms.length < 2 * cntT Ms z
    · rw [decide_eq_true (e.mpr c), if_pos rfl]
      cases decide (z ∈ T) <;> simp <;> omega
    · rw [decide_eq_false (fun q => c (e.mp q)), if_neg (by simp)]
      cases decide (z ∈ T) <;> simp <;> omega
/-! ### all choices of some things -/
def allF (l : List Str) : List (List Str) := l.foldl (fun acc x => acc ++ acc.map (· ++ [x])) [[]]
theorem allF_snoc (l : List Str) (x : Str) : allF (l ++ [x]) = allF l ++ (allF l).map (· ++ [x]) := by
  unfold allF
  rw [List.foldl_append]
  rfl
theorem allF_more {l : List Str} {i : Nat} {x : Str} (h : l[i]? = some x) : allF (l.take (i + 1)) = allF (l.take i) ++ (allF (l.take i)).map (· ++ [x]) := by
  rw [take_more h, allF_snoc]
theorem allF_len : ∀ (n : Nat) (l : List Str), l.length = n → (allF l).length = 2 ^ n := by
  intro n
  induction n with
  | zero =>
    intro l h
    rw [List.length_eq_zero_iff.mp h]; rfl
  | succ n ih =>
    intro l h
    have hne : l ≠ [] := fun e => by rw [e] at h; cases h
    rw [← List.dropLast_concat_getLast hne, allF_snoc, List.length_append, List.length_map, ih l.dropLast (by rw [List.length_dropLast]; omega), Nat.pow_succ]
    omega
theorem allF_sub : ∀ (n : Nat) (l : List Str), l.length = n → ∀ T ∈ allF l, T.Sublist l := by
  intro n
  induction n with
  | zero =>
    intro l h T hT
    rw [List.length_eq_zero_iff.mp h] at hT ⊢
    have : T = [] := List.mem_singleton.mp hT
    rw [this]
    exact List.Sublist.refl _
  | succ n ih =>
    intro l h T hT
    have hne : l ≠ [] := fun e => by rw [e] at h; cases h
    rw [← List.dropLast_concat_getLast hne] at hT ⊢
    rw [allF_snoc] at hT
    have hl : l.dropLast.length = n := by rw [List.length_dropLast]; omega
    rcases List.mem_append.mp hT with hT | hT
    · exact (ih _ hl T hT).trans (List.sublist_append_left _ _)
    · obtain ⟨U, hU, rfl⟩ := List.mem_map.mp hT
      exact List.Sublist.append (ih _ hl U hU) (List.Sublist.refl _)
end Ts

set_option maxRecDepth 100000
set_option maxHeartbeats 4000000
namespace Ts
open PySem L2
/-- a comprehension that keeps some of several texts -/
theorem flt_lc {J : It} {n : Nat} {G : Hp → Prop} {Y : Nat → Hp → V → Hp → Prop} (W : Walk J n G Y) {l : List Str} {D : Addr} {H : Hp} {σ : St} {j : Nat} {tt : TT} {P : Str → Bool} {Qd : Hp → Prop} (hn : n = l.length) (hY : ∀ i H x H', Y i H x H' → H' = H ∧ ∃ z, l[i]? = some z ∧ x = V.str z) (hG : ∀ H', Same H H' → G H')
    (hD : H D = none) (hl : l.length ≤ 200) (hj : j < σ.length)
    (ht : ∀ (i : Nat) (z : Str) (H' : Hp), l[i]? = some z → Same H H' → ∀ Q' : Bool → Hp → Prop, Q' (P z) H' → tt ((wipe σ [j]).set j (some (.str z))) H' Q')
    (hd : ∀ H', Same H H' → H' D = some (.lst ((l.filter P).map V.str)) → Qd H') :
    ∃ W : Nat → Nat → Hp → Prop, (∃ m, W 0 m (upd H D (.lst []))) ∧ ∀ i m H, W i m H →
      (J.stop i H ∧ Qd H) ∨ (J.go i H ∧ ∃ Nx : Hp → Prop, (∀ H', Nx H' → ∃ m', m' < m ∧ W (i + 1) m' H') ∧ ∀ x H', J.yld i H x H' → gName j x (wipe σ [j]) H' fun σ2 H2 => wipe σ2 [j] = wipe σ [j] ∧ tt σ2 H2 fun b H3 =>
        if b = true then tVar j σ2 H3 fun y H4 => ∃ acc, H4 D = some (.lst acc) ∧ acc.length < sizeLine ∧ Nx (upd H4 D (.lst (acc ++ [y]))) else Nx H3) := by
  have sj : j < (wipe σ [j]).length := by rw [wipe_length]; exact hj
  refine lc_it W (fun i H' => Same H H' ∧ H' D = some (.lst (((l.take i).filter P).map V.str))) ⟨Same.new hD, upd_same⟩ (fun i H' _ m => hG _ m.1) ?_ ?_
  · rintro i x H1 H2 hi ⟨s1, e1⟩ y
    obtain ⟨rfl, z, hz, rfl⟩ := hY _ _ _ _ y
    have lx : (((l.take i).filter P).map V.str).length ≤ 200 := by
      rw [List.length_map]
      have := List.length_filter_le P (l.take i)
      rw [List.length_take] at this
      omega
    refine ⟨wipe_set _ _ _, ht i z H2 hz s1 _ ?_⟩
    by_cases hc : P z = true
    · rw [if_pos hc]
      refine ⟨V.str z, List.getElem?_set_self sj, _, e1, small1000 (by omega), fun b o e => ?_, ?_⟩
      · rw [upd_ne (fun y => by rw [y, hD] at e; cases e)]
        exact s1 _ _ e
      · rw [upd_same, take_more hz, List.filter_append, List.filter_cons_of_pos hc, List.map_append]; rfl
    · rw [if_neg hc]
      refine ⟨s1, ?_⟩
      rw [take_more hz, List.filter_append, List.filter_cons_of_neg hc, List.filter_nil, List.append_nil]
      exact e1
  · rintro H1 ⟨s1, e1⟩
    rw [hn, List.take_length] at e1
    exact hd H1 s1 e1
theorem yat_str {l : List Str} : ∀ i H x H', YAt (l.map V.str) i H x H' → H' = H ∧ ∃ z, l[i]? = some z ∧ x = V.str z := fun i H x H' ⟨h, hx⟩ => by
  rw [List.getElem?_map] at hx
  obtain ⟨z, hz, rfl⟩ := Option.map_eq_some_iff.mp hx
  exact ⟨h, z, hz, rfl⟩
def LENR (K : PySem.W.Frag) : List V → Hp → VK → Prop := fun xs H Q => ∃ p ys, xs = [V.ref p] ∧ (SqL K H p ys ∨ SqT K H p ys) ∧ Q (V.int ↑ys.length) H
def rGtI : R2 := rI0 fun i j => .bl (decide (j < i))
theorem lock_back {H H' : Hp} {d : Addr} {u : HO} {od : Obj} (hd : H d = some u) (s : Same (upd H d (.frz od u)) H') : Same H (upd H' d u) := fun b o e => by
  by_cases q : b = d
  · rw [q, upd_same, ← e, q]; exact hd.symm
  · rw [upd_ne q]; exact s _ _ (by rw [upd_ne q]; exact e)
theorem lock_lt {H H' : Hp} {d a : Addr} {u : HO} {od : Obj} {xs : List V} (n : a ≠ d) (h : LT H a xs) (s : Same (upd H d (.frz od u)) H') : LT H' a xs := h.elim (fun h => .inl (s _ _ (by rw [upd_ne n]; exact h))) fun h => .inr (s _ _ (by rw [upd_ne n]; exact h))
theorem mid_turns {rs : List Row} (hv : Valid rs) (Ms : List MD) : turnsL rs (((plc rs).filter fun z => decide (Ms.length < 2 * vt Ms z)).filter fun z => decide (z ≠ ("top" : Str))) = midT rs Ms := by
  unfold turnsL midT
  refine List.filter_congr fun z hz => decide_eq_decide.mpr ?_
  have nt : z ≠ ("top" : Str) := fun e => top_not hv (e ▸ hz)
  have e : vt Ms z = cntT Ms z := if_neg nt
  rw [List.mem_filter, List.mem_filter, decide_eq_true_eq, decide_eq_true_eq, e]
  exact ⟨fun h => h.1.2, fun h => ⟨⟨List.mem_cons_of_mem _ hz, h⟩, nt⟩⟩
theorem mid_free {C CM : Addr} {H : Hp} {t : Addr} {rs : List Row} {ms : List Addr} {Ms : List MD} (hM : MsAt C CM H t rs ms Ms) : ∀ z ∈ ((plc rs).filter fun z => decide (Ms.length < 2 * vt Ms z)).filter fun z => decide (z ≠ ("top" : Str)), Free rs z := fun z hz => by
  rw [List.mem_filter, List.mem_filter, decide_eq_true_eq, decide_eq_true_eq] at hz
  obtain ⟨⟨_, h⟩, nt⟩ := hz
  have e : vt Ms z = cntT Ms z := if_neg nt
  rw [e] at h
  have : 0 < cntT Ms z := by omega
  obtain ⟨q, hq⟩ := List.exists_mem_of_length_pos this
  rw [List.mem_filter, decide_eq_true_eq] at hq
  exact hM.fr q hq.1 z hq.2
def spMiddle (C CM : Addr) : Sp := fun vs H Q _ => ∃ (p t : Addr) (ms : List Addr) (Ms : List MD) (rs : List Row), vs = [.ref p] ∧ LT H p (ms.map V.ref) ∧ ms ≠ [] ∧ ms.length ≤ 100 ∧ MsAt C CM H t rs ms Ms ∧ TreeAt C H t rs ∧
  ∀ r m l H', Same H H' → MeanAt C CM H' m t rs (midD Ms) (midT rs Ms) → H l = none → H' l = some (.lst ((halfL rs Ms).map V.str)) → H' r = some (.tup [.ref m, .ref l]) → Q (.ref r) H'
theorem plc_len (rs : List Row) : (plc rs).length = rs.length + 1 := by unfold plc names; rw [List.length_cons, List.length_map]
section
variable {P : Program} {w : World} {K : PySem.W.Frag} {mg : Str → Option Value} {base : Heap} {C CM : Addr}
abbrev nMid : List Str := ["meanings", "meaning", "tree", "votes", "box", "most", "halved", "turns", "one"]
theorem sc_middle : FnScope nMid ["meanings"] (defScope s_middle) := ⟨rfl, rfl, rfl, by decide +kernel, rfl, by decide +kernel, by decide +kernel⟩
theorem ok_middle {fM : Addr} {fdM : FuncData} (D : DefAt K mg "middle" s_middle ["meanings"]) (B : TxB mg) (TC : TxC K mg) (T : TxT K mg C) (M : TxM K mg CM)
    (Dc : DefAt K mg "check_trees" s_check_trees ["one", "other"]) (Gc : FnOk P w K mg base CX0 4 Dc.f Dc.fd ["one", "other"] (spCheckTrees C CM))
    (mB : MethAt K C "below" "Tree.below" s_Tree_below ["self", "box"]) (GB : FnOk P w K mg base CX0 5 mB.f mB.fd ["self", "box"] (spListOf C belowL))
    (MM : Mk K CM fM) (bM : Binds K fdM ["self", "tree", "default", "turns"] []) (GM : FnOk P w K mg base CX0 7 fM fdM ["self", "tree", "default", "turns"] (spMeaningInit K C CM)) :
    FnOk P w K mg base CX0 9 D.f D.fd ["meanings"] (spMiddle C CM) := by
  obtain ⟨t1, gT⟩ := TC.top
  refine D.F.ok sc_middle (fun vs H Q E h => ?_) (fun cdv A outer s H vs Q E hr h => ?_)
  · obtain ⟨p, t, ms, Ms, rs, rfl, _⟩ := h
    rfl
  · obtain ⟨p, t, ms, Ms, rs, rfl, hp, hne, hl100, hM, ht, hq⟩ := h
    have hu := hu_of hr
    have hr3 : Room 4 _ := hr.mono (by decide)
    have hr4 : Room 5 _ := hr.mono (by decide)
    have hr7 : Room 8 _ := hr.mono (by decide)
    refine ⟨_, pss_cons (ps_for PassesOwn.never rfl (pi_seqX (i := 0) (pv 0)) (pg_name (i := 1) sc_middle.nd rfl (.inl rfl))
        (pss_one (ps_expr (pe_call Gc hr3 rfl Dc.g Dc.F.kp Dc.b .nil pass0 (pa_cons (pe_ix ix_seq (pv 0) pe_int (fun _ _ => rfl)) (pa_cons (pv 1) pa_nil))))))
      (pss_cons (ps_set (i := 2) sc_middle.nd rfl (.inl rfl) (pe_fld (pe_ix ix_seq (pv 0) pe_int (fun _ _ => rfl)) rfl))
      (pss_cons (ps_set (i := 3) sc_middle.nd rfl (.inr rfl) (pe_disp (pps_cons (pe_glob (by rfl) gT (v := .str ("top" : Str)) ⟨_, rfl⟩) (pe_callB call_len_seq (by rfl) B.len PySem.boot_len (pa_cons (pe_lc (own := [("one", 8)]) (g := gName 8) (tt := tTest (tFld K (tVar 8) "default")) (te := tVar 8) rfl sc_middle.nd (pi_seqX (i := 0) (pv 0)) (blkOk_by (N := nMid) (sc := defScope s_middle) (by decide +kernel))
          (fun _ _ _ _ _ => pg_name (i := 8) sc_middle.nd rfl (Or.inl rfl)) (fun _ _ _ _ _ => by exact pts_one (pt_val (pe_fld (pv 8) rfl))) (fun _ _ _ _ _ => pv 8)) pa_nil)) pps_nil) (by rfl) (by rfl) (fun z => by cases z) (by decide)))
      (pss_cons (ps_for PassesOwn.never rfl (pi_list (pe_meth (pv 2) T.cl mB.m GB hr4 mB.b .nil pass0 (pa_cons (pe_glob (by rfl) gT (v := .str ("top" : Str)) ⟨_, rfl⟩) pa_nil))) (pg_name (i := 4) sc_middle.nd rfl (.inr rfl))
        (pss_one (ps_dput hu (pv 3) (pv 4) (pe_callB call_len_seq (by rfl) B.len PySem.boot_len (pa_cons (pe_lc (own := [("one", 8)]) (g := gName 8) (tt := tTest (tOp (rIn K false) (tVar 4) (tFld K (tVar 8) "turns"))) (te := tVar 8) rfl sc_middle.nd (pi_seqX (i := 0) (pv 0)) (blkOk_by (N := nMid) (sc := defScope s_middle) (by decide +kernel))
          (fun _ _ _ _ _ => pg_name (i := 8) sc_middle.nd rfl (Or.inl rfl)) (fun _ _ _ _ _ => by exact pts_one (pt_cmpR op_in_seq (pv 4) (pe_fld (pv 8) rfl) (by rfl))) (fun _ _ _ _ _ => pv 8)) pa_nil)) rfl)))
      (pss_cons (ps_lock (ps_setLc (i := 5) (own := [("box", 4)]) (g := gName 4) (tt := tTest (tOp rGtI (tOp (rI CMul fun i j => .int (i * j)) (tC (.int 2)) (tDGet (tVar 3) (tVar 4))) (tCB (LENR K) (tCons (tVar 0) tNil)))) (te := tVar 4) rfl sc_middle.nd rfl rfl (sw_true rfl rfl rfl (by decide +kernel)) (pi_keys (pv 3)) (blkOk_by (N := nMid) (sc := defScope s_middle) (by decide +kernel))
          (fun _ _ _ _ _ => pg_name (i := 4) sc_middle.nd rfl (Or.inl rfl)) (fun _ _ _ _ _ => by exact pts_one (pt_cmpR op_gt (pe_op op_mul pe_int (pe_dget hu (pv 3) (pv 4) (fun _ _ => rfl))) (pe_callB call_len_seq (by rfl) B.len PySem.boot_len (pa_cons (pv 0) pa_nil)) (nomark _))) (fun _ _ _ _ _ => pv 4)))
      (pss_cons (ps_lock (ps_setLc (i := 6) (own := [("box", 4)]) (g := gName 4) (tt := tTest (tOp rEq (tOp (rI CMul fun i j => .int (i * j)) (tC (.int 2)) (tDGet (tVar 3) (tVar 4))) (tCB (LENR K) (tCons (tVar 0) tNil)))) (te := tVar 4) rfl sc_middle.nd rfl rfl (sw_true rfl rfl rfl (by decide +kernel)) (pi_keys (pv 3)) (blkOk_by (N := nMid) (sc := defScope s_middle) (by decide +kernel))
          (fun _ _ _ _ _ => pg_name (i := 4) sc_middle.nd rfl (Or.inl rfl)) (fun _ _ _ _ _ => by exact pts_one (pt_cmpR op_eq (pe_op op_mul pe_int (pe_dget hu (pv 3) (pv 4) (fun _ _ => rfl))) (pe_callB call_len_seq (by rfl) B.len PySem.boot_len (pa_cons (pv 0) pa_nil)) (nomark _))) (fun _ _ _ _ _ => pv 4)))
      (pss_cons (ps_setLc (i := 7) (own := [("box", 4)]) (g := gName 4) (tt := tTest (tOp rNe (tVar 4) (tC (.str ("top" : Str))))) (te := tVar 4) rfl sc_middle.nd rfl rfl (sw_true rfl rfl rfl (by decide +kernel)) (pi_list (pv 5)) (blkOk_by (N := nMid) (sc := defScope s_middle) (by decide +kernel))
          (fun _ _ _ _ _ => pg_name (i := 4) sc_middle.nd rfl (Or.inl rfl)) (fun _ _ _ _ _ => by exact pts_one (pt_cmpR op_ne (pv 4) (pe_glob (by rfl) gT (v := .str ("top" : Str)) ⟨_, rfl⟩) (nomark _))) (fun _ _ _ _ _ => pv 4))
      (pss_one (ps_ret (pe_tup (pa_cons (pe_make MM GM hr7 rfl M.g bM .nil pass0 (pa_cons (pv 2) (pa_cons (pe_cmpR op_in_seq (pe_glob (by rfl) gT (v := .str ("top" : Str)) ⟨_, rfl⟩) (pv 5) (by rfl)) (pa_cons (pv 7) pa_nil)))) (pa_cons (pv 6) pa_nil))))))))))), ?_⟩
    have hv := ht.val
    have hl := ht.len
    obtain ⟨m0, h0⟩ : ∃ m0, ms[0]? = some m0 := by
      cases ms with
      | nil => exact absurd rfl hne
      | cons m0 _ => exact ⟨m0, rfl⟩
    have a0 : atI (ms.map V.ref) 0 = some (.ref m0) := at_of (z := 0) (j := 0) (by omega) (by rw [List.getElem?_map, h0]; rfl)
    obtain ⟨_, q0, e0, _, hq0, hm0⟩ := hM.get (i := 0) (x := .ref m0) (by rw [List.getElem?_map, h0]; rfl)
    cases V.ref.inj e0
    refine ⟨p, _, rfl, hp.sq, fun J W => ?_⟩
    refine for_it W (fun i σ H' => ∃ v : Option V, σ = [some (.ref p), v, none, none, none, none, none, none, none] ∧ H' = H) ⟨none, rfl, rfl⟩ (fun i σ H' _ ⟨_, _, e⟩ => by rw [e]) ?_ ?_
    · rintro i x σ H2 H3 hi ⟨v, rfl, rfl⟩ ⟨rfl, hxi⟩
      obtain ⟨m, q, rfl, hm, hq', hma⟩ := hM.get hxi
      exact ⟨_, rfl, rd_ixLT hp a0 ⟨_, rfl, m0, m, t, t, rs, _, _, _, _, rfl, hm0, hma, _, rfl, rfl⟩⟩
    rintro σ H2 ⟨v1, rfl, rfl⟩
    obtain ⟨dx0, u0, k0, e1, e2, e3⟩ := hm0.ex
    refine ⟨_, rfl, rd_ixLT hp a0 ⟨m0, CM, dx0, _, _, rfl, e1, M.cl, M.nt, mf_t _ _ _ _, ?_⟩⟩
    -- votes
    refine fun wd hwd => ?_
    have s1 : Same H2 (upd H2 wd (.dK [])) := Same.new hwd
    have w1 : (upd H2 wd (.dK [])) wd = some (.dK []) := upd_same
    generalize upd H2 wd (.dK []) = H1 at s1 w1
    refine ⟨p, _, rfl, (hp.same s1).sq, fun J W D hD => ?_⟩
    refine cnt_lc (P := fun q => q.1) W (hp.same s1) hD hM.len hl100 (by simp) (fun i m q H' hm hq2 s Q' hQ => ?_) (fun H3 xs s3 e3' l3 => ?_)
    · obtain ⟨dx, u, k, g1, g2, g3⟩ := ((hM.at_ i m q hm hq2).same (s1.trans s)).ex
      exact ⟨V.ref m, rfl, m, CM, dx, _, _, rfl, g1, M.cl, M.nd, mf_d _ _ _ _, _, rfl, hQ⟩
    have l3' : xs.length = vt Ms ("top" : Str) := by
      rw [show vt Ms ("top" : Str) = cntD Ms from if_pos rfl]; exact l3
    refine ⟨D, _, rfl, .inl (SqL.of e3'), s3 _ _ w1, [(.inr ("top" : Str), .int (xs.length : Nat))], rfl, (by show 1 ≤ 15; decide), ?_⟩
    have s4 : Same H2 (upd H3 wd (.dK (mergeK [] [(.inr ("top" : Str), .int (xs.length : Nat))]))) := smu (s1.trans s3) hwd
    have w4 : (upd H3 wd (.dK (mergeK [] [(.inr ("top" : Str), .int (xs.length : Nat))]))) wd = some (.dK (kvI (vt Ms) ((plc rs).take 1))) := by
      rw [upd_same, l3']; rfl
    generalize upd H3 wd (.dK (mergeK [] [(.inr ("top" : Str), .int (xs.length : Nat))])) = H4 at s4 w4
    clear e3' s3 l3 l3' hD
    obtain ⟨tdx, tq, tf_, tk, tp, tqs, h1, _⟩ := id ht.ex
    have noB : (tf tq tf_ tk tp).lookup ("below" : Str) = none := tf_no _ _ _ _ (by decide +kernel) (by decide +kernel) (by decide +kernel) (by decide +kernel)
    refine ⟨_, rfl, t, tdx, _, rfl, s4 _ _ h1, noB, t, ("top" : Str), rs, rfl, ht.same s4, .inl rfl, fun bl H5 hbl s5 e5 => ?_⟩
    rw [below_top hv] at e5
    have nw : ∀ {b : Addr} {o : HO}, H2 b = some o → b ≠ wd := fun {b o} e => ne_of_none e hwd
    have nbw : bl ≠ wd := fun e => by rw [e, w4] at hbl; cases hbl
    have s25 := s4.trans s5
    refine ⟨bl, rfl, ⟨_, SqL.of e5⟩, ?_⟩
    refine for_list (K := K) (a := bl) (xs := (names rs).map V.str) (fun i σ H' => ∃ v4 : Option V, σ = [some (.ref p), v1, some (.ref t), some (.ref wd), v4, none, none, none, none] ∧ SB wd H5 H' ∧ H' wd = some (.dK (kvI (vt Ms) ((plc rs).take (i + 1))))) ⟨_, rfl, SB.refl _ _, s5 _ _ w4⟩ (fun i σ H' _ ⟨_, _, sb, _⟩ => SqL.of (sb _ _ nbw e5)) ?_ ?_
    · rintro i x σ H6 hx ⟨v4, rfl, sb, hw⟩
      rw [List.getElem?_map] at hx
      obtain ⟨z, hz, rfl⟩ := Option.map_eq_some_iff.mp hx
      have hzm := List.mem_of_getElem? hz
      have nt : z ≠ ("top" : Str) := fun e => top_not hv (e ▸ hzm)
      have s6 : Same H2 H6 := fun b o e => sb _ _ (nw e) (s25 _ _ e)
      refine ⟨p, _, rfl, (hp.same s6).sq, fun J W D hD => ?_⟩
      refine cnt_lc (P := fun q => decide (z ∈ q.2)) W (hp.same s6) hD hM.len hl100 (by simp) (fun i m q H' hm hq2 s Q' hQ => ?_) (fun H7 xs s7 e7 l7 => ?_)
      · obtain ⟨dx, u, k, g1, g2, g3⟩ := ((hM.at_ i m q hm hq2).same (s6.trans s)).ex
        refine ⟨_, rfl, V.ref m, rfl, m, CM, dx, _, _, rfl, g1, M.cl, M.nu, mf_u _ _ _ _, u, _, rfl, .inr (sqT g2), rfl, flat_strs _, _, rfl, ?_⟩
        have e : (if false = true then !inV (.str z) (q.2.map V.str) else inV (.str z) (q.2.map V.str)) = decide (z ∈ q.2) := by
          rw [if_neg Bool.false_ne_true, inV_strs]
        rw [e]
        exact hQ
      refine ⟨D, _, rfl, .inl (SqL.of e7), ?_⟩
      have hp1 : (plc rs)[i + 1]? = some z := by
        show (("top" : Str) :: names rs)[i + 1]? = some z
        rw [List.getElem?_cons_succ]; exact hz
      refine ⟨_, rfl, _, rfl, wd, _, rfl, DPut.k (k := Sum.inr z) (s7 _ _ hw) (small1000 (by unfold kvI; rw [List.length_map, List.length_take, plc_len]; omega)), ?_⟩
      refine ⟨_, rfl, fun b o nb e => by rw [upd_ne nb]; exact s7 _ _ (sb b o nb e), ?_⟩
      have e9 : xs.length = vt Ms z := by rw [show vt Ms z = cntT Ms z from if_neg nt]; exact l7
      rw [upd_same, ← kvI_more (plc_nodup hv) (vt Ms) hp1, e9]
    rintro σ H6 ⟨v4, rfl, sb, hw⟩
    rw [show (plc rs).take (((names rs).map V.str).length + 1) = plc rs from by
      rw [List.length_map]
      exact List.take_of_length_le (Nat.le_refl _)] at hw
    have s6 : Same H2 H6 := fun b o e => sb _ _ (nw e) (s25 _ _ e)
    have npw : p ≠ wd := hp.elim (fun h => nw h) fun h => nw h
    have lpl : (plc rs).length ≤ 200 := by rw [plc_len]; omega
    have kN : (kvI (vt Ms) (plc rs)).length = (plc rs).length := by unfold kvI; rw [List.length_map]
    clear hbl e5 sb s25 s5 nbw
    -- most
    refine ⟨wd, _, hw, trivial, fun od => ?_⟩
    have lk : (upd H6 wd (.frz od (.dK (kvI (vt Ms) (plc rs))))) wd = some (.frz od (.dK (kvI (vt Ms) (plc rs)))) := upd_same
    refine ⟨_, rfl, wd, od, rfl, .inl ⟨_, lk, fun D hD => ?_⟩⟩
    refine flt_lc (walk_keys (d := wd) (o := od) (kvs := kvI (vt Ms) (plc rs))) (l := plc rs) (P := fun z => decide (Ms.length < 2 * vt Ms z)) kN (fun i H x H' ⟨h1, k', v', hk, h2⟩ => by
        obtain ⟨z, rfl, hz⟩ := kvI_at hk
        exact ⟨h1, z, hz, h2⟩) (fun H' s => s _ _ lk) hD lpl (by simp) (fun i z H' hz s Q' hQ => ?_) (fun H7 s7 e7 => ?_)
    · have dg : DGet H' wd (.str z) (some (.int (vt Ms z))) := .inl ⟨_, .inr z, .inr ⟨od, s _ _ lk⟩, rfl, (valV_kvI (vt Ms) (List.mem_of_getElem? hz)).symm⟩
      refine ⟨_, rfl, _, rfl, wd, _, rfl, dg, _, _, rfl, rfl, .inl ⟨by decide, by decide⟩, _, rfl, p, _, rfl, (lock_lt npw (hp.same s6) s).sq', _, _, rfl, rfl, _, rfl, ?_⟩
      have e : decide ((((ms.map V.ref).length : Nat) : Int) < 2 * ((vt Ms z : Nat) : Int)) = decide (Ms.length < 2 * vt Ms z) := decide_eq_decide.mpr (by rw [List.length_map, hM.len]; omega)
      rw [e]
      exact hQ
    refine ⟨s7 _ _ lk, ?_⟩
    have sA := lock_back hw s7
    have nDw : D ≠ wd := (ne_of_none lk hD).symm
    have eM : (upd H7 wd (.dK (kvI (vt Ms) (plc rs)))) D = some (.lst (((plc rs).filter fun z => decide (Ms.length < 2 * vt Ms z)).map V.str)) := by rw [upd_ne nDw]; exact e7
    have hwA : (upd H7 wd (.dK (kvI (vt Ms) (plc rs)))) wd = some (.dK (kvI (vt Ms) (plc rs))) := upd_same
    generalize upd H7 wd (.dK (kvI (vt Ms) (plc rs))) = H8 at sA eM hwA
    clear hD e7 s7 lk hw
    -- halved
    refine ⟨wd, _, hwA, trivial, fun od => ?_⟩
    have lk : (upd H8 wd (.frz od (.dK (kvI (vt Ms) (plc rs))))) wd = some (.frz od (.dK (kvI (vt Ms) (plc rs)))) := upd_same
    refine ⟨_, rfl, wd, od, rfl, .inl ⟨_, lk, fun Dh hDh => ?_⟩⟩
    refine flt_lc (walk_keys (d := wd) (o := od) (kvs := kvI (vt Ms) (plc rs))) (l := plc rs) (P := fun z => decide (2 * vt Ms z = Ms.length)) kN (fun i H x H' ⟨h1, k', v', hk, h2⟩ => by
        obtain ⟨z, rfl, hz⟩ := kvI_at hk
        exact ⟨h1, z, hz, h2⟩) (fun H' s => s _ _ lk) hDh lpl (by simp) (fun i z H' hz s Q' hQ => ?_) (fun H9 s9 e9 => ?_)
    · have dg : DGet H' wd (.str z) (some (.int (vt Ms z))) := .inl ⟨_, .inr z, .inr ⟨od, s _ _ lk⟩, rfl, (valV_kvI (vt Ms) (List.mem_of_getElem? hz)).symm⟩
      refine ⟨_, rfl, _, rfl, wd, _, rfl, dg, _, _, rfl, rfl, .inl ⟨by decide, by decide⟩, _, rfl, p, _, rfl, (lock_lt npw (hp.same (s6.trans sA)) s).sq', rfl, _, rfl, ?_⟩
      have e : decide (V.int (2 * ((vt Ms z : Nat) : Int)) = V.int (((ms.map V.ref).length : Nat) : Int)) = decide (2 * vt Ms z = Ms.length) := decide_eq_decide.mpr (by
        rw [List.length_map, hM.len]
        exact ⟨fun h => by have := V.int.inj h; omega, fun h => congrArg _ (by omega)⟩)
      rw [e]
      exact hQ
    refine ⟨s9 _ _ lk, ?_⟩
    have sB := lock_back hwA s9
    have nDh : Dh ≠ wd := (ne_of_none lk hDh).symm
    have eH : (upd H9 wd (.dK (kvI (vt Ms) (plc rs)))) Dh = some (.lst (((plc rs).filter fun z => decide (2 * vt Ms z = Ms.length)).map V.str)) := by rw [upd_ne nDh]; exact e9
    have fDh : H8 Dh = none := by rw [upd_ne nDh] at hDh; exact hDh
    generalize upd H9 wd (.dK (kvI (vt Ms) (plc rs))) = H10 at sB eH
    clear hDh e9 s9 lk hwA
    -- turns
    have eM2 := sB _ _ eM
    refine ⟨_, rfl, D, rfl, ⟨_, SqL.of eM2⟩, fun Dt hDt => ?_⟩
    refine flt_lc (walk_list (K := K) (a := D)) (l := (plc rs).filter fun z => decide (Ms.length < 2 * vt Ms z)) (P := fun z => decide (z ≠ ("top" : Str))) (by rw [List.length_map]) yat_str (fun H' s => SqL.of (s _ _ eM2)) hDt (Nat.le_trans (List.length_filter_le _ _) lpl) (by simp) (fun i z H' hz s Q' hQ => ?_) (fun H11 s11 e11 => ?_)
    · refine ⟨_, rfl, rfl, _, rfl, ?_⟩
      have e : (!decide (V.str z = V.str ("top" : Str))) = decide (z ≠ ("top" : Str)) := by
        by_cases q : z = ("top" : Str)
        · rw [q]; simp
        · have : V.str z ≠ V.str ("top" : Str) := fun e => q (V.str.inj e)
          simp [q, this]
      rw [e]
      exact hQ
    have sC := ((s6.trans sA).trans sB).trans s11
    refine ⟨_, rfl, _, rfl, D, _, rfl, .inl (SqL.of (s11 _ _ eM2)), rfl, flat_strs _, _, rfl, ?_⟩
    refine fun m dm nm nd _ => ⟨m, dm, t, Dt, _, _, rs, rfl, upd_same, (ht.same sC).same (mk_same0 nm nd), SqX.same (.inl (SqL.of e11)) (mk_same0 nm nd), mid_free hM, fun H12 sb12 hm => ⟨rfl, _, rfl, (by show 2 ≤ sizeLine; decide), fun r hr' => ?_⟩⟩
    have s12 := mk_same nm nd sb12
    have ed : (if false = true then !inV (.str ("top" : Str)) (((plc rs).filter fun z => decide (Ms.length < 2 * vt Ms z)).map V.str) else inV (.str ("top" : Str)) (((plc rs).filter fun z => decide (Ms.length < 2 * vt Ms z)).map V.str)) = midD Ms := by
      rw [if_neg Bool.false_ne_true, inV_strs]
      unfold midD
      refine decide_eq_decide.mpr ?_
      rw [List.mem_filter, decide_eq_true_eq, show vt Ms ("top" : Str) = cntD Ms from if_pos rfl]
      exact ⟨fun h => h.2, fun h => ⟨List.mem_cons_self .., h⟩⟩
    rw [ed, mid_turns hv] at hm
    have sD : Same H12 (upd H12 r (.tup [.ref m, .ref Dh])) := Same.new hr'
    refine hq r m Dh _ ((sC.trans s12).trans sD) (hm.same sD) ((s6.trans sA).free fDh) (sD _ _ (s12 _ _ (s11 _ _ eH))) upd_same
end
end Ts

set_option maxRecDepth 100000
set_option maxHeartbeats 4000000
namespace Ts
open PySem L2
def spParting (C CM : Addr) : Sp := fun vs H Q _ => ∃ (m m2 t t2 : Addr) (rs : List Row) (d d2 : Bool) (ts ts2 : List Str), vs = [.ref m, .ref m2] ∧ MeanAt C CM H m t rs d ts ∧ MeanAt C CM H m2 t2 rs d2 ts2 ∧ ∀ H', Same H H' → Q (optS (firstUn rs d ts d2 ts2)) H'
section
variable {P : Program} {w : World} {K : PySem.W.Frag} {mg : Str → Option Value} {base : Heap} {C CM : Addr}
abbrev nPart : List Str := ["one", "other", "box"]
theorem sc_parting : FnScope nPart ["one", "other"] (defScope s_parting) := ⟨rfl, rfl, rfl, by decide +kernel, rfl, by decide +kernel, by decide +kernel⟩
theorem ok_parting (D : DefAt K mg "parting" s_parting ["one", "other"]) (M : TxM K mg CM) (Dc : DefAt K mg "check_trees" s_check_trees ["one", "other"]) (Gc : FnOk P w K mg base CX0 4 Dc.f Dc.fd ["one", "other"] (spCheckTrees C CM)) :
    FnOk P w K mg base CX0 5 D.f D.fd ["one", "other"] (spParting C CM) := by
  refine D.F.ok sc_parting (fun vs H Q E h => ?_) (fun cdv A outer s H vs Q E hr h => ?_)
  · obtain ⟨m, m2, t, t2, rs, d, d2, ts, ts2, rfl, _⟩ := h
    rfl
  · obtain ⟨m, m2, t, t2, rs, d, d2, ts, ts2, rfl, hm, hm2, hq⟩ := h
    have hu := hu_of hr
    have hv := hm.tree.val
    obtain ⟨dx, u, k, h1, h2, h3⟩ := hm.ex
    obtain ⟨dx2, u2, k2, g1, g2, g3⟩ := hm2.ex
    refine ⟨_, pss_cons (ps_expr (pe_call Gc hr rfl Dc.g Dc.F.kp Dc.b .nil pass0 (pa_cons (pv 0) (pa_cons (pv 1) pa_nil))))
      (pss_cons (ps_lock (ps_for PassesOwn.never rfl (pi_keys (pe_fld (pv 0) rfl)) (pg_name (i := 2) sc_parting.nd rfl (.inl rfl))
        (pss_one (ps_if (pt_cmpR op_ne (pe_dget hu (pe_fld (pv 0) rfl) (pv 2) (fun _ _ => rfl)) (pe_dget hu (pe_fld (pv 1) rfl) (pv 2) (fun _ _ => rfl)) (nomark _)) (pss_one (ps_ret (pv 2))) pss_nil))))
      (pss_one (ps_ret pe_non))), ?_⟩
    refine ⟨_, rfl, _, rfl, m, m2, t, t2, rs, d, d2, ts, ts2, rfl, hm, hm2, ?_⟩
    refine ⟨k, _, h3, trivial, fun od => ?_⟩
    obtain ⟨Hl, El⟩ : ∃ Hx, Hx = upd H k (.frz od (.dK (kvM rs d ts rs))) := ⟨_, rfl⟩
    have lk : Hl k = some (.frz od (.dK (kvM rs d ts rs))) := by rw [El]; exact upd_same
    have l1 : Hl m = some (.ins CM dx (mf t u k d)) := by
      rw [El, upd_ne (fun e => by rw [e, h3] at h1; cases h1)]; exact h1
    have l2 : Hl m2 = some (.ins CM dx2 (mf t2 u2 k2 d2)) := by
      rw [El, upd_ne (fun e => by rw [e, h3] at g1; cases g1)]; exact g1
    have back : Same H (upd Hl k (.dK (kvM rs d ts rs))) := fun b o e => by
      by_cases q : b = k
      · rw [q, upd_same, ← e, q]; exact h3.symm
      · rw [upd_ne q, El, upd_ne q]; exact e
    have lk2 : ∃ kv, Rd Hl k2 (.dK kv) ∧ kv = kvM rs d2 ts2 rs := by
      by_cases q : k2 = k
      · rw [q] at g3
        rw [h3] at g3
        have e3 := HO.dK.inj (Option.some.inj g3)
        exact ⟨_, by rw [q]; exact .inr ⟨od, lk⟩, e3⟩
      · exact ⟨_, .inl (by rw [El, upd_ne q]; exact g3), rfl⟩
    obtain ⟨kv2, rd2, rfl⟩ := lk2
    rw [← El]
    clear El
    refine ⟨_, rfl, m, CM, dx, _, _, rfl, l1, M.cl, M.nk, mf_k _ _ _ _, k, od, rfl, .inl ⟨_, lk, ?_⟩⟩
    refine for_it (walk_keys (d := k) (o := od) (kvs := kvM rs d ts rs)) (fun i σ H' => ∃ v : Option V, σ = [some (.ref m), some (.ref m2), v] ∧ H' = Hl ∧ ∀ z ∈ (plc rs).take i, decide (valOf rs d ts z ≠ valOf rs d2 ts2 z) = false) ⟨none, rfl, rfl, fun z hz => by simp at hz⟩ (fun i σ H' _ ⟨_, _, e, _⟩ => by rw [e]; exact lk) ?_ ?_
    · rintro i x σ H2 H2' hi ⟨v, rfl, rfl, hall⟩ ⟨rfl, k', v', hk, rfl⟩
      obtain ⟨z, rfl, hz⟩ := kvM_plc hk
      have hzm := mem_plc.mp (List.mem_of_getElem? hz)
      have dg : DGet H2' k (.str z) (some (.bl (valOf rs d ts z))) := .inl ⟨_, .inr z, .inr ⟨od, lk⟩, rfl, (valV_kvM' hv d ts hzm).symm⟩
      have dg2 : DGet H2' k2 (.str z) (some (.bl (valOf rs d2 ts2 z))) := .inl ⟨_, .inr z, rd2, rfl, (valV_kvM' hv d2 ts2 hzm).symm⟩
      refine ⟨_, rfl, m, CM, dx, _, _, rfl, l1, M.cl, M.nk, mf_k _ _ _ _, _, rfl, k, _, rfl, dg, _, rfl, m2, CM, dx2, _, _, rfl, l2, M.cl, M.nk, mf_k _ _ _ _, _, rfl, k2, _, rfl, dg2, rfl, _, rfl, ?_⟩
      have e0 : (!decide (V.bl (valOf rs d ts z) = V.bl (valOf rs d2 ts2 z))) = decide (valOf rs d ts z ≠ valOf rs d2 ts2 z) := by
        cases valOf rs d ts z <;> cases valOf rs d2 ts2 z <;> rfl
      rw [e0]
      refine ite2 (fun hc => ?_) (fun hc => ?_)
      · refine ⟨_, rfl, lk, ?_⟩
        have ef : firstUn rs d ts d2 ts2 = some z := find_at hall hz hc
        have := hq _ back
        rw [ef] at this
        exact this
      · refine ⟨_, rfl, rfl, fun y hy => ?_⟩
        rw [take_more hz] at hy
        rcases List.mem_append.mp hy with hy | hy
        · exact hall y hy
        · rw [List.mem_singleton.mp hy]; simpa using hc
    · rintro σ H2 ⟨v, rfl, rfl, hall⟩
      refine ⟨lk, ?_⟩
      rw [kvM_len, List.take_length] at hall
      have ef : firstUn rs d ts d2 ts2 = none := List.find?_eq_none.mpr fun z hz => by rw [hall z hz]; exact Bool.false_ne_true
      have := hq _ back
      rw [ef] at this
      exact this
end
end Ts

set_option maxRecDepth 100000
set_option maxHeartbeats 4000000
namespace L2
open PySem PySem.Spec PyProof.Rows
/-! ### == of any thing and a text; != of lists of lists of one and the same thing; list.count of texts -/
theorem dict_eq_no_str (l : Addr) (o : Obj) (b : Str) (u : Tok) :
    Meets (Builtin.«dict.__eq__» ⟨[.ref l, .str b u], []⟩) (fun _ R s => s.heap.get? l = some o ∧ o.cls = .type "dict" ∧ R (.ok (.ret .notImplemented)) s) :=
  .of_wp fun prog w A R s h => by
    obtain ⟨hp, g, d, tk, os⟩ := s
    obtain ⟨hl, hc, h⟩ := h
    have f1 := F.sub_str_dict
    wp_walk
    exact ⟨_, rfl, h⟩
theorem str_eq_no_dict (b : Str) (u : Tok) (l : Addr) (c : Value) (es : Array DictEntry) (ep : Nat) (dd : Option Addr) (sl : Array (Option Value)) :
    Meets (Builtin.«str.__eq__» ⟨[.str b u, .ref l], []⟩) (fun _ R s => s.heap.get? l = some { cls := c, dict := dd, data := .dict es ep, slots := sl } ∧ R (.ok (.ret .notImplemented)) s) :=
  .of_wp fun prog w A R s h => by
    obtain ⟨hp, g, d, tk, os⟩ := s
    obtain ⟨hl, h⟩ := h
    wp_walk using wpAny_load hl
    exact ⟨_, rfl, h⟩
theorem rc_dict_str {A : Around} {s : Shared} {l : Addr} {es : Array DictEntry} {ep : Nat} {dd : Option Addr} {sl : Array (Option Value)} (b : Str) (u : Tok) (ho : s.heap.get? l = some { cls := .type "dict", dict := dd, data := .dict es ep, slots := sl }) (hu : A.units < cLine) : SeqAt.RcAt A s (.ref l) (.str b u) false := fun prog w E Q h =>
  SeqAt.rc_eq_decline_or (k := false) ⟨_, ho, rfl⟩ (typeIs_str s b u) (by decide) F.sub_str_dict F.slot_dict_eq F.slot_str_eq_refl
    (fun _ hq => call_meets F.slot_dict_eq ⟨_, ho, rfl⟩ F.entry_dict_eq (F.args_dict_eq_2 _ _) (dict_eq_no_str l _ b u) ⟨ho, rfl, hq⟩)
    (fun _ hq => call_meets F.slot_str_eq_refl (typeIs_str s b u) F.entry_str_eq (F.args_str_eq_2 _ _) (str_eq_no_dict b u l (.type "dict") es ep dd sl) ⟨ho, hq⟩)
    (fun _ hq => wpAny_of_eq (rfl : isSame (.ref l) (.str b u) = pure false) hq) (.inr hu) h
/-- a thing that is no text -/
def OddV (K : PySem.W.Frag) (H : Hp) (x : V) : Prop := x = .non ∨ (∃ i, x = .int i) ∨ (∃ b, x = .bl b) ∨ (∃ a xs, x = .ref a ∧ SqL K H a xs) ∨ (∃ a xs, x = .ref a ∧ SqT K H a xs) ∨ ∃ a kvs, x = .ref a ∧ H a = some (.dK kvs)
section
variable {X : Cx}
/-- == of any thing and a text -/
def rEqOdd (K : PySem.W.Frag) : R2 := fun x y H Q => ∃ z, y = .str z ∧ ((∃ z', x = .str z' ∧ Q (.bl (decide (z' = z))) H) ∨ (OddV K H x ∧ Q (.bl false) H))
theorem op_eqOdd (hu : X.A.units < cLine) : OpR X (compareOp .Eq) (rEqOdd X.K) := by
  intro pins s σ H x y v u Q I rx ry h
  obtain ⟨z, rfl, h⟩ := h
  obtain ⟨t2, rfl⟩ := ry
  rcases h with ⟨z', rfl, q⟩ | ⟨rfl | ⟨i, rfl⟩ | ⟨b, rfl⟩ | ⟨a, xs, rfl, ha⟩ | ⟨a, xs, rfl, ha⟩ | ⟨a, kvs, rfl, ha⟩, q⟩
  · obtain ⟨t, rfl⟩ := rx
    refine SeqAt.RcAt.str_str z' t z t2 _ _ _ _ ⟨.bl _, H, I, ?_, q⟩
    show Value.bool (z' == z) = Value.bool (decide (z' = z))
    rw [Bool.eq_iff_iff.mpr (show (z' == z) = true ↔ decide (z' = z) = true by simp)]
  · cases rx
    exact SeqAt.RcAt.none_str z t2 _ _ _ _ ⟨.bl false, H, I, rfl, q⟩
  · obtain ⟨t, rfl⟩ := rx
    exact SeqAt.RcAt.int_str i t z t2 _ _ _ _ ⟨.bl false, H, I, rfl, q⟩
  · cases rx
    exact SeqAt.RcAt.bool_str b z t2 _ _ _ _ ⟨.bl false, H, I, rfl, q⟩
  · cases rx
    obtain ⟨its, r1, p1, _⟩ := I.list ha
    exact SeqAt.RcAt.list_str z t2 p1.isList hu _ _ _ _ ⟨.bl false, H, I, rfl, q⟩
  · cases rx
    obtain ⟨its, r1, p1, _⟩ := I.tuple ha
    exact SeqAt.RcAt.tuple_str z t2 p1 hu _ _ _ _ ⟨.bl false, H, I, rfl, q⟩
  · cases rx
    obtain ⟨_, _, vs, _, dd⟩ := (show ObjOk X.prog X.w H s.heap a (.dK kvs) from I.hok a _ ha)
    obtain ⟨⟨cls, dd, data, sl⟩, es, ep, ho, hx, hd, _⟩ := dd
    obtain ⟨h1, h2⟩ := hx
    simp only at h1 hd
    subst h1 hd
    exact rc_dict_str z t2 ho hu _ _ _ _ ⟨.bl false, H, I, rfl, q⟩
/-- != of lists of lists of one and the same thing each -/
def rNeLL (K : PySem.W.Frag) : R2 := fun x y H Q => ∃ (a b : Addr) (as bs : List Addr) (u : V), x = .ref a ∧ y = .ref b ∧ SqL K H a (as.map V.ref) ∧ SqL K H b (bs.map V.ref) ∧ as.length = bs.length ∧ (∀ p ∈ as, SqL K H p [u]) ∧ (∀ p ∈ bs, SqL K H p [u]) ∧ (flatB u = true ∨ ∃ c, u = .ref c) ∧ Q (.bl false) H
theorem op_neLL (hu : X.A.units + 64 < cLine) : OpR X (compareOp .NotEq) (rNeLL X.K) := by
  intro pins s σ H x y v w Q I rx ry h
  obtain ⟨a, b, as, bs, u, rfl, rfl, ha, hb, hl, hA, hB, hu2, q⟩ := h
  cases (show v = Value.ref a from rx)
  cases (show w = Value.ref b from ry)
  obtain ⟨us, r1, p1, _⟩ := I.list ha
  obtain ⟨ws, r2, p2, _⟩ := I.list hb
  have e1 : us.length = as.length := by have := r1.length; rw [List.length_map] at this; exact this.symm
  have e2 : ws.length = bs.length := by have := r2.length; rw [List.length_map] at this; exact this.symm
  have at_ : ∀ {cs : List Addr} {zs : List Value}, Vals (cs.map V.ref) zs → ∀ (j : Nat) (h : j < zs.length), ∃ c ∈ cs, zs[j] = Value.ref c := fun {cs zs} r j h => by
    have e : zs.length = cs.length := by have := r.length; rw [List.length_map] at this; exact this.symm
    obtain ⟨z, hz, rz⟩ := Vals.get (i := j) (x := V.ref (cs[j]'(by omega))) r (by rw [List.getElem?_map, List.getElem?_eq_getElem (by omega)]; rfl)
    rw [List.getElem?_eq_getElem h] at hz
    cases hz
    exact ⟨_, List.getElem_mem _, rz⟩
  have one : ∀ {p : Addr}, SqL X.K H p [u] → ∃ z : Value, RelV u z ∧ s.heap.IsList p #[z] := fun {p} h => by
    obtain ⟨zs, r, pl, _⟩ := I.list h
    cases r with
    | cons r1 r2 => cases r2; exact ⟨_, r1, pl.isList⟩
  refine SeqAt.RcNeAt.lists p1.isList p2.isList (by rw [List.size_toArray, List.size_toArray, e1, e2, hl]) (by omega) (e := fun _ => true) (fun j h1 h2 => ?_) _ _ _ _ ?_
  · obtain ⟨c, hc, ec⟩ := at_ r1 j (by simpa using h1)
    obtain ⟨d, hd, ed⟩ := at_ r2 j (by simpa using h2)
    have ec' : us.toArray[j] = Value.ref c := by simpa using ec
    have ed' : ws.toArray[j] = Value.ref d := by simpa using ed
    rw [ec', ed']
    by_cases e : c = d
    · rw [e]; exact SeqAt.EqAt.same _
    · obtain ⟨z1, k1, l1⟩ := one (hA c hc)
      obtain ⟨z2, k2, l2⟩ := one (hB d hd)
      refine SeqAt.EqAt.of_refs e ?_
      have := SeqAt.RcAt.lists (A := X.A.in1) (e := fun _ => true) l1 l2 rfl (by show X.A.units + 1 < cLine; omega) (fun i h3 h4 => by
        have i0 : i = 0 := by
          have : (#[z1] : Array Value).size = 1 := rfl
          omega
        subst i0
        show SeqAt.EqAt _ s z1 z2 true
        rcases hu2 with f | ⟨c', rfl⟩
        · exact eqAt_same k1 k2 f
        · cases (show z1 = Value.ref c' from k1)
          cases (show z2 = Value.ref c' from k2)
          exact SeqAt.EqAt.same _)
      exact this
  · rw [show ((List.range us.toArray.size).all fun _ => true) = true from List.all_eq_true.mpr fun _ _ => rfl]
    exact ⟨.bl false, H, I, rfl, q⟩
end
section
variable {X : Cx}
def eqs (k : Str) : Value → Bool
  | .str z _ => z == k
  | _ => false
theorem strs_ofV : ∀ {ns : List Str} {us : List Value}, Vals (ns.map V.str) us → ∀ u ∈ us, ∃ z t, u = .str z t
  | [], _, h, u, hu => by cases h; cases hu
  | n :: ns, _, h, u, hu => by
    cases h with
    | cons r1 r2 =>
      obtain ⟨t, rfl⟩ := r1
      rcases List.mem_cons.mp hu with rfl | hu
      · exact ⟨n, t, rfl⟩
      · exact strs_ofV r2 u hu
theorem eqs_count (k : Str) : ∀ {ns : List Str} {us : List Value}, Vals (ns.map V.str) us → us.countP (eqs k) = ns.count k
  | [], _, h => by cases h; rfl
  | n :: ns, _, h => by
    cases h with
    | cons r1 r2 =>
      obtain ⟨t, rfl⟩ := r1
      rw [List.countP_cons, List.count_cons, eqs_count k r2]
      rfl
def rCntS (K : PySem.W.Frag) : V → List V → Hp → VK → Prop := fun x xs H Q => ∃ (p : Addr) (ns : List Str) (k : Str), x = .ref p ∧ xs = [.str k] ∧ SqL K H p (ns.map V.str) ∧ Q (.int (ns.count k : Nat)) H
theorem mt_scount : MtR X "list.count" (rCntS X.K) := by
  intro pins s σ H x xs v us Q I rx rxs h
  obtain ⟨p, ns, k, rfl, rfl, hs, q⟩ := h
  cases rx
  obtain ⟨u, rfl, ru⟩ := rxs.one
  obtain ⟨t, rfl⟩ := ru
  obtain ⟨its, rv, ⟨⟨cls, dd, data, sl⟩, n, ho, hc, hdn, hd⟩, hlen⟩ := I.list hs
  simp only at hc hd
  subst hc hd
  refine call_meets PySem.F.slot_list_count ⟨_, ho, rfl⟩ PySem.F.entry_list_count (PySem.F.args_list_count_2 _ _)
    (SeqAt.list_countAt p its.toArray n dd sl (.str k t) (eqs k)) ⟨ho, fun y hy => ?_, ?_⟩
  · obtain ⟨z, t', rfl⟩ := strs_ofV rv y (by simpa using hy)
    exact SeqAt.EqAt.str_str z t' k t
  have ec : its.toArray.toList.countP (eqs k) = ns.count k := eqs_count k rv
  refine ⟨.int (ns.count k : Nat), H, I.tok _, ⟨s.toks, ?_⟩, q⟩
  show Value.int ((its.toArray.toList.countP (eqs k) : Nat) : Int) s.toks = Value.int ((ns.count k : Nat) : Int) s.toks
  rw [ec]
end
end L2

set_option maxRecDepth 100000
set_option maxHeartbeats 4000000
namespace Ts
open PySem L2
/-- the boxes on one of two ways alone -/
def stepsL (rs : List Row) (x y : Str) : List Str := (names rs).filter fun z => decide (((wayOf rs x ++ wayOf rs y).count z : Nat) = 1)
def spSteps (C : Addr) : Sp := fun vs H Q _ => ∃ (t : Addr) (x y : Str) (rs : List Row), vs = [.ref t, .str x, .str y] ∧ TreeAt C H t rs ∧ (x = ("top" : Str) ∨ x ∈ names rs) ∧ (y = ("top" : Str) ∨ y ∈ names rs) ∧
  ∀ D H', H D = none → Same H H' → H' D = some (.lst ((stepsL rs x y).map V.str)) → Q (.ref D) H'
section
variable {P : Program} {w : World} {K : PySem.W.Frag} {mg : Str → Option Value} {base : Heap} {C : Addr}
abbrev nSteps : List Str := ["self", "one", "other", "ways", "name"]
theorem sc_Tree_steps : FnScope nSteps ["self", "one", "other"] (defScope s_Tree_steps) := ⟨rfl, rfl, rfl, by decide +kernel, rfl, by decide +kernel, by decide +kernel⟩
theorem ok_Tree_steps {f : Addr} {fd : FuncData} (F : Fun K "steps" "Tree.steps" s_Tree_steps f fd) (T : TxT K mg C) (mW : MethAt K C "way" "Tree.way" s_Tree_way ["self", "box"]) (GW : FnOk P w K mg base CX0 5 mW.f mW.fd ["self", "box"] (spListOf C wayOf)) :
    FnOk P w K mg base CX0 6 f fd ["self", "one", "other"] (spSteps C) := by
  refine F.ok sc_Tree_steps (fun vs H Q E h => ?_) (fun cdv A outer s H vs Q E hr h => ?_)
  · obtain ⟨t, x, y, rs, rfl, _⟩ := h
    rfl
  · obtain ⟨t, x, y, rs, rfl, ht, hx, hy, hq⟩ := h
    obtain ⟨dx, q, f, k, p, qs, h1, h2, h3, h4, h5, h6⟩ := id ht.ex
    refine ⟨_, pss_cons (ps_set (i := 3) sc_Tree_steps.nd rfl (.inr rfl) (pe_op op_cat (pe_meth (pv 0) T.cl mW.m GW hr mW.b .nil pass0 (pa_cons (pv 1) pa_nil)) (pe_meth (pv 0) T.cl mW.m GW hr mW.b .nil pass0 (pa_cons (pv 2) pa_nil))))
      (pss_one (ps_ret (pe_lock (pe_lc (own := [("name", 4)]) (g := gName 4) (tt := tTest (tOp rEq (tBM K "list" (rCntS K) (tVar 3) (tCons (tVar 4) tNil)) (tC (.int 1)))) (te := tVar 4) rfl sc_Tree_steps.nd (pi_keys (pe_fld (pv 0) rfl)) (blkOk_by (N := nSteps) (sc := defScope s_Tree_steps) (by decide +kernel))
        (fun _ _ _ _ _ => pg_name (i := 4) sc_Tree_steps.nd rfl (Or.inl rfl)) (fun _ _ _ _ _ => by exact pts_one (pt_cmpR op_eq (pe_bm PySem.F.plainAttrs_list PySem.F.slot_list_count PySem.F.type_list_count mt_scount (pv 3) (pa_cons (pv 4) pa_nil)) pe_int (nomark _))) (fun _ _ _ _ _ => pv 4))))), ?_⟩
    have noW : (tf q f k p).lookup ("way" : Str) = none := tf_no _ _ _ _ (by decide +kernel) (by decide +kernel) (by decide +kernel) (by decide +kernel)
    have l100 := ht.len
    have lx := way_len (rs := rs) (z := x)
    have ly := way_len (rs := rs) (z := y)
    refine ⟨_, rfl, t, dx, _, rfl, h1, noW, _, rfl, t, x, rs, rfl, ht, hx, fun D1 H1 n1 s1 e1 => ?_⟩
    refine ⟨_, rfl, t, dx, _, rfl, s1 _ _ h1, noW, _, rfl, t, y, rs, rfl, ht.same s1, hy, fun D2 H2 n2 s2 e2 => ?_⟩
    refine ⟨D1, D2, _, _, rfl, rfl, s2 _ _ e1, e2, szl (by rw [List.length_map, List.length_map]; omega), fun W hW => ?_⟩
    rw [← List.map_append]
    have s3 : Same H (upd H2 W (.lst ((wayOf rs x ++ wayOf rs y).map V.str))) := (s1.trans s2).trans (Same.new hW)
    have e3 : (upd H2 W (.lst ((wayOf rs x ++ wayOf rs y).map V.str))) W = some (.lst ((wayOf rs x ++ wayOf rs y).map V.str)) := upd_same
    have h1' := s3 _ _ h1
    have h4' := s3 _ _ h4
    generalize upd H2 W (.lst ((wayOf rs x ++ wayOf rs y).map V.str)) = H3 at s3 e3 h1' h4'
    refine ⟨f, _, h4', trivial, fun od => ?_⟩
    have tf_ : t ≠ f := ne_of h1' h4' (by intro x; cases x)
    have Wf : W ≠ f := ne_of e3 h4' (by intro x; cases x)
    refine ⟨_, rfl, t, C, dx, _, _, rfl, Eq.trans (upd_ne tf_) h1', T.cl, T.nf, tf_f _ _ _ _, f, od, rfl, .inl ⟨_, upd_same, fun D hD => ?_⟩⟩
    have Df : D ≠ f := fun e => by rw [e, upd_same] at hD; cases hD
    have hD0 : H3 D = none := by rw [upd_ne Df] at hD; exact hD
    refine lc_it (walk_keys (d := f) (o := od) (kvs := kvF (fun r => .str r.fo) rs)) (fun i H' => Same (upd H3 f (.frz od (.dK (kvF (fun r => .str r.fo) rs)))) H' ∧ H' D = some (.lst ((((names rs).take i).filter fun z => decide (((wayOf rs x ++ wayOf rs y).count z : Nat) = 1)).map V.str))) ⟨Same.new hD, upd_same⟩ (fun i H' _ m => m.1 _ _ upd_same) ?_ ?_
    · rintro i u H4 H4' hi ⟨sm, hDi⟩ ⟨rfl, k', v', hk, rfl⟩
      obtain ⟨r, hr', rfl, rfl⟩ := kvF_at hk
      have hn : (names rs)[i]? = some r.nm := by unfold names; rw [List.getElem?_map, hr']; rfl
      have eW : H4' W = some (.lst ((wayOf rs x ++ wayOf rs y).map V.str)) := sm _ _ (by rw [upd_ne Wf]; exact e3)
      have i100 : i < 100 := by
        have := (List.getElem?_eq_some_iff.mp hr').1
        omega
      refine ⟨rfl, _, rfl, .inl ⟨rfl, _, SqL.of eW⟩, _, rfl, W, _, r.nm, rfl, rfl, SqL.of eW, rfl, _, rfl, ?_⟩
      refine ite2 (fun hc => ?_) (fun hc => ?_)
      · have hc' : ((wayOf rs x ++ wayOf rs y).count r.nm : Nat) = 1 := by
          have := V.int.inj (of_decide_eq_true hc)
          omega
        refine ⟨_, rfl, _, hDi, small1000 ?_, fun b o e => ?_, ?_⟩
        · rw [List.length_map]
          have := List.length_filter_le (fun z => decide (((wayOf rs x ++ wayOf rs y).count z : Nat) = 1)) ((names rs).take i)
          rw [List.length_take] at this
          omega
        · rw [upd_ne (fun q => by rw [q, hD] at e; cases e)]
          exact sm b o e
        · rw [upd_same, take_more hn, List.filter_append, List.filter_cons_of_pos (by rw [decide_eq_true hc']), List.map_append]; rfl
      · have hc' : ¬ ((wayOf rs x ++ wayOf rs y).count r.nm : Nat) = 1 := fun q => hc (by rw [q]; rfl)
        refine ⟨sm, ?_⟩
        rw [take_more hn, List.filter_append, List.filter_cons_of_neg (by rw [decide_eq_false hc']; exact Bool.false_ne_true), List.filter_nil, List.append_nil]
        exact hDi
    · rintro H4 ⟨sm, hDD⟩
      have e : (kvF (fun r => V.str r.fo) rs).length = (names rs).length := by unfold kvF names; rw [List.length_map, List.length_map]
      rw [e, List.take_length] at hDD
      refine ⟨sm _ _ upd_same, ?_⟩
      refine hq D _ (s3.free hD0) (s3.trans fun b o e => ?_) ?_
      · by_cases hb : b = f
        · rw [hb, upd_same, ← h4', ← hb]; exact e
        · rw [upd_ne hb]; exact sm _ _ (by rw [upd_ne hb]; exact e)
      · rw [upd_ne Df]; exact hDD
end
end Ts

set_option maxRecDepth 100000
set_option maxHeartbeats 4000000
namespace Ts
open PySem L2
def spCheckRowsD (K : PySem.W.Frag) : Sp := fun vs H Q _ => ∃ (rw nm fo : Addr) (g : Row → V) (bs : List Row) (hs : List Str) (as : List Addr) (rs : List Row), vs = [.ref rw, .ref nm, .ref fo] ∧ Seq H rw (as.map V.ref) ∧ SeqRows H as rs ∧ H nm = some (.dK (kvF g bs)) ∧ SqT K H fo (hs.map V.str) ∧ rs.length ≤ 100 ∧ bs.length ≤ 100 ∧ hs.length ≤ 100 ∧
  (∀ i r, rs[i]? = some r → FitsB (names bs) hs (rs.take i) r) ∧ ∀ H', Same H H' → Q .non H'
section
variable {P : Program} {w : World} {K : PySem.W.Frag} {mg : Str → Option Value} {base : Heap}
theorem ok_check_rowsD (D : DefAt K mg "check_rows" s_check_rows ["rows", "names", "folders"]) (Dr : DefAt K mg "is_row" s_is_row ["thing", "taken", "homes"]) (Dn : DefAt K mg "is_name" s_is_name ["thing"]) (Dp : DefAt K mg "is_price" s_is_price ["thing"]) (B : TxB mg) (C : TxC K mg) :
    FnOk P w K mg base CX0 4 D.f D.fd ["rows", "names", "folders"] (spCheckRowsD K) := by
  have Gr : FnOk P w K mg base CX0 3 Dr.f Dr.fd ["thing", "taken", "homes"] spIsRow := ok_is_row Dr Dn Dp B C
  obtain ⟨t1, gF⟩ := C.folder
  refine D.F.ok sc_check_rows (fun vs H Q E h => ?_) (fun cdv A outer s H vs Q E hr h => ?_)
  · obtain ⟨rw, nm, fo, g, bs, hs, as, rs, rfl, _⟩ := h
    rfl
  · obtain ⟨rw, nm, fo, g, bs, hs, as, rs, rfl, hrw, hrows, hnm, hfo, hl, hln', hlh, hfit, hq⟩ := h
    obtain ⟨ns, ens⟩ : ∃ ns, ns = names bs := ⟨_, rfl⟩
    have hln : ns.length ≤ 100 := by rw [ens]; unfold names; rw [List.length_map]; exact hln'
    rw [← ens] at hfit
    have hu := hu_of hr
    refine ⟨_, pss_cons (ps_if (pt_not (pt_val (pe_callB call_isiT (by rfl) B.isinstance (by decide +kernel) (pa_cons (pv 0) (pa_cons (pe_tup (pa_cons (pe_bltn (by rfl) B.list (by decide +kernel) (v := .ty "list") rfl) (pa_cons (pe_bltn (by rfl) B.tuple (by decide +kernel) (v := .ty "tuple") rfl) pa_nil))) pa_nil))))) (pss_one ps_never) pss_nil)
      (pss_cons (ps_lock (ps_setDc (i := 3) (own := [("name", 7)]) (g := gName 7) (tt := tYes) rfl sc_check_rows.nd rfl rfl (swd_true rfl rfl rfl (by decide +kernel)) (pi_keys (pv 1)) (blkOk_by (N := nCheckRows) (sc := defScope s_check_rows) (by decide +kernel))
        (fun _ _ _ _ _ => pg_name (i := 7) sc_check_rows.nd rfl (Or.inl rfl)) (fun _ _ _ _ _ => pts_nil) (fun _ _ _ _ _ => pv 7) (fun _ _ _ _ _ => pe_bl)))
      (pss_cons (ps_setDc (i := 4) (own := [("folder", 8)]) (g := gName 8) (tt := tYes) rfl sc_check_rows.nd rfl rfl (swd_true rfl rfl rfl (by decide +kernel)) (pi_tup (pv 2)) (blkOk_by (N := nCheckRows) (sc := defScope s_check_rows) (by decide +kernel))
        (fun _ _ _ _ _ => pg_name (i := 8) sc_check_rows.nd rfl (Or.inl rfl)) (fun _ _ _ _ _ => pts_nil) (fun _ _ _ _ _ => pv 8) (fun _ _ _ _ _ => pe_bl))
      (pss_one (ps_for PassesOwn.never rfl (pi_enumS (by rfl) B.enumerate (pv 0)) (pg_tup rfl (pgs_cons (pg_name (i := 5) sc_check_rows.nd rfl (.inl rfl)) (pgs_cons (pg_name (i := 6) sc_check_rows.nd rfl (.inl rfl)) pgs_nil)))
        (pss_cons (ps_if (pt_not (pt_val (pe_call Gr hr rfl Dr.g Dr.F.kp Dr.b .nil pass0 (pa_cons (pv 6) (pa_cons (pv 3) (pa_cons (pv 4) pa_nil)))))) (pss_one ps_never) pss_nil)
        (C8.pss_cut (ps_asg (pv 6) (pg_or (pg_tup rfl (pgs_cons (pg_name (i := 7) sc_check_rows.nd rfl (.inl rfl)) (pgs_cons (pg_name (i := 8) sc_check_rows.nd rfl (.inl rfl)) (pgs_cons (pg_name (i := 9) sc_check_rows.nd rfl (.inl rfl)) (pgs_cons (pg_name (i := 10) sc_check_rows.nd rfl (.inl rfl)) pgs_nil)))))
          (pg_unl rfl (pgs_cons (pg_name (i := 7) sc_check_rows.nd rfl (.inl rfl)) (pgs_cons (pg_name (i := 8) sc_check_rows.nd rfl (.inl rfl)) (pgs_cons (pg_name (i := 9) sc_check_rows.nd rfl (.inl rfl)) (pgs_cons (pg_name (i := 10) sc_check_rows.nd rfl (.inl rfl)) pgs_nil)))))))
        (pss_cons (ps_dput hu (pv 3) (pv 7) pe_bl rfl)
        (pss_one (ps_if (pt_cmpR op_eq (pv 9) (pe_glob (by rfl) gF (v := .str ("folder" : Str)) ⟨_, rfl⟩) (nomark _)) (pss_one (ps_dput hu (pv 4) (pv 7) pe_bl rfl)) pss_nil)))))))))
      , ?_⟩
    refine ⟨_, rfl, (by show 2 ≤ sizeLine; decide), fun tp htp => ?_⟩
    have s1 : Same H (upd H tp (.tup [.ty "list", .ty "tuple"])) := Same.new htp
    obtain ⟨t, ty, kk⟩ := (hrw.same s1).ty (K := K)
    refine ⟨_, tp, _, t, _, true, rfl, upd_same, .cons (.ty "list") (.cons (.ty "tuple") .nil), ty, kk, _, rfl, iteF ?_⟩
    generalize upd H tp (.tup [.ty "list", .ty "tuple"]) = H1 at s1 ty
    have dict : ∀ (l : List Str) (td : Addr) (H1 H' : Hp) (i : Nat) (x : V), (l.map V.str)[i]? = some x → MemD H' td (l.take i) → ∃ (z : Str) (kv : List (Key × V)), x = .str z ∧ l[i]? = some z ∧ H' td = some (.dK kv) ∧ (∀ z : Str, (valV kv (.inr z : Key)).isSome = decide (z ∈ l.take i)) ∧ kv.length ≤ (l.take i).length := by
      intro l td H1 H' i x hx m
      rw [List.getElem?_map] at hx
      obtain ⟨z, hz, rfl⟩ := Option.map_eq_some_iff.mp hx
      obtain ⟨kv, e1, e2, e3⟩ := m.ex
      exact ⟨z, kv, rfl, hz, e1, e2, e3⟩
    have hnm1 := s1 _ _ hnm
    refine ⟨nm, _, hnm1, trivial, fun od => ?_⟩
    obtain ⟨Hl, El⟩ : ∃ Hx, Hx = upd H1 nm (.frz od (.dK (kvF g bs))) := ⟨_, rfl⟩
    have l2 : Hl nm = some (.frz od (.dK (kvF g bs))) := by rw [El]; exact upd_same
    have l4 : ∀ b o, b ≠ nm → H1 b = some o → Hl b = some o := fun b o nb e => by rw [El, upd_ne nb]; exact e
    have l5 : ∀ b, Hl b = none → H1 b = none := fun b e => by
      by_cases h : b = nm
      · rw [h, l2] at e; cases e
      · rw [El, upd_ne h] at e; exact e
    rw [← El]
    clear El
    refine ⟨_, rfl, nm, od, rfl, .inl ⟨_, l2, fun td htd => ?_⟩⟩
    refine dc_it (walk_keys (d := nm) (o := od) (kvs := kvF g bs)) (fun i H' => Same Hl H' ∧ MemD H' td (ns.take i)) ⟨Same.new htd, [], upd_same, fun z => rfl, Nat.le_refl _⟩ (fun i H' _ m => m.1 _ _ l2) ?_ ?_
    · rintro i x H' H'' hi ⟨sm, m⟩ ⟨rfl, k', v', hk, rfl⟩
      obtain ⟨r, hr', rfl, rfl⟩ := kvF_at hk
      have hz : ns[i]? = some r.nm := by rw [ens]; unfold names; rw [List.getElem?_map, hr']; rfl
      obtain ⟨kv, e1, e2, e3⟩ := m.ex
      refine ⟨rfl, tYes_if ⟨_, rfl, kv, .inr r.nm, rfl, e1, small1000 (by rw [List.length_take] at e3; omega), fun b o e => ?_, ?_⟩⟩
      · rw [upd_ne (fun q => by rw [q, htd] at e; cases e)]
        exact sm b o e
      · rw [take_more hz]
        exact MemD.put e2 e3 r.nm _
    · rintro H2a ⟨sma, ma⟩
      have ekl : (kvF g bs).length = ns.length := by rw [ens]; unfold kvF names; rw [List.length_map, List.length_map]
      rw [ekl, List.take_length] at ma
      have ntd : td ≠ nm := fun y => by rw [y, l2] at htd; cases htd
      refine ⟨sma _ _ l2, ?_⟩
      have sm : Same H1 (upd H2a nm (.dK (kvF g bs))) := fun b o e => by
        by_cases h : b = nm
        · rw [h, hnm1] at e; rw [h, upd_same]; exact e
        · rw [upd_ne h]; exact sma _ _ (l4 _ _ h e)
      have m : MemD (upd H2a nm (.dK (kvF g bs))) td ns := ma.same (upd_ne ntd)
      have htd := l5 _ htd
      generalize upd H2a nm (.dK (kvF g bs)) = H2 at sm m
      have s2 := s1.trans sm
      refine ⟨_, rfl, fo, rfl, ⟨_, hfo.ext s2⟩, fun hd hhd => ?_⟩
      have nth : td ≠ hd := by obtain ⟨kv, e1, _⟩ := m.ex; exact ne_of_none e1 hhd
      refine dc_tup (K := K) (a := fo) (xs := hs.map V.str) (fun i H' => Same H2 H' ∧ MemD H' hd (hs.take i)) ⟨Same.new hhd, [], upd_same, fun z => rfl, Nat.le_refl _⟩ (fun i H' _ m => hfo.ext (s2.trans m.1)) ?_ ?_
      · rintro i x H' hx ⟨sm, m⟩
        obtain ⟨z, kv, rfl, hz, e1, e2, e3⟩ := dict hs hd H2 H' i x hx m
        refine ⟨rfl, tYes_if ⟨_, rfl, kv, .inr z, rfl, e1, small1000 (by rw [List.length_take] at e3; omega), fun b o e => ?_, ?_⟩⟩
        · rw [upd_ne (fun q => by rw [q, hhd] at e; cases e)]
          exact sm b o e
        · rw [take_more hz]
          exact MemD.put e2 e3 z _
      · rintro H3 ⟨sm3, m3⟩
        rw [List.length_map, List.take_length] at m3
        have s3 := s2.trans sm3
        have mt : MemD H3 td ns := by
          obtain ⟨kv, e1, e⟩ := m.ex
          exact ⟨kv, sm3 _ _ e1, e⟩
        have ftd : H td = none := s1.free htd
        have fhd : H hd = none := s2.free hhd
        refine ⟨rw, _, rfl, hrw.same s3, fun J W => ?_⟩
        refine for_it W (fun i σ H' => ∃ (v5 v6 v7 v8 v9 v10 : Option V), σ = [some (.ref rw), some (.ref nm), some (.ref fo), some (.ref td), some (.ref hd), v5, v6, v7, v8, v9, v10] ∧ Same H H' ∧ H' rw = H3 rw ∧ MemD H' td (ns ++ (rs.take i).map (·.nm)) ∧ MemD H' hd (hs ++ folderNames (rs.take i))) ⟨none, none, none, none, none, none, rfl, s3, rfl, by simpa using mt, by simpa [folderNames] using m3⟩ (fun i σ H' _ ⟨_, _, _, _, _, _, _, _, e, _⟩ => e) ?_ ?_
        · rintro i x σ H4 H5 hi ⟨v5, v6, v7, v8, v9, v10, rfl, s4, e4, mt, mh⟩ ⟨T, xi, xr, rfl, hT, rfl, exi, exr⟩
          rw [List.length_map] at hi
          have exr' : (as.map V.ref)[i]? = some xr := exr
          rw [List.getElem?_map] at exr'
          obtain ⟨ra, hra, rfl⟩ := Option.map_eq_some_iff.mp exr'
          obtain ⟨r, hr'⟩ : ∃ r, rs[i]? = some r := ⟨rs[i]'(by rw [← hrows.len]; exact hi), List.getElem?_eq_getElem _⟩
          have fit := hfit i r hr'
          obtain rfl := Option.some.inj exi
          have s5 : Same H (upd H4 T (.tup [.int (i : Nat), .ref ra])) := s4.trans (Same.new hT)
          have rr : Seq (upd H4 T (.tup [.int (i : Nat), .ref ra])) ra (rowVs r) := Seq.same (hrows.at_ i ra r hra hr') s5
          obtain ⟨kt, et, pt, lt⟩ := mt.ex
          obtain ⟨kh, eh, ph, lh⟩ := mh.ex
          have nt : td ≠ T := ne_of_none et hT
          have nh : hd ≠ T := ne_of_none eh hT
          have i100 : i < 100 := by rw [← hrows.len] at hl; omega
          refine ⟨T, _, rfl, sqT upd_same, rfl, _, _, rfl, _, _, rfl, rfl, ?_⟩
          refine ⟨_, rfl, _, rfl, _, rfl, ra, td, hd, r, kt, kh, rfl, rr, by rw [upd_ne nt]; exact et, ?_, by rw [upd_ne nh]; exact eh, ?_, fit.shape, fit.top, fit.kind, fit.price, fun H6 s6 => ?_⟩
          · have q := pt r.nm
            rw [decide_eq_false fit.new] at q
            simpa using q
          · rw [ph r.fo]
            exact decide_eq_true fit.home
          refine ⟨_, rfl, iteF ?_⟩
          refine ⟨fun σ' H' => σ' = [some (.ref rw), some (.ref nm), some (.ref fo), some (.ref td), some (.ref hd), some (.int (i : Nat)), some (.ref ra), some (.str r.nm), some (.str r.fo), some (.str r.ki), some (prV r.pr)] ∧ H' = H6, ?_, ?_⟩
          · refine ⟨_, rfl, ?_⟩
            rcases rr.same s6 with un | un
            · exact .inl ⟨ra, _, rfl, sqT un, rfl, _, _, rfl, _, _, rfl, _, _, rfl, _, _, rfl, rfl, rfl, rfl⟩
            · exact .inr ⟨ra, _, rfl, SqL.of un, rfl, _, _, rfl, _, _, rfl, _, _, rfl, _, _, rfl, rfl, rfl, rfl⟩
          rintro σ' H' ⟨rfl, rfl⟩
          have et6 : H' td = some (.dK kt) := s6 _ _ (by rw [upd_ne nt]; exact et)
          have eh6 : H' hd = some (.dK kh) := s6 _ _ (by rw [upd_ne nh]; exact eh)
          have lt' : kt.length ≤ 300 := by
            rw [List.length_append, List.length_map, List.length_take] at lt; omega
          have lh' : kh.length ≤ 300 := by
            have := folders_le (rs.take i)
            rw [List.length_take] at this
            rw [List.length_append] at lh; omega
          refine ⟨_, rfl, _, rfl, td, _, rfl, DPut.k (k := Sum.inr r.nm) et6 (small1000 (by omega)), ?_⟩
          have s7 : Same H (upd H' td (.dK (putK kt (.inr r.nm) (.bl true)))) := fun b o e => by
            rw [upd_ne (fun q => by rw [q, ftd] at e; cases e)]
            exact s6 _ _ (s5 b o e)
          have mt7 : ns ++ (rs.take (i + 1)).map (·.nm) = ns ++ (rs.take i).map (·.nm) ++ [r.nm] := by rw [take_more hr', List.map_append, List.append_assoc]; rfl
          have mT : MemD (upd H' td (.dK (putK kt (.inr r.nm) (.bl true)))) td (ns ++ (rs.take (i + 1)).map (·.nm)) := by rw [mt7]; exact MemD.put pt lt _ _
          have rw4 : H4 rw = some (.tup (as.map V.ref)) ∨ H4 rw = some (.lst (as.map V.ref)) := hrw.same s4
          have keep : ∀ {b : Addr} {o : HO}, H4 b = some o → b ≠ td → (upd H' td (.dK (putK kt (.inr r.nm) (.bl true)))) b = some o := fun {b o} e nb => by
            rw [upd_ne nb]
            exact s6 _ _ (by rw [upd_ne (ne_of_none e hT)]; exact e)
          have ert : rw ≠ td := fun q => by rcases rw4 with z | z <;> (rw [q, et] at z; cases z)
          have erh : rw ≠ hd := fun q => by rcases rw4 with z | z <;> (rw [q, eh] at z; cases z)
          have erw : (upd H' td (.dK (putK kt (.inr r.nm) (.bl true)))) rw = H3 rw := by
            rw [← e4]
            rcases rw4 with z | z <;> (rw [z]; exact keep z ert)
          refine ⟨_, rfl, rfl, _, rfl, ?_⟩
          refine ite2 (fun hk => ?_) (fun hk => ?_)
          · have hk' : r.ki = ("folder" : Str) := V.str.inj (of_decide_eq_true hk)
            refine ⟨_, rfl, _, rfl, hd, _, rfl, DPut.k (k := Sum.inr r.nm) (Eq.trans (upd_ne nth.symm) eh6) (small1000 (by omega)), ?_⟩
            refine ⟨_, _, _, _, _, _, rfl, fun b o e => ?_, ?_, mT.same (upd_ne nth), ?_⟩
            · rw [upd_ne (fun q => by rw [q, fhd] at e; cases e)]
              exact s7 b o e
            · rw [upd_ne erh]; exact erw
            · rw [fold_take hr', if_pos hk', ← List.append_assoc]
              exact MemD.put ph lh _ _
          · have hk' : ¬ r.ki = ("folder" : Str) := fun q => hk (decide_eq_true (by rw [q]))
            refine ⟨_, _, _, _, _, _, rfl, s7, erw, mT, ?_⟩
            rw [fold_take hr', if_neg hk', List.append_nil]
            exact ⟨kh, Eq.trans (upd_ne nth.symm) eh6, ph, lh⟩
        · rintro σ H4 ⟨v5, v6, v7, v8, v9, v10, rfl, s4, _⟩
          exact hq _ s4
end
end Ts

set_option maxRecDepth 100000
set_option maxHeartbeats 4000000
namespace Ts
open PySem L2
/-- a shut folder that has been loaded -/
def loadR (z : Str) (r : Row) : Row := if r.nm = z then { r with ki := "folder" } else r
theorem loadR_nm (z : Str) (r : Row) : (loadR z r).nm = r.nm := by unfold loadR; split <;> rfl
theorem loadR_fo (z : Str) (r : Row) : (loadR z r).fo = r.fo := by unfold loadR; split <;> rfl
theorem loadR_pr (z : Str) (r : Row) : (loadR z r).pr = r.pr := by unfold loadR; split <;> rfl
def openedL (rs : List Row) (z : Str) (L : List Row) : List Row := rs.map (loadR z) ++ L
theorem load_names (z : Str) (rs : List Row) : (rs.map (loadR z)).map (·.nm) = rs.map (·.nm) := by
  rw [List.map_map]
  exact List.map_congr_left fun r _ => loadR_nm z r
theorem load_valid {rs : List Row} (h : Valid rs) (z : Str) : Valid (rs.map (loadR z)) := by
  intro i r hr
  rw [List.getElem?_map] at hr
  obtain ⟨r0, h0, rfl⟩ := Option.map_eq_some_iff.mp hr
  have f := h i r0 h0
  rw [← List.map_take]
  refine ⟨by rw [loadR_nm]; exact f.shape, by rw [loadR_nm]; exact f.top, by rw [loadR_nm, load_names]; exact f.new, ?_, ?_, by rw [loadR_pr]; exact f.price⟩
  · rw [loadR_fo]
    rcases f.home with e | ⟨q, hq, e1, e2⟩
    · exact .inl e
    · refine .inr ⟨loadR z q, List.mem_map.mpr ⟨q, hq, rfl⟩, by rw [loadR_nm]; exact e1, ?_⟩
      unfold loadR
      split
      · rfl
      · exact e2
  · unfold loadR
    split
    · show ("folder" : Str) ∈ kinds3
      exact List.mem_cons_self ..
    · exact f.kind
theorem opened_valid {rs : List Row} (h : Valid rs) {b : Row} (hb : b ∈ rs) {L : List Row} (k : ∀ i r, L[i]? = some r → FitsB (names rs) [b.nm] (L.take i) r) : Valid (openedL rs b.nm L) := by
  refine (load_valid h b.nm).append fun i r hr => ?_
  have f := k i r hr
  refine ⟨f.shape, f.top, ?_, ?_, f.kind, f.price⟩
  · rw [List.map_append, load_names]
    exact f.new
  · rcases List.mem_append.mp f.home with e | e
    · refine .inr ⟨loadR b.nm b, List.mem_append_left _ (List.mem_map.mpr ⟨b, hb, rfl⟩), ?_, ?_⟩
      · rw [loadR_nm]
        exact (List.mem_singleton.mp e).symm
      · unfold loadR
        rw [if_pos rfl]
    · obtain ⟨q, hq, e1⟩ := List.mem_map.mp e
      obtain ⟨q1, q2⟩ := List.mem_filter.mp hq
      exact .inr ⟨q, List.mem_append_right _ q1, e1, of_decide_eq_true q2⟩
def spOpened (C : Addr) : Sp := fun vs H Q _ => ∃ (t rw : Addr) (b : Row) (rs : List Row) (as : List Addr) (L : List Row), vs = [.ref t, .str b.nm, .ref rw] ∧ TreeAt C H t rs ∧ b ∈ rs ∧ b.ki = ("shut" : Str) ∧ Seq H rw (as.map V.ref) ∧ SeqRows H as L ∧ rs.length + L.length ≤ 100 ∧ (∀ i r, L[i]? = some r → FitsB (names rs) [b.nm] (L.take i) r) ∧ ∀ x H', Same H H' → TreeAt C H' x (openedL rs b.nm L) → Q (.ref x) H'
section
variable {P : Program} {w : World} {K : PySem.W.Frag} {mg : Str → Option Value} {base : Heap} {C : Addr}
abbrev nOpened : List Str := ["self", "box", "rows", "loaded", "ahead", "row"]
theorem sc_Tree_opened : FnScope nOpened ["self", "box", "rows"] (defScope s_Tree_opened) := ⟨rfl, rfl, rfl, by decide +kernel, rfl, by decide +kernel, by decide +kernel⟩
theorem ok_Tree_opened {f fT : Addr} {fd fdT : FuncData} (F : Fun K "opened" "Tree.opened" s_Tree_opened f fd) (Db : DefAt K mg "check_box" s_check_box ["tree", "thing"]) (Gb : FnOk P w K mg base CX0 3 Db.f Db.fd ["tree", "thing"] (spBox C))
    (Dc : DefAt K mg "check_rows" s_check_rows ["rows", "names", "folders"]) (Gc : FnOk P w K mg base CX0 4 Dc.f Dc.fd ["rows", "names", "folders"] (spCheckRowsD K)) (B : TxB mg) (TC : TxC K mg) (hS : ∃ t, mg "SHUT" = some (.str "shut" t)) (T : TxT K mg C)
    (MT : Mk K C fT) (bT : Binds K fdT ["self", "rows"] []) (GT : FnOk P w K mg base CX0 5 fT fdT ["self", "rows"] (spTreeInit C)) : FnOk P w K mg base CX0 7 f fd ["self", "box", "rows"] (spOpened C) := by
  obtain ⟨t2, gF⟩ := TC.folder
  obtain ⟨t3, gS⟩ := hS
  refine F.ok sc_Tree_opened (fun vs H Q E h => ?_) (fun cdv A outer s H vs Q E hr h => ?_)
  · obtain ⟨t, rw, b, rs, as, L, rfl, _⟩ := h
    rfl
  · obtain ⟨t, rw, b, rs, as, L, rfl, ht, hb, hsh, hrw, hrows, hl, hfit, hq⟩ := h
    have hu := hu_of hr
    have hv := ht.val
    have l100 := ht.len
    have hz : b.nm ∈ names rs := List.mem_map.mpr ⟨b, hb, rfl⟩
    obtain ⟨dx, q, f, k, p, qs, h1, h2, h3, h4, h5, h6⟩ := ht.ex
    refine ⟨_, pss_cons (ps_expr (pe_call Gb (hr.mono (by decide)) rfl Db.g Db.F.kp Db.b .nil pass0 (pa_cons (pv 0) (pa_cons (pv 1) pa_nil))))
      (pss_cons (ps_if (pt_cmpR op_ne (pe_dget hu (pe_fld (pv 0) rfl) (pv 1) (fun _ _ => rfl)) (pe_glob (by rfl) gS (v := .str ("shut" : Str)) ⟨_, rfl⟩) (nomark _)) (pss_one ps_never) pss_nil)
      (pss_cons (ps_expr (pe_call Gc (hr.mono (by decide)) rfl Dc.g Dc.F.kp Dc.b .nil pass0 (pa_cons (pv 2) (pa_cons (pe_fld (pv 0) rfl) (pa_cons (pe_tup (pa_cons (pv 1) pa_nil)) pa_nil)))))
      (pss_cons (ps_set (i := 3) sc_Tree_opened.nd rfl (.inr rfl) (pe_tup (pa_cons (pv 1) (pa_cons (pe_dget hu (pe_fld (pv 0) rfl) (pv 1) (fun _ _ => rfl)) (pa_cons (pe_glob (by rfl) gF (v := .str ("folder" : Str)) ⟨_, rfl⟩) (pa_cons (pe_dget hu (pe_fld (pv 0) rfl) (pv 1) (fun _ _ => rfl)) pa_nil))))))
      (pss_cons (ps_setLc (i := 4) (own := [("row", 5)]) (g := gName 5) (tt := tYes) (te := tIf (tTest (tOp rEq (tOp (rIxT K) (tVar 5) (tC (.int 0))) (tVar 1))) (tVar 3) (tVar 5)) rfl sc_Tree_opened.nd rfl rfl (sw_true rfl rfl rfl (by decide +kernel)) (pi_tup (pe_fld (pv 0) rfl)) (blkOk_by (N := nOpened) (sc := defScope s_Tree_opened) (by decide +kernel))
        (fun _ _ _ _ _ => pg_name (i := 5) sc_Tree_opened.nd rfl (Or.inl rfl)) (fun _ _ _ _ _ => pts_nil) (fun _ _ _ _ _ => by exact pe_ifExp (pt_cmpR op_eq (pe_ix ix_tup (pv 5) pe_int (fun _ _ => rfl)) (pv 1) (nomark _)) (pv 3) (pv 5)))
      (pss_one (ps_ret (pe_make MT GT hr rfl T.g bT .nil pass0 (pa_cons (pe_op op_cat (pv 4) (pe_callTy (T := "list") call_list_of (by rfl) B.list (by decide +kernel) (pa_cons (pv 2) pa_nil))) pa_nil)))))))), ?_⟩
    obtain ⟨j, hj, ej⟩ := List.mem_iff_getElem.mp hb
    have ro := rowOf_at hv (i := j) (r := b) (by rw [← ej]; exact List.getElem?_eq_getElem hj)
    refine ⟨_, rfl, _, rfl, t, b.nm, rs, rfl, ht, hz, ?_⟩
    have dgk := DGet.k (k := Sum.inr b.nm) h5
    rw [valV_kvF, show (rs.find? fun q => decide (q.nm = b.nm)) = some b from ro] at dgk
    refine ⟨_, rfl, t, C, dx, _, _, rfl, h1, T.cl, T.nk, tf_k _ _ _ _, _, rfl, k, _, rfl, dgk, rfl, _, rfl, ?_⟩
    rw [decide_eq_true (congrArg V.str hsh)]
    refine iteF ?_
    refine ⟨_, rfl, _, rfl, t, C, dx, _, _, rfl, h1, T.cl, T.nk, tf_k _ _ _ _, _, rfl, (by show 1 ≤ sizeLine; decide), fun u hu' => ?_⟩
    have s1 : Same H (upd H u (.tup [V.str b.nm])) := Same.new hu'
    refine ⟨rw, k, u, _, rs, [b.nm], as, L, rfl, hrw.same s1, hrows.same s1, s1 _ _ h5, sqT upd_same, by omega, by omega, (by show 1 ≤ 100; decide), hfit, fun H1 s2 => ?_⟩
    have sA := s1.trans s2
    have dgf := DGet.k (k := Sum.inr b.nm) (sA _ _ h4)
    rw [valV_kvF, show (rs.find? fun q => decide (q.nm = b.nm)) = some b from ro] at dgf
    have dgp := DGet.k (k := Sum.inr b.nm) (sA _ _ h6)
    rw [valV_kvF, show (rs.find? fun q => decide (q.nm = b.nm)) = some b from ro] at dgp
    refine ⟨_, rfl, _, rfl, t, C, dx, _, _, rfl, sA _ _ h1, T.cl, T.nf, tf_f _ _ _ _, _, rfl, f, _, rfl, dgf, _, rfl, t, C, dx, _, _, rfl, sA _ _ h1, T.cl, T.np, tf_p _ _ _ _, _, rfl, p, _, rfl, dgp, (by show 4 ≤ sizeLine; decide), fun ld hld => ?_⟩
    have sB := sA.trans (Same.new (o := .tup [V.str b.nm, .str b.fo, .str ("folder" : Str), prV b.pr]) hld)
    have eB : (upd H1 ld (.tup [V.str b.nm, .str b.fo, .str ("folder" : Str), prV b.pr])) ld = some (.tup (rowVs (loadR b.nm b))) := by
      rw [upd_same]; unfold loadR; rw [if_pos rfl]; rfl
    generalize upd H1 ld (.tup [V.str b.nm, .str b.fo, .str ("folder" : Str), prV b.pr]) = H2 at sB eB
    refine ⟨_, rfl, t, C, dx, _, _, rfl, sB _ _ h1, T.cl, T.nq, tf_q _ _ _ _, q, rfl, ⟨_, sqT (sB _ _ h2)⟩, fun D hD => ?_⟩
    have r2 := h3.same sB
    refine lc_tup (K := K) (a := q) (xs := qs.map V.ref) (fun i H' => KeepI H2 H' D ((rs.take i).map (loadR b.nm))) (KeepI.nil hD) (fun i H' _ m => sqT (m.same _ _ (sB _ _ h2))) ?_ ?_
    · rintro i x H4 hx m
      obtain ⟨ra, r, rfl, hra, hr', e0⟩ := rows_at r2 hx
      have e4 := m.same _ _ e0
      have lt : ((rs.take i).map (loadR b.nm)).length ≤ 900 := by rw [List.length_map, List.length_take]; omega
      refine ⟨rfl, tYes_if ⟨_, rfl, ra, _, _, _, rfl, rfl, sqT e4, atI0 _ _ _ _, _, rfl, rfl, _, rfl, ?_⟩⟩
      rw [take_more hr', List.map_append]
      refine ite2 (fun hc => ?_) (fun hc => ?_)
      · have hc' : r.nm = b.nm := V.str.inj (of_decide_eq_true hc)
        obtain rfl := names_inj hv (List.mem_of_getElem? hr') hb hc'
        exact ⟨_, rfl, m.grow hD (Same.refl _) (m.same _ _ eB) lt⟩
      · have hc' : ¬ r.nm = b.nm := fun e => hc (decide_eq_true (by rw [e]))
        have g := m.grow (r := loadR b.nm r) hD (Same.refl _) (by unfold loadR; rw [if_neg hc']; exact e4) lt
        exact ⟨_, rfl, g⟩
    · rintro H4 m
      rw [List.length_map, h3.len, List.take_length] at m
      obtain ⟨as2, d1, d2⟩ := m.ex
      have sC := sB.trans m.same
      have lq : as2.length = rs.length := by rw [d2.len, List.length_map]
      have lL : as.length = L.length := hrows.len
      refine ⟨_, rfl, _, rfl, rw, as.map V.ref, rfl, ?_, fun l hl' => ?_⟩
      · rcases hrw.same sC with z | z
        · exact .inr (sqT z)
        · exact .inl (SqL.of z)
      have sD := sC.trans (Same.new (o := .lst (as.map V.ref)) hl')
      refine ⟨D, l, _, _, rfl, rfl, (Same.new hl') _ _ d1, upd_same, szl (by rw [List.length_map, List.length_map]; omega), fun l3 hl3 => ?_⟩
      have sE := sD.trans (Same.new (o := .lst (as2.map V.ref ++ as.map V.ref)) hl3)
      have s34 := (Same.new (o := .lst (as.map V.ref)) hl').trans (Same.new (o := .lst (as2.map V.ref ++ as.map V.ref)) hl3)
      intro x d nx nd _
      have s9 := mk_same0 (C := C) nx nd
      have e9 : (upd (upd H4 l (.lst (as.map V.ref))) l3 (.lst (as2.map V.ref ++ as.map V.ref))) l3 = some (.lst ((as2 ++ as).map V.ref)) := by rw [upd_same, List.map_append]
      have rr := SeqRows.append (d2.same s34).seq (hrows.same sE)
      exact ⟨x, d, l3, _, openedL rs b.nm L, rfl, upd_same, .inr (s9 _ _ e9), rr.same s9, by unfold openedL; rw [List.length_append, List.length_map]; exact hl, opened_valid hv hb hfit, fun H6 sb tr => ⟨rfl, hq x H6 (sE.trans (mk_same nx nd sb)) tr⟩⟩
end
end Ts

set_option maxRecDepth 100000
set_option maxHeartbeats 2000000
namespace Ts
open PySem L2
/-! ### calls with keywords alone -/
def gR {α : Type} (us ws : List α) : List α := us ++ ws.reverse
theorem vals_rev : ∀ {vs : List V} {us : List Value}, Vals vs us → Vals vs.reverse us.reverse
  | _, _, .nil => .nil
  | _, _, .cons r t => by
    rw [List.reverse_cons, List.reverse_cons]
    exact (vals_rev t).append (.cons r .nil)
theorem Fun.kR {K : PySem.W.Frag} {x qual : Str} {st : Stmt} {f : Addr} {fd : FuncData} (F : Fun K x qual st f fd) (ps : List Str) (n : Nat) (ks : List Str)
    (h : ∀ (kV doc pm : Value) (an : Option Addr) (cdv ct : Value) (us ws : List Value), us.length = n → ws.length = ks.length → bindArgs (PySem.W.fnOf x qual (defArgs st) (defBody st) (defScope st) .none kV doc pm an cdv ct) ⟨us, ks.zip ws⟩ = pure (ps.zip (us ++ ws.reverse))) : KBn K fd ps n ks gR gR := by
  obtain ⟨oc, od, kV, doc, pm, an, cdv, ct, osl, rfl, lk, hcd⟩ := F.ex
  exact ⟨fun s us ws _ hu hw => BindsTo.of_eq (h kV doc pm an cdv ct us ws hu hw), fun r rz => r.append (vals_rev rz)⟩
/-- o.m(k = v, ..) -/
def tMethK (C : Addr) (m : Str) (n : Nat) (sp : Sp) (gV : List V → List V → List V) (E : XK) (ta : TE) (tk : TA) : TE := fun σ H Q => ta σ H fun x H1 => ∃ a dx fs, x = .ref a ∧ H1 a = some (.ins C dx fs) ∧ fs.lookup m = none ∧ tk σ H1 fun zs H2 => zs.length = n ∧ sp (gV [x] zs) H2 Q E
/-- f(k = v, ..) -/
def tCallK0 (n : Nat) (sp : Sp) (gV : List V → List V → List V) (E : XK) (tk : TA) : TE := fun σ H Q => tk σ H fun zs H2 => zs.length = n ∧ sp (gV [] zs) H2 Q E
section
variable {X : Cx} {CX : CXT} {k n : Nat} {f C : Addr} {fd : FuncData} {ps ks : List Str} {sp : Sp} {E : XK} {x m : Str} {p pos apos : Pos} {o : Expr} {kws : List Keyword} {ta : TE} {tk : TA} {g : List Value → List Value → List Value} {gV : List V → List V → List V}
theorem pe_methK {pl : Sem Bool} (he : PE X o ta) (c : Cls X.K C) (hm : Meth X.K C m f) (F : FnOk X.prog X.w X.K X.mg X.base CX k f fd ps sp) (hr : Room k X.A) (hb : KBn X.K fd ps 1 ks g gV) (hx : Passes CX X E) (hkw : PK X kws tk)
    (hall : (backToKw pos (keywordEach kws X.env)).all (·.1.isSome) = true := by rfl) (hks : (backToKw pos (keywordEach kws X.env)).filterMap (·.1) = ks := by rfl)
    (hpl : ((backTo pos (starEach [] X.env)).any (·.1) || (backToKw pos (keywordEach kws X.env)).any (·.1.isNone)) = false := by rfl)
    (ht : eval (.Call (.Attribute o m apos) [] kws pos) X.env = (do
      let ov ← eval o X.env
      standAt apos.atName
      let (f, first) ← holding [ov] (getMethod ov m pl)
      callWith pos f first (backTo pos (starEach [] X.env)) (backToKw pos (keywordEach kws X.env))) := by rfl) :
    PE X (.Call (.Attribute o m apos) [] kws pos) (tMethK C m ks.length sp gV E ta tk) := by
  refine ⟨fun pins s σ H Q I h => ?_⟩
  refine PySem.W.methodCall_KW (pl := pl) (thn (he.run pins s σ H _ I h) fun u s1 ⟨x, H1, I1, rx, a, dx, fs, ex, ea, l, q⟩ => ?_) ht
  subst ex
  obtain rfl : u = Value.ref a := rx
  refine getmeth_ok I1 ea c hm l ?_
  refine PySem.W.callWith_KW0 (first := [.ref a]) (h₀ := X.base) I.ok.mod.kin hm.kp hall (thn (hkw.run pos pins s1 σ H1 _ I1 q) fun ws s2 ⟨zs, H2, I2, rz, l2, q2⟩ => ⟨I2.kIn, ?_⟩) hpl
  rw [hks]
  exact run_fnN (us := [.ref a]) (vs := [.ref a]) F hr hb hx I2 (.cons rfl .nil) rz rfl l2 q2
theorem pe_callK0 (F : FnOk X.prog X.w X.K X.mg X.base CX k f fd ps sp) (hr : Room k X.A) (hg : Gl X x) (hm : X.mg x = some (.ref f)) (hk : PySem.W.keepIn X.K (.ref f) = true) (hb : KBn X.K fd ps 0 ks g gV) (hx : Passes CX X E) (hkw : PK X kws tk)
    (hall : (backToKw pos (keywordEach kws X.env)).all (·.1.isSome) = true := by rfl) (hks : (backToKw pos (keywordEach kws X.env)).filterMap (·.1) = ks := by rfl) (hdb : (x == ("__debug__" : Str)) = false := by decide)
    (hpl : ((backTo pos (starEach [] X.env)).any (·.1) || (backToKw pos (keywordEach kws X.env)).any (·.1.isNone)) = false := by rfl) :
    PE X (.Call (.Name x p) [] kws pos) (tCallK0 ks.length sp gV E tk) := by
  refine ⟨fun pins s σ H Q I h => ?_⟩
  refine wpAny_Call_Name_kw (ld_glob I hg hm ?_ hdb)
  refine PySem.W.callWith_KW0 (h₀ := X.base) I.ok.mod.kin hk hall ?_ hpl
  refine thn (hkw.run pos pins s σ H _ I h) fun ws s2 ⟨zs, H2, I2, rz, l2, q2⟩ => ⟨I2.kIn, ?_⟩
  rw [hks]
  exact run_fnN (us := []) (vs := []) F hr hb hx I2 .nil rz rfl l2 q2
/-- x(k = y), x an object of an own class in slot i, y a name in slot j -/
theorem pe_callOwnK (i j : Nat) {nm y : Str} {p2 kpos : Pos} (F : FnOk X.prog X.w X.K X.mg X.base CX k f fd ps sp) (hmt : Meth X.K C "__call__" f) (hf : PySem.W.fnIn X.K f = true) (hr : Room k X.A) (hb : KBn X.K fd ps 1 [nm] g gV) (hx : Passes CX X E)
    (hN : X.N[i]? = some x := by rfl) (hv : Vis X.env.scope x := by first | exact .inl rfl | exact .inr (.inl rfl) | exact .inr (.inr rfl)) (hN2 : X.N[j]? = some y := by rfl) (hv2 : Vis X.env.scope y := by first | exact .inl rfl | exact .inr (.inl rfl) | exact .inr (.inr rfl))
    (hd : (x == ("__debug__" : Str)) = false := by decide) (hcd : (x == ("__classdict__" : Str)) = false := by decide) (hd2 : (y == ("__debug__" : Str)) = false := by decide) (hcd2 : (y == ("__classdict__" : Str)) = false := by decide) :
    PE X (.Call (.Name x p) [] [⟨some nm, .Name y p2, kpos⟩] pos) (fun σ H Q => ∃ (a dx : Addr) (fs : List (Str × V)) (v : V), σ[i]? = some (some (.ref a)) ∧ H a = some (.ins C dx fs) ∧ σ[j]? = some (some v) ∧ sp (gV [.ref a] [v]) H Q E) := by
  refine ⟨fun pins s σ H Q I h => ?_⟩
  obtain ⟨a, dx, fs, v, e1, ha, e2, hsp⟩ := h
  obtain ⟨mA, JJ, _⟩ := ins_get I.hok ha
  obtain ⟨od, J, _⟩ := JJ.look
  refine wpAny_Call_Name_kw (ld_var i hN hv hd hcd I e1 fun u r => ?_)
  cases r
  refine PySem.W.kco_callWith_of (K := X.K) (C := C) (ox := PySem.W.instObj C dx) (od := od) rfl rfl ?_
  refine evalArgs_kw_nil rfl ?_
  show wpAny _ _ (evalAll [(do let v ← eval (.Name y p2) X.env; standAt pos; pure v)]) _ _ s
  refine wpAny_evalAll_cons (wpAny_bind (ld_var j hN2 hv2 hd2 hcd2 I e2 fun u r => wpAny_bind (wpAny_standAt (wpAny_pure ?_))))
  refine wpAny_evalAll_nil ⟨⟨Inv.kIn I, J⟩, ?_⟩
  show wpAny _ _ (call (.ref a) [] [(nm, u)]) _ _ _
  refine wpAny_call (PySem.W.kco_code (Inv.kIn I) J rfl hmt.at_ hmt.fn hf ?_)
  have r1 : Vals [V.ref a] [Value.ref a] := .cons rfl .nil
  have rz : Vals [v] [u] := .cons r .nil
  have r2 := hb.rel r1 rz
  refine codeAny_mono (F.run X.A X.stack s H ⟨[.ref a], [nm].zip [u]⟩ (g [.ref a] [u]) (gV [.ref a] [v]) Q E hr I.env0 (hb.to s [.ref a] [u] I.kIn rfl rfl) r2 hsp) fun r s' hq => ?_
  rcases r with e | fl
  · exact hx pins σ H s e s' I hq
  · cases fl with
    | ret u => exact Inv.after I hq
    | _ => exact hq.elim
end
end Ts

set_option maxRecDepth 100000
set_option maxHeartbeats 4000000
namespace Ts
open PySem L2
/-! ### what two calls tell alike -/
def RT (C : Addr) (a b : Addr) (H : Hp) : Prop := ∃ rs, TreeAt C H a rs ∧ TreeAt C H b rs
def RM (C CM : Addr) (a b : Addr) (H : Hp) : Prop := ∃ t u rs d ts, MeanAt C CM H a t rs d ts ∧ MeanAt C CM H b u rs d ts
def RR (C CR : Addr) (a b : Addr) (H : Hp) : Prop := ∃ t u rs ds, RowAt C CR H a t rs ds ∧ RowAt C CR H b u rs ds
theorem RT.mon {C : Addr} : ∀ a b H H', Ext H H' → RT C a b H → RT C a b H' := fun a b H H' e ⟨rs, h1, h2⟩ => ⟨rs, h1.same e, h2.same e⟩
theorem RM.mon {C CM : Addr} : ∀ a b H H', Ext H H' → RM C CM a b H → RM C CM a b H' := fun a b H H' e ⟨t, u, rs, d, ts, h1, h2⟩ => ⟨t, u, rs, d, ts, h1.same e, h2.same e⟩
theorem RR.mon {C CR : Addr} : ∀ a b H H', Ext H H' → RR C CR a b H → RR C CR a b H' := fun a b H H' e ⟨t, u, rs, ds, h1, h2⟩ => ⟨t, u, rs, ds, h1.same e, h2.same e⟩
abbrev DT (C : Addr) : Eqv := DIns C (RT C)
abbrev DM (C CM : Addr) : Eqv := DIns CM (RM C CM)
abbrev DR (C CR : Addr) : Eqv := DIns CR (RR C CR)
/-- a tuple of a meaning and a list -/
abbrev DMid (K : PySem.W.Frag) (C CM : Addr) : Eqv := DTup K (fun x y H => DM C CM x y H ∨ DList DFlat x y H)
abbrev DPrs (K : PySem.W.Frag) : Eqv := DList (DTup K DFlat)
def DW (K : PySem.W.Frag) (C CM CR : Addr) : Eqv := fun x y H => DT C x y H ∨ DM C CM x y H ∨ DR C CR x y H ∨ DList DFlat x y H ∨ DMid K C CM x y H ∨ DPrs K x y H
theorem DW.mon {K : PySem.W.Frag} {C CM CR : Addr} : Mon (DW K C CM CR) := fun x y H H' e d => by
  rcases d with d | d | d | d | d | d
  · exact .inl (mon_ins RT.mon x y H H' e d)
  · exact .inr (.inl (mon_ins RM.mon x y H H' e d))
  · exact .inr (.inr (.inl (mon_ins RR.mon x y H H' e d)))
  · exact .inr (.inr (.inr (.inl (mon_list mon_flat x y H H' e d))))
  · exact .inr (.inr (.inr (.inr (.inl (mon_tup (Mon.or (mon_ins RM.mon) (mon_list mon_flat)) x y H H' e d)))))
  · exact .inr (.inr (.inr (.inr (.inr (mon_list (mon_tup mon_flat) x y H H' e d)))))
theorem fn_imp {P : Program} {w : World} {K : PySem.W.Frag} {mg : Str → Option Value} {base : Heap} {CX : CXT} {k : Nat} {f : Addr} {fd : FuncData} {ps : List Str} {sp sp' : Sp} (F : FnOk P w K mg base CX k f fd ps sp) (h : ∀ vs H Q E, sp' vs H Q E → sp vs H Q E) : FnOk P w K mg base CX k f fd ps sp' :=
  ⟨fun vs H Q E q => F.len vs H Q E (h _ _ _ _ q), fun A outer s H args us vs Q E hr he hb hv hs => F.run A outer s H args us vs Q E hr he hb hv (h _ _ _ _ hs)⟩
theorem RcG.mono {X : Cx} {n m : Nat} {D : Eqv} (h : RcG X n D) (hn : n ≤ m) : RcG X m D := fun A pins s σ H x y u v sb => h A pins s σ H x y u v (sb.mono hn)
theorem RcG.or {X : Cx} {n : Nat} {D D' : Eqv} (h : RcG X n D) (h' : RcG X n D') : RcG X n (fun x y H => D x y H ∨ D' x y H) := fun A pins s σ H x y u v sb I rx ry d => by
  rcases d with d | d
  · exact h A pins s σ H x y u v sb I rx ry d
  · exact h' A pins s σ H x y u v sb I rx ry d
section
variable {P : Program} {w : World} {K : PySem.W.Frag} {mg : Str → Option Value} {base : Heap} {C CM CR : Addr}
theorem eqT_of {f : Addr} {fd : FuncData} (G : FnOk P w K mg base CX0 2 f fd ["self", "other"] (spEqT K C)) : FnOk P w K mg base CX0 2 f fd ["self", "other"] (spEq (RT C)) := fn_imp G fun vs H Q E h => by
  obtain ⟨a, b, rfl, ⟨rs, h1, h2⟩, q⟩ := h
  refine ⟨a, .ref b, rs, rfl, h1, .inl ⟨b, rs, rfl, h2, ?_⟩⟩
  rw [decide_eq_true rfl]
  exact q H Ext.rfl'
theorem eqM_of {f : Addr} {fd : FuncData} (G : FnOk P w K mg base CX0 3 f fd ["self", "other"] (spMEq K C CM)) : FnOk P w K mg base CX0 3 f fd ["self", "other"] (spEq (RM C CM)) := fn_imp G fun vs H Q E h => by
  obtain ⟨a, b, rfl, ⟨t, u, rs, d, ts, h1, h2⟩, q⟩ := h
  refine ⟨a, t, .ref b, rs, d, ts, rfl, h1, .inl ⟨b, u, rs, d, ts, rfl, h2, ?_⟩⟩
  rw [decide_eq_true (rfl : rs = rs), decide_eq_true (rfl : d = d), decide_eq_true (rfl : ts = ts)]
  exact q H Ext.rfl'
theorem eqR_of {f : Addr} {fd : FuncData} (G : FnOk P w K mg base CX0 3 f fd ["self", "other"] (spREq K C CR)) : FnOk P w K mg base CX0 3 f fd ["self", "other"] (spEq (RR C CR)) := fn_imp G fun vs H Q E h => by
  obtain ⟨a, b, rfl, ⟨t, u, rs, ds, h1, h2⟩, q⟩ := h
  refine ⟨a, t, .ref b, rs, ds, rfl, h1, .inl ⟨b, u, ds, rfl, h2, ?_⟩⟩
  rw [alike_iff.mpr fun z _ => rfl]
  exact q H Ext.rfl'
end
theorem rcG_DW {X : Cx} {CXa CXb CXc : CXT} {C CM CR fT fM fR : Addr} {dT dM dR : FuncData} {pT pM pR : List Str} {ET EM ER : XK}
    (FT : FnOk X.prog X.w X.K X.mg X.base CXa 2 fT dT pT (spEq (RT C))) (sT : PySem.W.findIn X.K (.ref C) "__eq__" = some (some (.ref fT))) (iT : PySem.W.isFn X.K (.ref fT) = true) (bT : Binds X.K dT pT []) (xT : Passes CXa X ET)
    (FM : FnOk X.prog X.w X.K X.mg X.base CXb 3 fM dM pM (spEq (RM C CM))) (sM : PySem.W.findIn X.K (.ref CM) "__eq__" = some (some (.ref fM))) (iM : PySem.W.isFn X.K (.ref fM) = true) (bM : Binds X.K dM pM []) (xM : Passes CXb X EM)
    (FR : FnOk X.prog X.w X.K X.mg X.base CXc 3 fR dR pR (spEq (RR C CR))) (sR : PySem.W.findIn X.K (.ref CR) "__eq__" = some (some (.ref fR))) (iR : PySem.W.isFn X.K (.ref fR) = true) (bR : Binds X.K dR pR []) (xR : Passes CXc X ER) : RcG X 4 (DW X.K C CM CR) := by
  have h1 := RcG.mono (rcG_ins FT sT iT bT xT) (show 2 ≤ 4 by decide)
  have h2 := RcG.mono (rcG_ins FM sM iM bM xM) (show 3 ≤ 4 by decide)
  have h3 := RcG.mono (rcG_ins FR sR iR bR xR) (show 3 ≤ 4 by decide)
  have h4 := RcG.mono (rcG_list (X := X) mon_flat eqG_flat) (show 1 ≤ 4 by decide)
  have g1 := eqG_ins FM sM iM bM xM
  have g2 := EqG.mono (eqG_list (X := X) mon_flat eqG_flat) (show 1 ≤ 3 by decide)
  have h5 := rcG_tup (X := X) (Mon.or (mon_ins RM.mon) (mon_list mon_flat)) (EqG.or g1 g2)
  have h6 := RcG.mono (rcG_list (X := X) (mon_tup mon_flat) (eqG_tup (X := X) mon_flat eqG_flat)) (show 2 ≤ 4 by decide)
  exact RcG.or h1 (RcG.or h2 (RcG.or h3 (RcG.or h4 (RcG.or h5 h6))))
/-! ### pairs of calls -/
def PairOk (K : PySem.W.Frag) (C CM CR : Addr) : Eqv := fun x y H => (scal x y = true ∧ x = y) ∨ DW K C CM CR x y H
theorem PairOk.mon {K : PySem.W.Frag} {C CM CR : Addr} : Mon (PairOk K C CM CR) := fun x y H H' e d => d.imp id (DW.mon x y H H' e)
open Classical in
/-- the heap without one list, and without the lists that stood before -/
noncomputable def cut (H0 H : Hp) (l : Addr) : Hp := fun b => if b = l ∨ ∃ xs, H0 b = some (.lst xs) then none else H b
theorem cut_new {H0 H : Hp} {l b : Addr} (h : b ≠ l ∧ H0 b = none) : cut H0 H l b = H b := if_neg fun q => q.elim h.1 fun ⟨_, e⟩ => by rw [h.2] at e; cases e
theorem cut_ext (H0 H : Hp) (l : Addr) : Ext (cut H0 H l) H := fun b o e => by
  unfold cut at e
  split at e
  · cases e
  · exact e
theorem cut_same {H0 H H' : Hp} {l : Addr} (s : Same H H') : Ext (cut H0 H l) (cut H0 H' l) := fun b o e => by
  unfold cut at e ⊢
  split at e
  · cases e
  · rename_i h
    rw [if_neg h]
    exact s _ _ e
theorem cut_upd {H0 H : Hp} {l : Addr} {o : HO} : cut H0 (upd H l o) l = cut H0 H l := by
  funext b
  unfold cut
  by_cases h : b = l ∨ ∃ xs, H0 b = some (.lst xs)
  · rw [if_pos h, if_pos h]
  · rw [if_neg h, if_neg h, upd_ne fun e => h (.inl e)]
theorem cut_kl {H0 H : Hp} {l : Addr} (s : Same H0 H) (e : H l = none ∨ ∃ xs, H l = some (.lst xs)) : KL H (cut H0 H l) := fun b o eb no => by
  unfold cut
  rw [if_neg]
  · exact eb
  · rintro (rfl | ⟨xs, q⟩)
    · rcases e with e | ⟨xs, e⟩
      · rw [e] at eb; cases eb
      · rw [e] at eb; exact no xs (Option.some.inj eb).symm
    · rw [s _ _ q] at eb
      exact no xs (Option.some.inj eb).symm
theorem cut_less {H0 H1 H : Hp} {l : Addr} (s : Same H0 H1) : Ext (cut H1 H l) (cut H0 H l) := fun b o e => by
  unfold cut at e ⊢
  split at e
  · cases e
  · rename_i h
    rw [if_neg]
    · exact e
    · rintro (q | ⟨xs, q⟩)
      · exact h (.inl q)
      · exact h (.inr ⟨xs, s _ _ q⟩)
/-- a list that stood before may have changed -/
theorem cut_old {H0 H H' : Hp} {l p : Addr} {xs : List V} (hp : H0 p = some (.lst xs)) (k : ∀ b o, b ≠ p → H b = some o → H' b = some o) : Ext (cut H0 H l) H' := fun b o e => by
  unfold cut at e
  split at e
  · cases e
  · rename_i h
    exact k b o (fun q => h (.inr ⟨xs, q ▸ hp⟩)) e
structure PsA (K : PySem.W.Frag) (C CM CR : Addr) (H0 : Hp) (lp : Addr) (as : List Addr) (H : Hp) : Prop where
  same : Same H0 H
  lst : H lp = some (.lst (as.map V.ref))
  ok : ∀ a ∈ as, ∃ x y, cut H0 H lp a = some (.tup [x, y]) ∧ PairOk K C CM CR x y (cut H0 H lp)
section
variable {K : PySem.W.Frag} {C CM CR : Addr} {H0 H H' : Hp} {lp : Addr} {as : List Addr}
theorem PsA.next (h : PsA K C CM CR H0 lp as H) (s : Same H H') : PsA K C CM CR H0 lp as H' :=
  ⟨h.same.trans s, s _ _ h.lst, fun a ha => let ⟨x, y, e, p⟩ := h.ok a ha; ⟨x, y, cut_same s _ _ e, PairOk.mon x y _ _ (cut_same s) p⟩⟩
theorem PsA.kl (h : PsA K C CM CR H0 lp as H) : KL H (cut H0 H lp) := cut_kl h.same (.inr ⟨_, h.lst⟩)
theorem PsA.new (h : PsA K C CM CR H0 lp as H) {D : Addr} (hD : H D = none) : D ≠ lp ∧ H0 D = none := ⟨(ne_of_none h.lst hD).symm, h.same.free hD⟩
theorem PsA.weak {H1 : Hp} (h : PsA K C CM CR H1 lp as H) (s : Same H0 H1) : PsA K C CM CR H0 lp as H := ⟨s.trans h.same, h.lst, fun a ha => let ⟨x, y, e, p⟩ := h.ok a ha; ⟨x, y, cut_less s _ _ e, PairOk.mon x y _ _ (cut_less s) p⟩⟩
theorem PsA.put (h : PsA K C CM CR H0 lp as H) (h0 : H0 lp = none) {t : Addr} {x y : V} (ht : H t = some (.tup [x, y])) (p : PairOk K C CM CR x y (cut H0 H lp)) : PsA K C CM CR H0 lp (as ++ [t]) (upd H lp (.lst (as.map V.ref ++ [.ref t]))) := by
  refine ⟨fun b o e => by rw [upd_ne (ne_of_none e h0)]; exact h.same _ _ e, by rw [upd_same, List.map_append]; rfl, fun a ha => ?_⟩
  rw [cut_upd]
  rcases List.mem_append.mp ha with ha | ha
  · exact h.ok a ha
  · rw [List.mem_singleton.mp ha]
    exact ⟨x, y, cut_kl h.same (.inr ⟨_, h.lst⟩) _ _ ht nofun, p⟩
/-- scalars -/
theorem pk_sc {x : V} (h : scal x x = true) : PairOk K C CM CR x x H := .inl ⟨h, rfl⟩
theorem pkT {a b : Addr} {rs : List Row} (k1 : TreeAt C H a rs) (k2 : TreeAt C H b rs) : PairOk K C CM CR (.ref a) (.ref b) H := by
  obtain ⟨dx, q, f, k, p, qs, e1, _⟩ := id k1.ex
  obtain ⟨dy, q2, f2, k2', p2, qs2, e2, _⟩ := id k2.ex
  exact .inr (.inl ⟨a, b, _, _, _, _, rfl, rfl, e1, e2, rs, k1, k2⟩)
theorem pkM {a b t u : Addr} {rs : List Row} {d : Bool} {ts : List Str} (k1 : MeanAt C CM H a t rs d ts) (k2 : MeanAt C CM H b u rs d ts) : PairOk K C CM CR (.ref a) (.ref b) H := by
  obtain ⟨dx, _, _, e1, _⟩ := id k1.ex
  obtain ⟨dy, _, _, e2, _⟩ := id k2.ex
  exact .inr (.inr (.inl ⟨a, b, _, _, _, _, rfl, rfl, e1, e2, t, u, rs, d, ts, k1, k2⟩))
theorem pkR {a b t u : Addr} {rs : List Row} {ds : List De} (k1 : RowAt C CR H a t rs ds) (k2 : RowAt C CR H b u rs ds) : PairOk K C CM CR (.ref a) (.ref b) H := by
  obtain ⟨dx, _, _, _, e1, _⟩ := id k1.ex
  obtain ⟨dy, _, _, _, e2, _⟩ := id k2.ex
  exact .inr (.inr (.inr (.inl ⟨a, b, _, _, _, _, rfl, rfl, e1, e2, t, u, rs, ds, k1, k2⟩)))
theorem mv_alike {a b t u : Addr} {rs : List Row} {v : Str → Bool} (h1 : MV C CM H a t rs v) (h2 : MV C CM H b u rs v) : ∃ d ts, MeanAt C CM H a t rs d ts ∧ MeanAt C CM H b u rs d ts := by
  obtain ⟨d1, ts1, m1, v1⟩ := h1.ex
  obtain ⟨d2, ts2, m2, v2⟩ := h2.ex
  obtain ⟨q1, q2⟩ := turns_of m1.tree.val m1.norm v1
  obtain ⟨q3, q4⟩ := turns_of m2.tree.val m2.norm v2
  have ed : d2 = d1 := q3.trans q1.symm
  have et : ts2 = ts1 := q4.trans q2.symm
  subst ed et
  exact ⟨_, _, m1, m2⟩
theorem pkL {a b : Addr} {l : List V} (h1 : H a = some (.lst l)) (h2 : H b = some (.lst l)) (p : Prs DFlat l l H) : PairOk K C CM CR (.ref a) (.ref b) H :=
  .inr (.inr (.inr (.inr (.inl ⟨a, b, l, l, rfl, rfl, h1, h2, p⟩))))
theorem pk_tree {a b : Addr} {rs : List Row} {as' : List Addr} (N : PsA K C CM CR H0 lp as' H) (h1 : TreeAt C H a rs) (h2 : TreeAt C H b rs) : PairOk K C CM CR (.ref a) (.ref b) (cut H0 H lp) := pkT (h1.kl N.kl) (h2.kl N.kl)
theorem pk_mean {a b t u : Addr} {rs : List Row} {d : Bool} {ts : List Str} {as' : List Addr} (N : PsA K C CM CR H0 lp as' H) (h1 : MeanAt C CM H a t rs d ts) (h2 : MeanAt C CM H b u rs d ts) : PairOk K C CM CR (.ref a) (.ref b) (cut H0 H lp) := pkM (h1.kl N.kl) (h2.kl N.kl)
theorem pk_row {a b t u : Addr} {rs : List Row} {ds : List De} {as' : List Addr} (N : PsA K C CM CR H0 lp as' H) (h1 : RowAt C CR H a t rs ds) (h2 : RowAt C CR H b u rs ds) : PairOk K C CM CR (.ref a) (.ref b) (cut H0 H lp) := pkR (h1.kl N.kl) (h2.kl N.kl)
theorem pk_mv {a b t u : Addr} {rs : List Row} {v : Str → Bool} {as' : List Addr} (N : PsA K C CM CR H0 lp as' H) (h1 : MV C CM H a t rs v) (h2 : MV C CM H b u rs v) : PairOk K C CM CR (.ref a) (.ref b) (cut H0 H lp) := let ⟨_, _, m1, m2⟩ := mv_alike h1 h2; pk_mean N m1 m2
theorem prs_same {l : List V} (hf : l.all flatV = true) (he : ∀ x ∈ l, L2.eqV x x = true) : Prs DFlat l l H := ⟨rfl, fun i x y h1 h2 => by
  rw [h1] at h2
  cases h2
  have m := List.mem_of_getElem? h1
  exact ⟨List.all_eq_true.mp hf x m, List.all_eq_true.mp hf x m, he x m⟩⟩
theorem prs_strs (l : List Str) : Prs DFlat (l.map V.str) (l.map V.str) H := prs_same (flat_strs l) fun x hx => by
  obtain ⟨z, _, rfl⟩ := List.mem_map.mp hx
  rw [eqV_str]
  exact decide_eq_true rfl
theorem pk_list {a b : Addr} {l : List V} (n1 : a ≠ lp ∧ H0 a = none) (n2 : b ≠ lp ∧ H0 b = none) (h1 : H a = some (.lst l)) (h2 : H b = some (.lst l)) (p : Prs DFlat l l (cut H0 H lp)) : PairOk K C CM CR (.ref a) (.ref b) (cut H0 H lp) := pkL (by rw [cut_new n1]; exact h1) (by rw [cut_new n2]; exact h2) p
/-- a tuple of a meaning and a list -/
theorem pk_mid {r r2 a b t u l l2 : Addr} {rs : List Row} {d : Bool} {ts : List Str} {L : List Str} {as' : List Addr} (N : PsA K C CM CR H0 lp as' H) (n1 : l ≠ lp ∧ H0 l = none) (n2 : l2 ≠ lp ∧ H0 l2 = none) (hr : H r = some (.tup [.ref a, .ref l])) (hr2 : H r2 = some (.tup [.ref b, .ref l2]))
    (h1 : MeanAt C CM H a t rs d ts) (h2 : MeanAt C CM H b u rs d ts) (g1 : H l = some (.lst (L.map V.str))) (g2 : H l2 = some (.lst (L.map V.str))) : PairOk K C CM CR (.ref r) (.ref r2) (cut H0 H lp) := by
  have k := N.kl
  have k1 := h1.kl k
  have k2 := h2.kl k
  obtain ⟨dx, _, _, e1, _⟩ := id k1.ex
  obtain ⟨dy, _, _, e2, _⟩ := id k2.ex
  refine .inr (.inr (.inr (.inr (.inr (.inl ⟨r, r2, _, _, rfl, rfl, sqT (k _ _ hr nofun), sqT (k _ _ hr2 nofun), rfl, fun i x y hx hy => ?_⟩)))))
  match i, hx, hy with
  | 0, hx, hy => cases hx; cases hy; exact .inl ⟨a, b, _, _, _, _, rfl, rfl, e1, e2, t, u, rs, d, ts, k1, k2⟩
  | 1, hx, hy => cases hx; cases hy; exact .inr ⟨l, l2, _, _, rfl, rfl, by rw [cut_new n1]; exact g1, by rw [cut_new n2]; exact g2, prs_strs L⟩
  | n + 2, hx, hy => cases hx
/-- lists of pairs -/
theorem pk_prs {a b : Addr} {as bs : List Addr} {L : List (Str × Str)} {as' : List Addr} (N : PsA K C CM CR H0 lp as' H) (n1 : a ≠ lp ∧ H0 a = none) (n2 : b ≠ lp ∧ H0 b = none) (h1 : H a = some (.lst (as.map V.ref))) (h2 : H b = some (.lst (bs.map V.ref)))
    (pa : PrAt H as L) (pb : PrAt H bs L) : PairOk K C CM CR (.ref a) (.ref b) (cut H0 H lp) := by
  have k := N.kl
  refine .inr (.inr (.inr (.inr (.inr (.inr ⟨a, b, _, _, rfl, rfl, by rw [cut_new n1]; exact h1, by rw [cut_new n2]; exact h2, by rw [List.length_map, List.length_map, pa.len, pb.len], fun i x y hx hy => ?_⟩)))))
  rw [List.getElem?_map] at hx hy
  obtain ⟨q1, hq1, rfl⟩ := Option.map_eq_some_iff.mp hx
  obtain ⟨q2, hq2, rfl⟩ := Option.map_eq_some_iff.mp hy
  have hi : i < L.length := by rw [← pa.len]; exact (List.getElem?_eq_some_iff.mp hq1).1
  have hL := List.getElem?_eq_getElem hi
  exact ⟨q1, q2, _, _, rfl, rfl, sqT (k _ _ (pa.at_ i q1 _ hq1 hL) nofun), sqT (k _ _ (pb.at_ i q2 _ hq2 hL) nofun), prs_strs [L[i].1, L[i].2]⟩
/-- a new list of pairs -/
theorem PsA.start {G : Hp} (s : Same H0 G) (hl : G lp = none) (h : ∀ a ∈ as, ∃ x y, G a = some (.tup [x, y]) ∧ PairOk K C CM CR x y (cut H0 G lp)) : PsA K C CM CR H0 lp as (upd G lp (.lst (as.map V.ref))) :=
  ⟨s.trans (Same.new hl), upd_same, fun a ha => let ⟨x, y, h1, h2⟩ := h a ha; ⟨x, y, by rw [cut_upd]; exact cut_kl s (.inl hl) _ _ h1 nofun, by rw [cut_upd]; exact h2⟩⟩
theorem pkM0 {G : Hp} {a b t u : Addr} {rs : List Row} {d : Bool} {ts : List Str} (s : Same H0 G) (hl : G lp = none) (k1 : MeanAt C CM G a t rs d ts) (k2 : MeanAt C CM G b u rs d ts) : PairOk K C CM CR (.ref a) (.ref b) (cut H0 G lp) := pkM (k1.kl (cut_kl s (.inl hl))) (k2.kl (cut_kl s (.inl hl)))
theorem pkR0 {G : Hp} {a b t u : Addr} {rs : List Row} {ds : List De} (s : Same H0 G) (hl : G lp = none) (k1 : RowAt C CR G a t rs ds) (k2 : RowAt C CR G b u rs ds) : PairOk K C CM CR (.ref a) (.ref b) (cut H0 G lp) := pkR (k1.kl (cut_kl s (.inl hl))) (k2.kl (cut_kl s (.inl hl)))
end
end Ts

set_option maxRecDepth 100000
set_option maxHeartbeats 4000000
namespace Ts
open PySem L2
/-! ### the written rows -/
def rA : Row := ⟨"a", "top", "folder", some 1⟩
def rB : Row := ⟨"b", "a", "item", some 2⟩
def rC : Row := ⟨"c", "a", "folder", some 1⟩
def rD : Row := ⟨"d", "c", "item", some 1⟩
def rS : Row := ⟨"s", "top", "shut", some 3⟩
def rE : Row := ⟨"e", "c", "item", some 1⟩
def rT : Row := ⟨"t", "s", "item", some 1⟩
def rs0 : List Row := [rA, rB, rC, rD, rS]
theorem shape1 {z : Str} (h : z.length = 1) (l : Low z) : NameShape z := ⟨.inl (.inl h), l⟩
theorem valid0 : Valid rs0 := by
  have fA : Fits [] rA := ⟨shape1 (by decide +kernel) (by unfold Low; decide +kernel), by decide +kernel, by decide +kernel, .inl rfl, by decide +kernel, by show (1 : Int) ≤ 1; decide⟩
  have fB : Fits [rA] rB := ⟨shape1 (by decide +kernel) (by unfold Low; decide +kernel), by decide +kernel, by decide +kernel, .inr ⟨rA, .head _, rfl, rfl⟩, by decide +kernel, by show (1 : Int) ≤ 2; decide⟩
  have fC : Fits [rA, rB] rC := ⟨shape1 (by decide +kernel) (by unfold Low; decide +kernel), by decide +kernel, by decide +kernel, .inr ⟨rA, .head _, rfl, rfl⟩, by decide +kernel, by show (1 : Int) ≤ 1; decide⟩
  have fD : Fits [rA, rB, rC] rD := ⟨shape1 (by decide +kernel) (by unfold Low; decide +kernel), by decide +kernel, by decide +kernel, .inr ⟨rC, .tail _ (.tail _ (.head _)), rfl, rfl⟩, by decide +kernel, by show (1 : Int) ≤ 1; decide⟩
  have fS : Fits [rA, rB, rC, rD] rS := ⟨shape1 (by decide +kernel) (by unfold Low; decide +kernel), by decide +kernel, by decide +kernel, .inl rfl, by decide +kernel, by show (1 : Int) ≤ 3; decide⟩
  exact ((((Valid.nil.snoc fA).snoc fB).snoc fC).snoc fD).snoc fS
theorem fitsE : Fits rs0 rE := ⟨shape1 (by decide +kernel) (by unfold Low; decide +kernel), by decide +kernel, by decide +kernel, .inr ⟨rC, .tail _ (.tail _ (.head _)), rfl, rfl⟩, by decide +kernel, by show (1 : Int) ≤ 1; decide⟩
theorem nm0 : names rs0 = [("a" : Str), ("b" : Str), ("c" : Str), ("d" : Str), ("s" : Str)] := rfl
theorem in0 {z : Str} (h : z ∈ (["a", "b", "c", "d", "s"] : List Str)) : z ∈ names rs0 := by rw [nm0]; exact h
theorem un0 : Unl0 rs0 := fun r hr => by
  simp only [rs0, List.mem_cons, List.not_mem_nil, or_false] at hr
  rcases hr with rfl | rfl | rfl | rfl | rfl <;> exact nofun
theorem free0 {z : Str} (h : z ∈ names rs0) : Free rs0 z := by
  obtain ⟨r, hr, rfl⟩ := List.mem_map.mp h
  obtain ⟨i, hi, e⟩ := List.mem_iff_getElem.mp hr
  exact ⟨r, rowOf_at valid0 (by rw [← e]; exact List.getElem?_eq_getElem hi), un0 r hr⟩
theorem openT : ∀ (i : Nat) (r : Row), ([rT] : List Row)[i]? = some r → FitsB (names rs0) [rS.nm] (([rT] : List Row).take i) r
  | 0, r, h => by
    cases h
    exact ⟨shape1 (by decide +kernel) (by unfold Low; decide +kernel), by decide +kernel, by decide +kernel, by decide +kernel, by decide +kernel, by show (1 : Int) ≤ 1; decide⟩
  | n + 1, r, h => by cases h
abbrev nWtn : List Str := ["_law_found"]
def spWritten : Sp := fun vs H Q _ => vs = [] ∧ ∀ p as H', H p = none → Same H H' → H' p = some (.lst (as.map V.ref)) → RowsAt H' as rs0 → Q (.ref p) H'
section
variable {P : Program} {w : World} {K : PySem.W.Frag} {mg : Str → Option Value} {base : Heap} {C CM CR : Addr}
theorem sc_Wtn : FnScope nWtn [] (defScope s_L_written) := ⟨rfl, rfl, rfl, by decide +kernel, rfl, by decide +kernel, by decide +kernel⟩
theorem ok_written (D : DefAt K mg "_law_written" s_L_written []) : FnOk P w K mg base CX0 1 D.f D.fd [] spWritten := by
  refine D.F.ok sc_Wtn (fun vs H Q E h => ?_) (fun cdv A outer s H vs Q E hr h => ?_)
  · obtain ⟨rfl, _⟩ := h
    rfl
  · obtain ⟨rfl, hq⟩ := h
    refine ⟨_, pss_cons (ps_set (i := 0) sc_Wtn.nd rfl (.inl rfl) (pe_lst (pa_cons (pe_tup (pa_cons pe_str (pa_cons pe_str (pa_cons pe_str (pa_cons pe_int pa_nil))))) (pa_cons (pe_tup (pa_cons pe_str (pa_cons pe_str (pa_cons pe_str (pa_cons pe_int pa_nil))))) (pa_cons (pe_tup (pa_cons pe_str (pa_cons pe_str (pa_cons pe_str (pa_cons pe_int pa_nil))))) (pa_cons (pe_tup (pa_cons pe_str (pa_cons pe_str (pa_cons pe_str (pa_cons pe_int pa_nil))))) pa_nil))))))
      (pss_one (ps_ret (pe_op op_cat (pv 0) (pe_lst (pa_cons (pe_tup (pa_cons pe_str (pa_cons pe_str (pa_cons pe_str (pa_cons pe_int pa_nil))))) pa_nil))))), ?_⟩
    refine ⟨(by show 4 ≤ sizeLine; decide), fun a1 h1 => ?_⟩
    have s1 : Same H (upd H a1 (.tup [V.str ("a" : Str), V.str ("top" : Str), V.str ("folder" : Str), V.int 1])) := Same.new h1
    have e1 : (upd H a1 (.tup [V.str ("a" : Str), V.str ("top" : Str), V.str ("folder" : Str), V.int 1])) a1 = some (.tup (rowVs rA)) := upd_same
    generalize upd H a1 (.tup [V.str ("a" : Str), V.str ("top" : Str), V.str ("folder" : Str), V.int 1]) = H1 at s1 e1
    refine ⟨(by show 4 ≤ sizeLine; decide), fun a2 h2 => ?_⟩
    have s2 : Same H1 (upd H1 a2 (.tup [V.str ("b" : Str), V.str ("a" : Str), V.str ("item" : Str), V.int 2])) := Same.new h2
    have e2 : (upd H1 a2 (.tup [V.str ("b" : Str), V.str ("a" : Str), V.str ("item" : Str), V.int 2])) a2 = some (.tup (rowVs rB)) := upd_same
    generalize upd H1 a2 (.tup [V.str ("b" : Str), V.str ("a" : Str), V.str ("item" : Str), V.int 2]) = H2 at s2 e2
    refine ⟨(by show 4 ≤ sizeLine; decide), fun a3 h3 => ?_⟩
    have s3 : Same H2 (upd H2 a3 (.tup [V.str ("c" : Str), V.str ("a" : Str), V.str ("folder" : Str), V.int 1])) := Same.new h3
    have e3 : (upd H2 a3 (.tup [V.str ("c" : Str), V.str ("a" : Str), V.str ("folder" : Str), V.int 1])) a3 = some (.tup (rowVs rC)) := upd_same
    generalize upd H2 a3 (.tup [V.str ("c" : Str), V.str ("a" : Str), V.str ("folder" : Str), V.int 1]) = H3 at s3 e3
    refine ⟨(by show 4 ≤ sizeLine; decide), fun a4 h4 => ?_⟩
    have s4 : Same H3 (upd H3 a4 (.tup [V.str ("d" : Str), V.str ("c" : Str), V.str ("item" : Str), V.int 1])) := Same.new h4
    have e4 : (upd H3 a4 (.tup [V.str ("d" : Str), V.str ("c" : Str), V.str ("item" : Str), V.int 1])) a4 = some (.tup (rowVs rD)) := upd_same
    generalize upd H3 a4 (.tup [V.str ("d" : Str), V.str ("c" : Str), V.str ("item" : Str), V.int 1]) = H4 at s4 e4
    refine ⟨(by show 4 ≤ sizeLine; decide), fun l1 hl1 => ?_⟩
    have s5 : Same H4 (upd H4 l1 (.lst [V.ref a1, V.ref a2, V.ref a3, V.ref a4])) := Same.new hl1
    have e5 : (upd H4 l1 (.lst [V.ref a1, V.ref a2, V.ref a3, V.ref a4])) l1 = some (.lst [V.ref a1, V.ref a2, V.ref a3, V.ref a4]) := upd_same
    generalize upd H4 l1 (.lst [V.ref a1, V.ref a2, V.ref a3, V.ref a4]) = H5 at s5 e5
    refine ⟨_, rfl, (by show 4 ≤ sizeLine; decide), fun a5 h5 => ?_⟩
    have s6 : Same H5 (upd H5 a5 (.tup [V.str ("s" : Str), V.str ("top" : Str), V.str ("shut" : Str), V.int 3])) := Same.new h5
    have e6 : (upd H5 a5 (.tup [V.str ("s" : Str), V.str ("top" : Str), V.str ("shut" : Str), V.int 3])) a5 = some (.tup (rowVs rS)) := upd_same
    generalize upd H5 a5 (.tup [V.str ("s" : Str), V.str ("top" : Str), V.str ("shut" : Str), V.int 3]) = H6 at s6 e6
    refine ⟨(by show 1 ≤ sizeLine; decide), fun l2 hl2 => ?_⟩
    have s7 : Same H6 (upd H6 l2 (.lst [V.ref a5])) := Same.new hl2
    have e7 : (upd H6 l2 (.lst [V.ref a5])) l2 = some (.lst [V.ref a5]) := upd_same
    generalize upd H6 l2 (.lst [V.ref a5]) = H7 at s7 e7
    refine ⟨l1, l2, _, _, rfl, rfl, s7 _ _ (s6 _ _ e5), e7, (by show 4 + 1 ≤ sizeLine; decide), fun l3 hl3 => ?_⟩
    have s8 := Same.new (o := .lst ([V.ref a1, V.ref a2, V.ref a3, V.ref a4] ++ [V.ref a5])) hl3
    have t67 := s6.trans (s7.trans s8)
    have t4 := s5.trans t67
    have t3 := s4.trans t4
    have t2 := s3.trans t3
    have t1 := s2.trans t2
    refine hq l3 [a1, a2, a3, a4, a5] _ ((s1.trans (s2.trans (s3.trans (s4.trans (s5.trans (s6.trans s7)))))).free hl3) (s1.trans t1) upd_same ⟨rfl, fun i a r ha hr => ?_⟩
    match i, ha, hr with
    | 0, ha, hr => cases ha; cases hr; exact t1 _ _ e1
    | 1, ha, hr => cases ha; cases hr; exact t2 _ _ e2
    | 2, ha, hr => cases ha; cases hr; exact t3 _ _ e3
    | 3, ha, hr => cases ha; cases hr; exact t4 _ _ e4
    | 4, ha, hr => cases ha; cases hr; exact (s7.trans s8) _ _ e6
    | n + 5, ha, hr => cases ha
end
end Ts

set_option maxRecDepth 100000
set_option maxHeartbeats 8000000
namespace Ts
open PySem L2
abbrev nTr : List Str := ["_law_grove", "_law_pairs", "_law_new", "_law_inner"]
/-- pairs of calls, all alike -/
def PairsQ (K : PySem.W.Frag) (C CM CR : Addr) (n : Nat) (H : Hp) (Q : VK) : Prop := ∀ lp as H', H lp = none → PsA K C CM CR H lp as H' → as.length ≤ n → Q (.ref lp) H'
def spLTrees (K : PySem.W.Frag) (C CM CR : Addr) : Sp := fun vs H Q _ => ∃ t, vs = [.ref t] ∧ TreeAt C H t rs0 ∧ PairsQ K C CM CR 11 H Q
theorem tree_no {q f k p : Addr} {m : Str} (h : (["quads", "folders", "kinds", "prices"] : List String).all (fun x => !decide (m = (x : Str))) = true) : (tf q f k p).lookup m = none := by
  simp only [List.all_cons, List.all_nil, Bool.and_true, Bool.and_eq_true, Bool.not_eq_true', decide_eq_false_iff_not] at h
  exact tf_no _ _ _ _ h.1 h.2.1 h.2.2.1 h.2.2.2
section
variable {P : Program} {w : World} {K : PySem.W.Frag} {mg : Str → Option Value} {base : Heap} {C CM CR : Addr}
theorem sc_Tr : FnScope nTr ["_law_grove"] (defScope s_L_trees) := ⟨rfl, rfl, rfl, by decide +kernel, rfl, by decide +kernel, by decide +kernel⟩
theorem ok_Ltrees (D : DefAt K mg "_law_trees" s_L_trees ["_law_grove"]) (T : TxT K mg C)
    (mFo : MethAt K C "folder" "Tree.folder" s_Tree_folder ["self", "box"]) (GFo : FnOk P w K mg base CX0 4 mFo.f mFo.fd ["self", "box"] (spGet C fun r => .str r.fo)) (kFo : KBn K mFo.fd ["self", "box"] 1 ["box"] gR gR)
    (mKi : MethAt K C "kind" "Tree.kind" s_Tree_kind ["self", "box"]) (GKi : FnOk P w K mg base CX0 4 mKi.f mKi.fd ["self", "box"] (spGet C fun r => .str r.ki)) (kKi : KBn K mKi.fd ["self", "box"] 1 ["box"] gR gR)
    (mPr : MethAt K C "price" "Tree.price" s_Tree_price ["self", "box"]) (GPr : FnOk P w K mg base CX0 4 mPr.f mPr.fd ["self", "box"] (spGet C fun r => prV r.pr)) (kPr : KBn K mPr.fd ["self", "box"] 1 ["box"] gR gR)
    (mIn : MethAt K C "inside" "Tree.inside" s_Tree_inside ["self", "box"]) (GIn : FnOk P w K mg base CX0 5 mIn.f mIn.fd ["self", "box"] (spListOf C insideL)) (kIn : KBn K mIn.fd ["self", "box"] 1 ["box"] gR gR)
    (mBe : MethAt K C "below" "Tree.below" s_Tree_below ["self", "box"]) (GBe : FnOk P w K mg base CX0 5 mBe.f mBe.fd ["self", "box"] (spListOf C belowL)) (kBe : KBn K mBe.fd ["self", "box"] 1 ["box"] gR gR)
    (mWa : MethAt K C "way" "Tree.way" s_Tree_way ["self", "box"]) (GWa : FnOk P w K mg base CX0 5 mWa.f mWa.fd ["self", "box"] (spListOf C wayOf)) (kWa : KBn K mWa.fd ["self", "box"] 1 ["box"] gR gR)
    (mSt : MethAt K C "steps" "Tree.steps" s_Tree_steps ["self", "one", "other"]) (GSt : FnOk P w K mg base CX0 6 mSt.f mSt.fd ["self", "one", "other"] (spSteps C)) (kSt : KBn K mSt.fd ["self", "one", "other"] 1 ["other", "one"] gR gR)
    (mMo : MethAt K C "more" "Tree.more" s_Tree_more ["self", "row"]) (GMo : FnOk P w K mg base CX0 7 mMo.f mMo.fd ["self", "row"] (spMore C)) (kMo : KBn K mMo.fd ["self", "row"] 1 ["row"] gR gR)
    (mLe : MethAt K C "less" "Tree.less" s_Tree_less ["self", "box"]) (GLe : FnOk P w K mg base CX0 7 mLe.f mLe.fd ["self", "box"] (spLess C)) (kLe : KBn K mLe.fd ["self", "box"] 1 ["box"] gR gR)
    (mMv : MethAt K C "moved" "Tree.moved" s_Tree_moved ["self", "box", "folder"]) (GMv : FnOk P w K mg base CX0 7 mMv.f mMv.fd ["self", "box", "folder"] (spMoved C)) (kMv : KBn K mMv.fd ["self", "box", "folder"] 1 ["folder", "box"] gR gR)
    (mOp : MethAt K C "opened" "Tree.opened" s_Tree_opened ["self", "box", "rows"]) (GOp : FnOk P w K mg base CX0 7 mOp.f mOp.fd ["self", "box", "rows"] (spOpened C)) (kOp : KBn K mOp.fd ["self", "box", "rows"] 1 ["rows", "box"] gR gR) :
    FnOk P w K mg base CX0 8 D.f D.fd ["_law_grove"] (spLTrees K C CM CR) := by
  refine D.F.ok sc_Tr (fun vs H Q E h => ?_) (fun cdv A outer s H vs Q E hr h => ?_)
  · obtain ⟨t, rfl, _⟩ := h
    rfl
  · obtain ⟨t, rfl, ht, hq⟩ := h
    have r4 : Room 4 _ := hr.mono (by decide)
    have r5 : Room 5 _ := hr.mono (by decide)
    have r6 : Room 6 _ := hr.mono (by decide)
    have r7 : Room 7 _ := hr
    refine ⟨_, pss_cons (ps_set (i := 1) sc_Tr.nd rfl (.inl rfl) (pe_lst (pa_cons (pe_tup (pa_cons (pe_meth (pv 0) T.cl mFo.m GFo r4 mFo.b .nil pass0 (pa_cons pe_str pa_nil)) (pa_cons (pe_methK (pv 0) T.cl mFo.m GFo r4 kFo pass0 (pk_cons pe_str pk_nil)) pa_nil))) (pa_cons (pe_tup (pa_cons (pe_meth (pv 0) T.cl mKi.m GKi r4 mKi.b .nil pass0 (pa_cons pe_str pa_nil)) (pa_cons (pe_methK (pv 0) T.cl mKi.m GKi r4 kKi pass0 (pk_cons pe_str pk_nil)) pa_nil))) pa_nil))))
      (pss_cons (ps_expr (pe_bm PySem.F.plainAttrs_list PySem.F.slot_list_append PySem.F.type_list_append mt_append (pv 1) (pa_cons (pe_tup (pa_cons (pe_meth (pv 0) T.cl mPr.m GPr r4 mPr.b .nil pass0 (pa_cons pe_str pa_nil)) (pa_cons (pe_methK (pv 0) T.cl mPr.m GPr r4 kPr pass0 (pk_cons pe_str pk_nil)) pa_nil))) pa_nil)))
      (pss_cons (ps_expr (pe_bm PySem.F.plainAttrs_list PySem.F.slot_list_append PySem.F.type_list_append mt_append (pv 1) (pa_cons (pe_tup (pa_cons (pe_meth (pv 0) T.cl mIn.m GIn r5 mIn.b .nil pass0 (pa_cons pe_str pa_nil)) (pa_cons (pe_methK (pv 0) T.cl mIn.m GIn r5 kIn pass0 (pk_cons pe_str pk_nil)) pa_nil))) pa_nil)))
      (pss_cons (ps_expr (pe_bm PySem.F.plainAttrs_list PySem.F.slot_list_append PySem.F.type_list_append mt_append (pv 1) (pa_cons (pe_tup (pa_cons (pe_meth (pv 0) T.cl mBe.m GBe r5 mBe.b .nil pass0 (pa_cons pe_str pa_nil)) (pa_cons (pe_methK (pv 0) T.cl mBe.m GBe r5 kBe pass0 (pk_cons pe_str pk_nil)) pa_nil))) pa_nil)))
      (pss_cons (ps_expr (pe_bm PySem.F.plainAttrs_list PySem.F.slot_list_append PySem.F.type_list_append mt_append (pv 1) (pa_cons (pe_tup (pa_cons (pe_meth (pv 0) T.cl mWa.m GWa r5 mWa.b .nil pass0 (pa_cons pe_str pa_nil)) (pa_cons (pe_methK (pv 0) T.cl mWa.m GWa r5 kWa pass0 (pk_cons pe_str pk_nil)) pa_nil))) pa_nil)))
      (pss_cons (ps_expr (pe_bm PySem.F.plainAttrs_list PySem.F.slot_list_append PySem.F.type_list_append mt_append (pv 1) (pa_cons (pe_tup (pa_cons (pe_meth (pv 0) T.cl mSt.m GSt r6 mSt.b .nil pass0 (pa_cons pe_str (pa_cons pe_str pa_nil))) (pa_cons (pe_methK (pv 0) T.cl mSt.m GSt r6 kSt pass0 (pk_cons pe_str (pk_cons pe_str pk_nil))) pa_nil))) pa_nil)))
      (pss_cons (ps_set (i := 2) sc_Tr.nd rfl (.inl rfl) (pe_tup (pa_cons pe_str (pa_cons pe_str (pa_cons pe_str (pa_cons pe_int pa_nil))))))
      (pss_cons (ps_expr (pe_bm PySem.F.plainAttrs_list PySem.F.slot_list_append PySem.F.type_list_append mt_append (pv 1) (pa_cons (pe_tup (pa_cons (pe_meth (pv 0) T.cl mMo.m GMo r7 mMo.b .nil pass0 (pa_cons (pv 2) pa_nil)) (pa_cons (pe_methK (pv 0) T.cl mMo.m GMo r7 kMo pass0 (pk_cons (pv 2) pk_nil)) pa_nil))) pa_nil)))
      (pss_cons (ps_expr (pe_bm PySem.F.plainAttrs_list PySem.F.slot_list_append PySem.F.type_list_append mt_append (pv 1) (pa_cons (pe_tup (pa_cons (pe_meth (pv 0) T.cl mLe.m GLe r7 mLe.b .nil pass0 (pa_cons pe_str pa_nil)) (pa_cons (pe_methK (pv 0) T.cl mLe.m GLe r7 kLe pass0 (pk_cons pe_str pk_nil)) pa_nil))) pa_nil)))
      (pss_cons (ps_expr (pe_bm PySem.F.plainAttrs_list PySem.F.slot_list_append PySem.F.type_list_append mt_append (pv 1) (pa_cons (pe_tup (pa_cons (pe_meth (pv 0) T.cl mMv.m GMv r7 mMv.b .nil pass0 (pa_cons pe_str (pa_cons pe_str pa_nil))) (pa_cons (pe_methK (pv 0) T.cl mMv.m GMv r7 kMv pass0 (pk_cons pe_str (pk_cons pe_str pk_nil))) pa_nil))) pa_nil)))
      (pss_cons (ps_set (i := 3) sc_Tr.nd rfl (.inl rfl) (pe_lst (pa_cons (pe_tup (pa_cons pe_str (pa_cons pe_str (pa_cons pe_str (pa_cons pe_int pa_nil))))) pa_nil)))
      (pss_cons (ps_expr (pe_bm PySem.F.plainAttrs_list PySem.F.slot_list_append PySem.F.type_list_append mt_append (pv 1) (pa_cons (pe_tup (pa_cons (pe_meth (pv 0) T.cl mOp.m GOp r7 mOp.b .nil pass0 (pa_cons pe_str (pa_cons (pv 3) pa_nil))) (pa_cons (pe_methK (pv 0) T.cl mOp.m GOp r7 kOp pass0 (pk_cons (pv 3) (pk_cons pe_str pk_nil))) pa_nil))) pa_nil)))
      (pss_one (ps_ret (pv 1)))))))))))))), ?_⟩
    obtain ⟨dx, q, f, k, p, qs, h1, h2, h3, h4, h5, h6⟩ := id ht.ex
    have nFo : (tf q f k p).lookup ("folder" : Str) = none := tf_no _ _ _ _ (by decide +kernel) (by decide +kernel) (by decide +kernel) (by decide +kernel)
    have nKi : (tf q f k p).lookup ("kind" : Str) = none := tf_no _ _ _ _ (by decide +kernel) (by decide +kernel) (by decide +kernel) (by decide +kernel)
    have nPr : (tf q f k p).lookup ("price" : Str) = none := tf_no _ _ _ _ (by decide +kernel) (by decide +kernel) (by decide +kernel) (by decide +kernel)
    have nIn : (tf q f k p).lookup ("inside" : Str) = none := tf_no _ _ _ _ (by decide +kernel) (by decide +kernel) (by decide +kernel) (by decide +kernel)
    have nBe : (tf q f k p).lookup ("below" : Str) = none := tf_no _ _ _ _ (by decide +kernel) (by decide +kernel) (by decide +kernel) (by decide +kernel)
    have nWa : (tf q f k p).lookup ("way" : Str) = none := tf_no _ _ _ _ (by decide +kernel) (by decide +kernel) (by decide +kernel) (by decide +kernel)
    have nSt : (tf q f k p).lookup ("steps" : Str) = none := tf_no _ _ _ _ (by decide +kernel) (by decide +kernel) (by decide +kernel) (by decide +kernel)
    have nMo : (tf q f k p).lookup ("more" : Str) = none := tf_no _ _ _ _ (by decide +kernel) (by decide +kernel) (by decide +kernel) (by decide +kernel)
    have nLe : (tf q f k p).lookup ("less" : Str) = none := tf_no _ _ _ _ (by decide +kernel) (by decide +kernel) (by decide +kernel) (by decide +kernel)
    have nMv : (tf q f k p).lookup ("moved" : Str) = none := tf_no _ _ _ _ (by decide +kernel) (by decide +kernel) (by decide +kernel) (by decide +kernel)
    have nOp : (tf q f k p).lookup ("opened" : Str) = none := tf_no _ _ _ _ (by decide +kernel) (by decide +kernel) (by decide +kernel) (by decide +kernel)
    have ro : ∀ {i : Nat} {r : Row}, rs0[i]? = some r → rowOf rs0 r.nm = some r := fun h => rowOf_at valid0 h
    refine ⟨_, rfl, t, dx, _, rfl, h1, nFo, t, ("b" : Str), rs0, rB, rfl, ht, ro (i := 1) rfl, _, rfl, t, dx, _, rfl, h1, nFo, rfl, t, ("b" : Str), rs0, rB, rfl, ht, ro (i := 1) rfl, (by show 2 ≤ sizeLine; decide), fun t1 ht1 => ?_⟩
    have s1 : Same H (upd H t1 (.tup [V.str rB.fo, V.str rB.fo])) := Same.new ht1
    have e1 : (upd H t1 (.tup [V.str rB.fo, V.str rB.fo])) t1 = some (.tup [V.str rB.fo, V.str rB.fo]) := upd_same
    generalize upd H t1 (.tup [V.str rB.fo, V.str rB.fo]) = H1 at s1 e1
    refine ⟨_, rfl, t, dx, _, rfl, s1 _ _ h1, nKi, t, ("b" : Str), rs0, rB, rfl, ht.same s1, ro (i := 1) rfl, _, rfl, t, dx, _, rfl, s1 _ _ h1, nKi, rfl, t, ("b" : Str), rs0, rB, rfl, ht.same s1, ro (i := 1) rfl, (by show 2 ≤ sizeLine; decide), fun t2 ht2 => ?_⟩
    have s2 : Same H1 (upd H1 t2 (.tup [V.str rB.ki, V.str rB.ki])) := Same.new ht2
    have e2 : (upd H1 t2 (.tup [V.str rB.ki, V.str rB.ki])) t2 = some (.tup [V.str rB.ki, V.str rB.ki]) := upd_same
    generalize upd H1 t2 (.tup [V.str rB.ki, V.str rB.ki]) = H2 at s2 e2
    refine ⟨(by show 2 ≤ sizeLine; decide), fun lp hlp => ?_⟩
    have h0 : H lp = none := (s1.trans s2).free hlp
    have P0 : PsA K C CM CR H lp [t1, t2] (upd H2 lp (.lst [V.ref t1, V.ref t2])) := PsA.start (as := [t1, t2]) (s1.trans s2) hlp fun a ha => by
      rcases List.mem_cons.mp ha with rfl | ha
      · exact ⟨_, _, s2 _ _ e1, pk_sc rfl⟩
      · rw [List.mem_singleton.mp ha]
        exact ⟨_, _, e2, pk_sc rfl⟩
    generalize upd H2 lp (.lst [V.ref t1, V.ref t2]) = H3 at P0
    clear s1 e1 ht1 s2 e2 ht2 hlp
    refine ⟨_, rfl, .inl ⟨rfl, _, SqL.of P0.lst⟩, _, rfl, t, dx, _, rfl, P0.same _ _ h1, nPr, t, ("b" : Str), rs0, rB, rfl, ht.same P0.same, ro (i := 1) rfl, _, rfl, t, dx, _, rfl, P0.same _ _ h1, nPr, rfl, t, ("b" : Str), rs0, rB, rfl, ht.same P0.same, ro (i := 1) rfl, (by show 2 ≤ sizeLine; decide), fun t3 ht3 => ?_⟩
    have sH4 : Same H3 (upd H3 t3 (.tup [prV rB.pr, prV rB.pr])) := Same.new ht3
    have eH4 : (upd H3 t3 (.tup [prV rB.pr, prV rB.pr])) t3 = some (.tup [prV rB.pr, prV rB.pr]) := upd_same
    generalize upd H3 t3 (.tup [prV rB.pr, prV rB.pr]) = H4 at sH4 eH4
    have NH4 := P0.next sH4
    refine ⟨lp, _, _, rfl, rfl, NH4.lst, (by rw [List.length_map]; exact small1000 (by simp)), ?_⟩
    have P0n := NH4.put h0 eH4 (pk_sc (by rfl))
    have PH5 := P0n
    generalize upd H4 lp _ = H5 at PH5 ⊢
    clear P0n
    refine ⟨_, rfl, .inl ⟨rfl, _, SqL.of PH5.lst⟩, _, rfl, t, dx, _, rfl, PH5.same _ _ h1, nIn, t, ("a" : Str), rs0, rfl, ht.same PH5.same, .inr (in0 (by decide +kernel)), fun D1 H6 hD1 sH6 eH6 => ?_⟩
    have NH6 := PH5.next sH6
    refine ⟨_, rfl, t, dx, _, rfl, NH6.same _ _ h1, nIn, rfl, t, ("a" : Str), rs0, rfl, ht.same NH6.same, .inr (in0 (by decide +kernel)), fun D2 H7 hD2 sH7 eH7 => ?_⟩
    have NH7 := NH6.next sH7
    refine ⟨(by show 2 ≤ sizeLine; decide), fun t4 ht4 => ?_⟩
    have sH8 : Same H7 (upd H7 t4 (.tup [V.ref D1, V.ref D2])) := Same.new ht4
    have eH8 : (upd H7 t4 (.tup [V.ref D1, V.ref D2])) t4 = some (.tup [V.ref D1, V.ref D2]) := upd_same
    generalize upd H7 t4 (.tup [V.ref D1, V.ref D2]) = H8 at sH8 eH8
    have NH8 := NH7.next sH8
    have d1 := PH5.new hD1
    have d2 := NH6.new hD2
    refine ⟨lp, _, _, rfl, rfl, NH8.lst, (by rw [List.length_map]; exact small1000 (by simp)), ?_⟩
    have PH5n := NH8.put h0 eH8 (pk_list d1 d2 (sH8 _ _ (sH7 _ _ eH6)) (sH8 _ _ eH7) (prs_strs _))
    have PH9 := PH5n
    generalize upd H8 lp _ = H9 at PH9 ⊢
    clear PH5n
    refine ⟨_, rfl, .inl ⟨rfl, _, SqL.of PH9.lst⟩, _, rfl, t, dx, _, rfl, PH9.same _ _ h1, nBe, t, ("a" : Str), rs0, rfl, ht.same PH9.same, .inr (in0 (by decide +kernel)), fun D1 H10 hD1 sH10 eH10 => ?_⟩
    have NH10 := PH9.next sH10
    refine ⟨_, rfl, t, dx, _, rfl, NH10.same _ _ h1, nBe, rfl, t, ("a" : Str), rs0, rfl, ht.same NH10.same, .inr (in0 (by decide +kernel)), fun D2 H11 hD2 sH11 eH11 => ?_⟩
    have NH11 := NH10.next sH11
    refine ⟨(by show 2 ≤ sizeLine; decide), fun t5 ht5 => ?_⟩
    have sH12 : Same H11 (upd H11 t5 (.tup [V.ref D1, V.ref D2])) := Same.new ht5
    have eH12 : (upd H11 t5 (.tup [V.ref D1, V.ref D2])) t5 = some (.tup [V.ref D1, V.ref D2]) := upd_same
    generalize upd H11 t5 (.tup [V.ref D1, V.ref D2]) = H12 at sH12 eH12
    have NH12 := NH11.next sH12
    have d1 := PH9.new hD1
    have d2 := NH10.new hD2
    refine ⟨lp, _, _, rfl, rfl, NH12.lst, (by rw [List.length_map]; exact small1000 (by simp)), ?_⟩
    have PH9n := NH12.put h0 eH12 (pk_list d1 d2 (sH12 _ _ (sH11 _ _ eH10)) (sH12 _ _ eH11) (prs_strs _))
    have PH13 := PH9n
    generalize upd H12 lp _ = H13 at PH13 ⊢
    clear PH9n
    refine ⟨_, rfl, .inl ⟨rfl, _, SqL.of PH13.lst⟩, _, rfl, t, dx, _, rfl, PH13.same _ _ h1, nWa, t, ("d" : Str), rs0, rfl, ht.same PH13.same, .inr (in0 (by decide +kernel)), fun D1 H14 hD1 sH14 eH14 => ?_⟩
    have NH14 := PH13.next sH14
    refine ⟨_, rfl, t, dx, _, rfl, NH14.same _ _ h1, nWa, rfl, t, ("d" : Str), rs0, rfl, ht.same NH14.same, .inr (in0 (by decide +kernel)), fun D2 H15 hD2 sH15 eH15 => ?_⟩
    have NH15 := NH14.next sH15
    refine ⟨(by show 2 ≤ sizeLine; decide), fun t6 ht6 => ?_⟩
    have sH16 : Same H15 (upd H15 t6 (.tup [V.ref D1, V.ref D2])) := Same.new ht6
    have eH16 : (upd H15 t6 (.tup [V.ref D1, V.ref D2])) t6 = some (.tup [V.ref D1, V.ref D2]) := upd_same
    generalize upd H15 t6 (.tup [V.ref D1, V.ref D2]) = H16 at sH16 eH16
    have NH16 := NH15.next sH16
    have d1 := PH13.new hD1
    have d2 := NH14.new hD2
    refine ⟨lp, _, _, rfl, rfl, NH16.lst, (by rw [List.length_map]; exact small1000 (by simp)), ?_⟩
    have PH13n := NH16.put h0 eH16 (pk_list d1 d2 (sH16 _ _ (sH15 _ _ eH14)) (sH16 _ _ eH15) (prs_strs _))
    have PH17 := PH13n
    generalize upd H16 lp _ = H17 at PH17 ⊢
    clear PH13n
    refine ⟨_, rfl, .inl ⟨rfl, _, SqL.of PH17.lst⟩, _, rfl, t, dx, _, rfl, PH17.same _ _ h1, nSt, t, ("b" : Str), ("d" : Str), rs0, rfl, ht.same PH17.same, .inr (in0 (by decide +kernel)), .inr (in0 (by decide +kernel)), fun D1 H18 hD1 sH18 eH18 => ?_⟩
    have NH18 := PH17.next sH18
    refine ⟨_, rfl, t, dx, _, rfl, NH18.same _ _ h1, nSt, rfl, t, ("b" : Str), ("d" : Str), rs0, rfl, ht.same NH18.same, .inr (in0 (by decide +kernel)), .inr (in0 (by decide +kernel)), fun D2 H19 hD2 sH19 eH19 => ?_⟩
    have NH19 := NH18.next sH19
    refine ⟨(by show 2 ≤ sizeLine; decide), fun t7 ht7 => ?_⟩
    have sH20 : Same H19 (upd H19 t7 (.tup [V.ref D1, V.ref D2])) := Same.new ht7
    have eH20 : (upd H19 t7 (.tup [V.ref D1, V.ref D2])) t7 = some (.tup [V.ref D1, V.ref D2]) := upd_same
    generalize upd H19 t7 (.tup [V.ref D1, V.ref D2]) = H20 at sH20 eH20
    have NH20 := NH19.next sH20
    have d1 := PH17.new hD1
    have d2 := NH18.new hD2
    refine ⟨lp, _, _, rfl, rfl, NH20.lst, (by rw [List.length_map]; exact small1000 (by simp)), ?_⟩
    have PH17n := NH20.put h0 eH20 (pk_list d1 d2 (sH20 _ _ (sH19 _ _ eH18)) (sH20 _ _ eH19) (prs_strs _))
    have PH21 := PH17n
    generalize upd H20 lp _ = H21 at PH21 ⊢
    clear PH17n
    refine ⟨(by show 4 ≤ sizeLine; decide), fun nw hnw => ?_⟩
    have sH22 : Same H21 (upd H21 nw (.tup [V.str ("e" : Str), V.str ("c" : Str), V.str ("item" : Str), V.int 1])) := Same.new hnw
    have enw : (upd H21 nw (.tup [V.str ("e" : Str), V.str ("c" : Str), V.str ("item" : Str), V.int 1])) nw = some (.tup (rowVs rE)) := upd_same
    generalize upd H21 nw (.tup [V.str ("e" : Str), V.str ("c" : Str), V.str ("item" : Str), V.int 1]) = H22 at sH22 enw
    have PH22 := PH21.next sH22
    refine ⟨_, rfl, .inl ⟨rfl, _, SqL.of PH22.lst⟩, _, rfl, t, dx, _, rfl, PH22.same _ _ h1, nMo, _, rfl, t, nw, rs0, rE, rfl, ht.same PH22.same, .inl (enw), fitsE, (by decide), fun x1 H23 sH23 eH23 => ?_⟩
    have NH23 := PH22.next sH23
    refine ⟨_, rfl, t, dx, _, rfl, NH23.same _ _ h1, nMo, _, rfl, rfl, t, nw, rs0, rE, rfl, ht.same NH23.same, .inl (sH23 _ _ enw), fitsE, (by decide), fun x2 H24 sH24 eH24 => ?_⟩
    have NH24 := NH23.next sH24
    refine ⟨(by show 2 ≤ sizeLine; decide), fun t8 ht8 => ?_⟩
    have sH25 : Same H24 (upd H24 t8 (.tup [V.ref x1, V.ref x2])) := Same.new ht8
    have eH25 : (upd H24 t8 (.tup [V.ref x1, V.ref x2])) t8 = some (.tup [V.ref x1, V.ref x2]) := upd_same
    generalize upd H24 t8 (.tup [V.ref x1, V.ref x2]) = H25 at sH25 eH25
    have NH25 := NH24.next sH25
    refine ⟨lp, _, _, rfl, rfl, NH25.lst, (by rw [List.length_map]; exact small1000 (by simp)), ?_⟩
    have PH22n := NH25.put h0 eH25 (pk_tree NH25 ((eH23.same sH24).same sH25) (eH24.same sH25))
    have PH26 := PH22n
    generalize upd H25 lp _ = H26 at PH26 ⊢
    clear PH22n
    refine ⟨_, rfl, .inl ⟨rfl, _, SqL.of PH26.lst⟩, _, rfl, t, dx, _, rfl, PH26.same _ _ h1, nLe, t, ("c" : Str), rs0, rfl, ht.same PH26.same, in0 (by decide +kernel), fun x1 H27 sH27 eH27 => ?_⟩
    have NH27 := PH26.next sH27
    refine ⟨_, rfl, t, dx, _, rfl, NH27.same _ _ h1, nLe, rfl, t, ("c" : Str), rs0, rfl, ht.same NH27.same, in0 (by decide +kernel), fun x2 H28 sH28 eH28 => ?_⟩
    have NH28 := NH27.next sH28
    refine ⟨(by show 2 ≤ sizeLine; decide), fun t9 ht9 => ?_⟩
    have sH29 : Same H28 (upd H28 t9 (.tup [V.ref x1, V.ref x2])) := Same.new ht9
    have eH29 : (upd H28 t9 (.tup [V.ref x1, V.ref x2])) t9 = some (.tup [V.ref x1, V.ref x2]) := upd_same
    generalize upd H28 t9 (.tup [V.ref x1, V.ref x2]) = H29 at sH29 eH29
    have NH29 := NH28.next sH29
    refine ⟨lp, _, _, rfl, rfl, NH29.lst, (by rw [List.length_map]; exact small1000 (by simp)), ?_⟩
    have PH26n := NH29.put h0 eH29 (pk_tree NH29 ((eH27.same sH28).same sH29) (eH28.same sH29))
    have PH30 := PH26n
    generalize upd H29 lp _ = H30 at PH30 ⊢
    clear PH26n
    refine ⟨_, rfl, .inl ⟨rfl, _, SqL.of PH30.lst⟩, _, rfl, t, dx, _, rfl, PH30.same _ _ h1, nMv, t, rC, ("top" : Str), rs0, rfl, ht.same PH30.same, .tail _ (.tail _ (.head _)), .inl rfl, fun x1 H31 sH31 eH31 => ?_⟩
    have NH31 := PH30.next sH31
    refine ⟨_, rfl, t, dx, _, rfl, NH31.same _ _ h1, nMv, rfl, t, rC, ("top" : Str), rs0, rfl, ht.same NH31.same, .tail _ (.tail _ (.head _)), .inl rfl, fun x2 H32 sH32 eH32 => ?_⟩
    have NH32 := NH31.next sH32
    refine ⟨(by show 2 ≤ sizeLine; decide), fun t10 ht10 => ?_⟩
    have sH33 : Same H32 (upd H32 t10 (.tup [V.ref x1, V.ref x2])) := Same.new ht10
    have eH33 : (upd H32 t10 (.tup [V.ref x1, V.ref x2])) t10 = some (.tup [V.ref x1, V.ref x2]) := upd_same
    generalize upd H32 t10 (.tup [V.ref x1, V.ref x2]) = H33 at sH33 eH33
    have NH33 := NH32.next sH33
    refine ⟨lp, _, _, rfl, rfl, NH33.lst, (by rw [List.length_map]; exact small1000 (by simp)), ?_⟩
    have PH30n := NH33.put h0 eH33 (pk_tree NH33 ((eH31.same sH32).same sH33) (eH32.same sH33))
    have PH34 := PH30n
    generalize upd H33 lp _ = H34 at PH34 ⊢
    clear PH30n
    refine ⟨(by show 4 ≤ sizeLine; decide), fun it hit => ?_⟩
    have sH35 : Same H34 (upd H34 it (.tup [V.str ("t" : Str), V.str ("s" : Str), V.str ("item" : Str), V.int 1])) := Same.new hit
    have eit : (upd H34 it (.tup [V.str ("t" : Str), V.str ("s" : Str), V.str ("item" : Str), V.int 1])) it = some (.tup (rowVs rT)) := upd_same
    generalize upd H34 it (.tup [V.str ("t" : Str), V.str ("s" : Str), V.str ("item" : Str), V.int 1]) = H35 at sH35 eit
    have PH35 := PH34.next sH35
    refine ⟨(by show 1 ≤ sizeLine; decide), fun il hil => ?_⟩
    have sH36 : Same H35 (upd H35 il (.lst [V.ref it])) := Same.new hil
    have eil : (upd H35 il (.lst [V.ref it])) il = some (.lst ([it].map V.ref)) := upd_same
    generalize upd H35 il (.lst [V.ref it]) = H36 at sH36 eil
    have PH36 := PH35.next sH36
    have eit := sH36 _ _ eit
    refine ⟨_, rfl, .inl ⟨rfl, _, SqL.of PH36.lst⟩, _, rfl, t, dx, _, rfl, PH36.same _ _ h1, nOp, _, rfl, t, il, rS, rs0, [it], [rT], rfl, ht.same PH36.same, .tail _ (.tail _ (.tail _ (.tail _ (.head _)))), rfl, .inr (eil), ⟨rfl, fun i a r ha hr => match i, ha, hr with | 0, ha, hr => by cases ha; cases hr; exact .inl (eit) | n + 1, ha, hr => by cases ha⟩, (by decide), openT, fun x1 H37 sH37 eH37 => ?_⟩
    have NH37 := PH36.next sH37
    refine ⟨_, rfl, t, dx, _, rfl, NH37.same _ _ h1, nOp, _, rfl, rfl, t, il, rS, rs0, [it], [rT], rfl, ht.same NH37.same, .tail _ (.tail _ (.tail _ (.tail _ (.head _)))), rfl, .inr (sH37 _ _ eil), ⟨rfl, fun i a r ha hr => match i, ha, hr with | 0, ha, hr => by cases ha; cases hr; exact .inl (sH37 _ _ eit) | n + 1, ha, hr => by cases ha⟩, (by decide), openT, fun x2 H38 sH38 eH38 => ?_⟩
    have NH38 := NH37.next sH38
    refine ⟨(by show 2 ≤ sizeLine; decide), fun t11 ht11 => ?_⟩
    have sH39 : Same H38 (upd H38 t11 (.tup [V.ref x1, V.ref x2])) := Same.new ht11
    have eH39 : (upd H38 t11 (.tup [V.ref x1, V.ref x2])) t11 = some (.tup [V.ref x1, V.ref x2]) := upd_same
    generalize upd H38 t11 (.tup [V.ref x1, V.ref x2]) = H39 at sH39 eH39
    have NH39 := NH38.next sH39
    refine ⟨lp, _, _, rfl, rfl, NH39.lst, (by rw [List.length_map]; exact small1000 (by simp)), ?_⟩
    have PH36n := NH39.put h0 eH39 (pk_tree NH39 ((eH37.same sH38).same sH39) (eH38.same sH39))
    have PH40 := PH36n
    generalize upd H39 lp _ = H40 at PH40 ⊢
    clear PH36n
    exact ⟨_, rfl, hq lp _ H40 h0 PH40 (by simp)⟩
end
end Ts

set_option maxRecDepth 100000
set_option maxHeartbeats 8000000
namespace Ts
open PySem L2
theorem optS_scal (o : Option Str) : scal (optS o) (optS o) = true := by cases o <;> rfl
theorem mean_mk {K : PySem.W.Frag} {C CM : Addr} {R : Addr → Hp → Prop} {H : Hp} {t h : Addr} {d : Bool} {xs : List Str} {rs : List Row} (ht : TreeAt C H t rs) (hx : SqX K H h (xs.map V.str)) (hf : ∀ x ∈ xs, Free rs x)
    (k : ∀ m H', Same H H' → MeanAt C CM H' m t rs d (turnsL rs xs) → R m H') :
    ∀ x dx, H x = none → H dx = none → dx ≠ x → spMeaningInit K C CM (.ref x :: ([.ref t, .bl d, .ref h] ++ [])) (upd (upd H dx (.own x)) x (.ins CM dx [])) (fun v H2 => v = .non ∧ R x H2) E0 := fun x dx nx nd n => by
  obtain ⟨m, dx, t, h, d, xs, rs, e, h1, h2, h3, h4, q⟩ := mean_made (Q := fun v H => ∀ y, v = .ref y → R y H) ht hx hf (fun m H' s k1 y e => by cases e; exact k m H' s k1) x dx nx nd n
  exact ⟨m, dx, t, h, d, xs, rs, e, h1, h2, h3, h4, fun H' s k => ⟨(q H' s k).1, (q H' s k).2 x rfl⟩⟩
theorem mean_mkD {K : PySem.W.Frag} {C CM : Addr} {R : Addr → Hp → Prop} {H : Hp} {t h : Addr} {d : Bool} {rs : List Row} (ht : TreeAt C H t rs) (hx : SqT K H h [])
    (k : ∀ m H', Same H H' → MeanAt C CM H' m t rs d [] → R m H') :
    ∀ x dx, H x = none → H dx = none → dx ≠ x → spMeaningInit K C CM (.ref x :: ([.ref t, .bl d] ++ [.ref h])) (upd (upd H dx (.own x)) x (.ins CM dx [])) (fun v H2 => v = .non ∧ R x H2) E0 := fun x dx nx nd n => by
  obtain ⟨m, dx, t, h, d, xs, rs, e, h1, h2, h3, h4, q⟩ := mean_madeD (Q := fun v H => ∀ y, v = .ref y → R y H) ht hx (fun m H' s k1 y e => by cases e; exact k m H' s k1) x dx nx nd n
  exact ⟨m, dx, t, h, d, xs, rs, e, h1, h2, h3, h4, fun H' s k => ⟨(q H' s k).1, (q H' s k).2 x rfl⟩⟩
abbrev PSM : List Str := ["self", "tree", "default", "turns"]
abbrev nMg : List Str := ["_law_grove", "_law_first", "_law_bent", "_law_sense", "_law_second", "_law_pairs"]
def spLMeanings (K : PySem.W.Frag) (C CM CR : Addr) : Sp := fun vs H Q _ => ∃ (t b : Addr) (d : Bool) (xs : List Str), vs = [.ref t, .bl d, .ref b] ∧ TreeAt C H t rs0 ∧ H b = some (.lst (xs.map V.str)) ∧ (∀ x ∈ xs, Free rs0 x) ∧ PairsQ K C CM CR 5 H Q
section
variable {P : Program} {w : World} {K : PySem.W.Frag} {mg : Str → Option Value} {base : Heap} {C CM CR : Addr}
theorem sc_Mg : FnScope nMg ["_law_grove", "_law_first", "_law_bent"] (defScope s_L_meanings) := ⟨rfl, rfl, rfl, by decide +kernel, rfl, by decide +kernel, by decide +kernel⟩
theorem ok_Lmeanings {fM : Addr} {fdM : FuncData} {Te : Addr} {dsM : List Value} {gM : List Value → List Value → List Value} (D : DefAt K mg "_law_meanings" s_L_meanings ["_law_grove", "_law_first", "_law_bent"]) (T : TxT K mg C) (M : TxM K mg CM)
    (MM : Mk K CM fM) (bM : Binds K fdM PSM []) (bM1 : Binds K fdM PSM dsM) (rM1 : Vals [V.ref Te] dsM) (hTe : ∀ H, SqT K H Te []) (GM : FnOk P w K mg base CX0 7 fM fdM PSM (spMeaningInit K C CM))
    (kM : KBn K fdM PSM 1 ["turns", "default", "tree"] gR gR) (kM2 : KBn K fdM PSM 1 ["default", "tree"] gM (fun vs zs => gR vs zs ++ [V.ref Te]))
    (mV : MethAt K CM "value" "Meaning.value" s_Meaning_value ["self", "box"]) (GV : FnOk P w K mg base CX0 5 mV.f mV.fd ["self", "box"] (spMValue C CM)) (kV : KBn K mV.fd ["self", "box"] 1 ["box"] gR gR)
    (Dp : DefAt K mg "parting" s_parting ["one", "other"]) (Gp : FnOk P w K mg base CX0 5 Dp.f Dp.fd ["one", "other"] (spParting C CM)) (kP : KBn K Dp.fd ["one", "other"] 0 ["other", "one"] gR gR)
    (Dm : DefAt K mg "middle" s_middle ["meanings"]) (Gm : FnOk P w K mg base CX0 9 Dm.f Dm.fd ["meanings"] (spMiddle C CM)) (kMi : KBn K Dm.fd ["meanings"] 0 ["meanings"] gR gR) :
    FnOk P w K mg base CX0 10 D.f D.fd ["_law_grove", "_law_first", "_law_bent"] (spLMeanings K C CM CR) := by
  refine D.F.ok sc_Mg (fun vs H Q E h => ?_) (fun cdv A outer s H vs Q E hr h => ?_)
  · obtain ⟨t, b, d, xs, rfl, _⟩ := h
    rfl
  · obtain ⟨t, b, d, xs, rfl, ht, hb, hf, hq⟩ := h
    have r5 : Room 5 _ := hr.mono (by decide)
    have r8 : Room 8 _ := hr.mono (by decide)
    have r9 : Room 9 _ := hr
    refine ⟨_, pss_cons (ps_par (i := 3) (j := 4) rfl sc_Mg.nd rfl rfl (by decide) rfl rfl (pa_cons (pe_make MM GM r8 rfl M.g bM .nil pass0 (pa_cons (pv 0) (pa_cons (pv 1) (pa_cons (pv 2) pa_nil)))) (pa_cons (pe_make MM GM r8 rfl M.g bM1 rM1 pass0 (pa_cons (pv 0) (pa_cons (pe_not (pv 1)) pa_nil))) pa_nil)) (by rfl))
      (pss_cons (ps_set (i := 5) sc_Mg.nd rfl (.inl rfl) (pe_lst (pa_cons (pe_tup (pa_cons (pv 3) (pa_cons (pe_makeK0 MM GM r8 rfl M.g kM pass0 (pk_cons (pv 2) (pk_cons (pv 1) (pk_cons (pv 0) pk_nil)))) pa_nil))) pa_nil)))
      (pss_cons (ps_expr (pe_bm PySem.F.plainAttrs_list PySem.F.slot_list_append PySem.F.type_list_append mt_append (pv 5) (pa_cons (pe_tup (pa_cons (pv 4) (pa_cons (pe_makeK0 MM GM r8 rfl M.g kM2 pass0 (pk_cons (pe_not (pv 1)) (pk_cons (pv 0) pk_nil))) pa_nil))) pa_nil)))
      (pss_cons (ps_expr (pe_bm PySem.F.plainAttrs_list PySem.F.slot_list_append PySem.F.type_list_append mt_append (pv 5) (pa_cons (pe_tup (pa_cons (pe_meth (pv 3) M.cl mV.m GV r5 mV.b .nil pass0 (pa_cons pe_str pa_nil)) (pa_cons (pe_methK (pv 3) M.cl mV.m GV r5 kV pass0 (pk_cons pe_str pk_nil)) pa_nil))) pa_nil)))
      (pss_cons (ps_expr (pe_bm PySem.F.plainAttrs_list PySem.F.slot_list_append PySem.F.type_list_append mt_append (pv 5) (pa_cons (pe_tup (pa_cons (pe_call Gp r5 rfl Dp.g Dp.F.kp Dp.b .nil pass0 (pa_cons (pv 3) (pa_cons (pv 4) pa_nil))) (pa_cons (pe_callK0 Gp r5 rfl Dp.g Dp.F.kp kP pass0 (pk_cons (pv 4) (pk_cons (pv 3) pk_nil))) pa_nil))) pa_nil)))
      (pss_cons (ps_expr (pe_bm PySem.F.plainAttrs_list PySem.F.slot_list_append PySem.F.type_list_append mt_append (pv 5) (pa_cons (pe_tup (pa_cons (pe_call Gm r9 rfl Dm.g Dm.F.kp Dm.b .nil pass0 (pa_cons (pe_lst (pa_cons (pv 3) (pa_cons (pv 4) pa_nil))) pa_nil)) (pa_cons (pe_callK0 Gm r9 rfl Dm.g Dm.F.kp kMi pass0 (pk_cons (pe_lst (pa_cons (pv 3) (pa_cons (pv 4) pa_nil))) pk_nil)) pa_nil))) pa_nil)))
      (pss_one (ps_ret (pv 5)))))))), ?_⟩
    refine ⟨_, rfl, _, rfl, _, rfl, ?_⟩
    dsimp only [tNil]
    refine mean_mk ht (.inl (SqL.of hb)) hf fun m1 H1 s1 k1 => ?_
    refine ⟨_, rfl, _, rfl, d, rfl, ?_⟩
    dsimp only [tNil]
    refine mean_mkD (ht.same s1) (hTe _) fun m2 H2 s2 k2 => ?_
    refine ⟨_, _, rfl, ?_⟩
    have S2 := s1.trans s2
    replace ht := ht.same S2
    replace hb := S2 _ _ hb
    replace k1 := k1.same s2
    clear s1 s2
    refine ⟨_, rfl, _, rfl, _, rfl, _, rfl, rfl, rfl, ?_⟩
    dsimp only [tNil]
    refine mean_mk ht (.inl (SqL.of hb)) hf fun m3 H3 s3 k3 => ?_
    refine ⟨(by show 2 ≤ sizeLine; decide), fun t1 ht1 => ?_⟩
    have s4 : Same H3 (upd H3 t1 (.tup [V.ref m1, V.ref m3])) := Same.new ht1
    have e4 : (upd H3 t1 (.tup [V.ref m1, V.ref m3])) t1 = some (.tup [V.ref m1, V.ref m3]) := upd_same
    generalize upd H3 t1 (.tup [V.ref m1, V.ref m3]) = H4 at s4 e4
    refine ⟨(by show 1 ≤ sizeLine; decide), fun lp hlp => ?_⟩
    have h0 : H2 lp = none := (s3.trans s4).free hlp
    have P5 : PsA K C CM CR H2 lp [t1] (upd H4 lp (.lst [V.ref t1])) := PsA.start (as := [t1]) (s3.trans s4) hlp fun a ha => by
      rw [List.mem_singleton.mp ha]
      exact ⟨_, _, e4, pkM0 (s3.trans s4) hlp ((k1.same s3).same s4) (k3.same s4)⟩
    generalize upd H4 lp (.lst [V.ref t1]) = H5 at P5
    clear s3 k3 ht1 s4 e4 hlp
    refine ⟨_, rfl, .inl ⟨rfl, _, SqL.of P5.lst⟩, _, rfl, _, rfl, d, rfl, _, rfl, rfl, rfl, ?_⟩
    dsimp only [tNil]
    refine mean_mkD (ht.same P5.same) (hTe _) fun m4 H6 s6 k4 => ?_
    have N6 := P5.next s6
    refine ⟨(by show 2 ≤ sizeLine; decide), fun t2 ht2 => ?_⟩
    have s7 : Same H6 (upd H6 t2 (.tup [V.ref m2, V.ref m4])) := Same.new ht2
    have e7 : (upd H6 t2 (.tup [V.ref m2, V.ref m4])) t2 = some (.tup [V.ref m2, V.ref m4]) := upd_same
    generalize upd H6 t2 (.tup [V.ref m2, V.ref m4]) = H7 at s7 e7
    have N7 := N6.next s7
    refine ⟨lp, _, _, rfl, rfl, N7.lst, (by rw [List.length_map]; exact small1000 (by simp)), ?_⟩
    have P8 := N7.put h0 e7 (pk_mean N7 (k2.same N7.same) (k4.same s7))
    generalize upd H7 lp _ = H8 at P8 ⊢
    clear P5 s6 k4 N6 N7 s7 e7 ht2
    have noV : ∀ {a u k : Addr} {d : Bool}, (mf a u k d).lookup ("value" : Str) = none := fun {a u k d} => mf_no _ _ _ _ (by decide +kernel) (by decide +kernel) (by decide +kernel) (by decide +kernel)
    obtain ⟨dx, u, kk, g1, _, _⟩ := id k1.ex
    refine ⟨_, rfl, .inl ⟨rfl, _, SqL.of P8.lst⟩, _, rfl, m1, dx, _, rfl, P8.same _ _ g1, noV, m1, t, ("d" : Str), rs0, d, _, rfl, k1.same P8.same, .inr (in0 (by decide +kernel)), _, rfl, m1, dx, _, rfl, P8.same _ _ g1, noV, rfl, m1, t, ("d" : Str), rs0, d, _, rfl, k1.same P8.same, .inr (in0 (by decide +kernel)), ?_⟩
    refine ⟨(by show 2 ≤ sizeLine; decide), fun t3 ht3 => ?_⟩
    obtain ⟨bv, hbv⟩ : ∃ bv, bv = V.bl (valOf rs0 d (turnsL rs0 xs) "d") := ⟨_, rfl⟩
    have s9 : Same H8 (upd H8 t3 (.tup [bv, bv])) := Same.new ht3
    have e9 : (upd H8 t3 (.tup [bv, bv])) t3 = some (.tup [bv, bv]) := upd_same
    rw [← hbv]
    generalize upd H8 t3 (.tup [bv, bv]) = H9 at s9 e9
    have N9 := P8.next s9
    refine ⟨lp, _, _, rfl, rfl, N9.lst, (by rw [List.length_map]; exact small1000 (by simp)), ?_⟩
    have P10 := N9.put h0 e9 (pk_sc (by rw [hbv]; rfl))
    generalize upd H9 lp _ = H10 at P10 ⊢
    clear P8 s9 e9 N9 ht3
    refine ⟨_, rfl, .inl ⟨rfl, _, SqL.of P10.lst⟩, _, rfl, _, rfl, m1, m2, t, t, rs0, d, !d, _, _, rfl, k1.same P10.same, k2.same P10.same, fun H11 s11 => ?_⟩
    have N11 := P10.next s11
    refine ⟨_, rfl, _, rfl, rfl, m1, m2, t, t, rs0, d, !d, _, _, rfl, k1.same N11.same, k2.same N11.same, fun H12 s12 => ?_⟩
    have N12 := N11.next s12
    refine ⟨(by show 2 ≤ sizeLine; decide), fun t4 ht4 => ?_⟩
    generalize hov : optS (firstUn rs0 d (turnsL rs0 xs) (!d) []) = ov at ht4 ⊢
    have s13 : Same H12 (upd H12 t4 (.tup [ov, ov])) := Same.new ht4
    have e13 : (upd H12 t4 (.tup [ov, ov])) t4 = some (.tup [ov, ov]) := upd_same
    generalize upd H12 t4 (.tup [ov, ov]) = H13 at s13 e13
    have N13 := N12.next s13
    refine ⟨lp, _, _, rfl, rfl, N13.lst, (by rw [List.length_map]; exact small1000 (by simp)), ?_⟩
    have P14 := N13.put h0 e13 (pk_sc (by rw [← hov]; exact optS_scal _))
    generalize upd H13 lp _ = H14 at P14 ⊢
    clear P10 s11 N11 s12 N12 s13 e13 N13 ht4
    have tf1 : ∀ z ∈ turnsL rs0 xs, Free rs0 z := fun z hz => free0 (List.mem_filter.mp hz).1
    have MsA : ∀ {G : Hp}, Same H2 G → MsAt C CM G t rs0 [m1, m2] [(d, turnsL rs0 xs), (!d, [])] := fun {G} s => ⟨rfl, fun i m q hm hq => (match i, hm, hq with
      | 0, hm, hq => by cases hm; cases hq; exact k1.same s
      | 1, hm, hq => by cases hm; cases hq; exact k2.same s
      | n + 2, hm, hq => by cases hm), fun q hq z hz => by
        rcases List.mem_cons.mp hq with rfl | hq
        · exact tf1 z hz
        · rw [List.mem_singleton.mp hq] at hz
          cases hz⟩
    refine ⟨_, rfl, .inl ⟨rfl, _, SqL.of P14.lst⟩, _, rfl, _, rfl, (by show 2 ≤ sizeLine; decide), fun l1 hl1 => ?_⟩
    have s15 : Same H14 (upd H14 l1 (.lst [V.ref m1, V.ref m2])) := Same.new hl1
    have e15 : (upd H14 l1 (.lst [V.ref m1, V.ref m2])) l1 = some (.lst ([m1, m2].map V.ref)) := upd_same
    generalize upd H14 l1 (.lst [V.ref m1, V.ref m2]) = H15 at s15 e15
    have N15 := P14.next s15
    refine ⟨l1, t, [m1, m2], _, rs0, rfl, .inl e15, nofun, (by show 2 ≤ 100; decide), MsA N15.same, ht.same N15.same, fun r1 a1 b1 H16 s16 ka1 hb1 eb1 er1 => ?_⟩
    have N16 := N15.next s16
    refine ⟨_, rfl, _, rfl, (by show 2 ≤ sizeLine; decide), fun l2 hl2 => ?_⟩
    have s17 : Same H16 (upd H16 l2 (.lst [V.ref m1, V.ref m2])) := Same.new hl2
    have e17 : (upd H16 l2 (.lst [V.ref m1, V.ref m2])) l2 = some (.lst ([m1, m2].map V.ref)) := upd_same
    generalize upd H16 l2 (.lst [V.ref m1, V.ref m2]) = H17 at s17 e17
    have N17 := N16.next s17
    refine ⟨rfl, l2, t, [m1, m2], _, rs0, rfl, .inl e17, nofun, (by show 2 ≤ 100; decide), MsA N17.same, ht.same N17.same, fun r2 a2 b2 H18 s18 ka2 hb2 eb2 er2 => ?_⟩
    have N18 := N17.next s18
    refine ⟨(by show 2 ≤ sizeLine; decide), fun t5 ht5 => ?_⟩
    have s19 : Same H18 (upd H18 t5 (.tup [V.ref r1, V.ref r2])) := Same.new ht5
    have e19 : (upd H18 t5 (.tup [V.ref r1, V.ref r2])) t5 = some (.tup [V.ref r1, V.ref r2]) := upd_same
    generalize upd H18 t5 (.tup [V.ref r1, V.ref r2]) = H19 at s19 e19
    have N19 := N18.next s19
    have S := s17.trans (s18.trans s19)
    refine ⟨lp, _, _, rfl, rfl, N19.lst, (by rw [List.length_map]; exact small1000 (by simp)), ?_⟩
    have P20 := N19.put h0 e19 (pk_mid N19 (N15.new hb1) (N17.new hb2) (S _ _ er1) (s19 _ _ er2) (ka1.same S) (ka2.same s19) (S _ _ eb1) (s19 _ _ eb2))
    generalize upd H19 lp _ = H20 at P20 ⊢
    exact ⟨_, rfl, hq lp _ H20 (S2.free h0) (P20.weak S2) (by simp)⟩
end
end Ts

set_option maxRecDepth 100000
set_option maxHeartbeats 8000000
namespace Ts
open PySem L2
theorem row_mk {C CR : Addr} {R : Addr → Hp → Prop} {H : Hp} {t h a : Addr} {de : De} (ht : TreeAt C H t rs0) (hh : H h = some (.lst [V.ref a])) (ha : H a = some (.tup [.str de.1, .str de.2])) (hw : de.1 ∈ words3) (hp : de.2 ∈ plc rs0)
    (k : ∀ r H', H r = none → Same H H' → RowAt C CR H' r t rs0 [de] → R r H') :
    ∀ x dx, H x = none → H dx = none → dx ≠ x → spRowInit C CR (.ref x :: ([.ref t, .ref h] ++ [])) (upd (upd H dx (.own x)) x (.ins CR dx [])) (fun v H2 => v = .non ∧ R x H2) E0 := fun x dx nx nd n => by
  have s0 : Same H (upd (upd H dx (.own x)) x (.ins CR dx [])) := mk_same0 (C := CR) nx nd
  exact ⟨x, dx, t, h, rs0, [a], [de], rfl, upd_same, ht.same s0, un0, .inr (s0 _ _ hh), ⟨rfl, fun i b q hb hq => match i, hb, hq with
    | 0, hb, hq => by cases hb; cases hq; exact .inl (s0 _ _ ha)
    | n + 1, hb, hq => by cases hb⟩, fun q hq => (by rw [List.mem_singleton.mp hq]; exact ⟨hw, hp⟩), (by show 1 ≤ 100; decide), fun H' sb m => ⟨rfl, k x H' nx (mk_same nx nd sb) m⟩⟩
theorem prs_ints {H : Hp} (l : List Nat) : Prs DFlat (l.map fun i : Nat => V.int (i : Int)) (l.map fun i : Nat => V.int (i : Int)) H := prs_same (List.all_eq_true.mpr fun x hx => by
    obtain ⟨z, _, rfl⟩ := List.mem_map.mp hx
    rfl) fun x hx => by
  obtain ⟨z, _, rfl⟩ := List.mem_map.mp hx
  exact decide_eq_true rfl
theorem wrong0 {v : Str → Bool} : wrongL rs0 v [(("flip" : Str), ("b" : Str))] [(("on" : Str), ("c" : Str))] = none := by
  have h1 : toldL rs0 [(("flip" : Str), ("b" : Str))] = [("b" : Str)] := by decide +kernel
  have h2 : ¬ ("b" : Str) ∈ toldL rs0 [(("on" : Str), ("c" : Str))] := by decide +kernel
  unfold wrongL
  rw [h1, List.find?_cons, decide_eq_false h2]
  rfl
theorem let0 : LetM rs0 rC ("top" : Str) := ⟨.tail _ (.tail _ (.head _)), .inl rfl⟩
theorem told3 : ("told" : Str) ∈ rules3 := by decide +kernel
theorem meant3 : ("meant" : Str) ∈ rules3 := by decide +kernel
theorem priced (b : Bool) : (b && decide (rC.pr = none)) = false := by cases b <;> rfl
theorem lt60 {C CM : Addr} {H : Hp} {m t : Addr} {d : Bool} {ts : List Str} (h : MeanAt C CM H m t rs0 d ts) : ts.length < 60 := by
  rw [h.norm]
  have h1 := List.length_filter_le (fun z => decide (z ∈ ts)) (names rs0)
  have h2 : (names rs0).length = 5 := rfl
  unfold turnsL
  omega
/-! the promises where no error is told -/
def spJoin0 (C CR CM : Addr) : Sp := fun vs H Q _ => ∃ (m r1 r2 t t1 t2 : Addr) (rs : List Row) (ds es : List De) (v : Str → Bool), vs = [.ref m, .ref r1, .ref r2] ∧ MV C CM H m t rs v ∧ RowAt C CR H r1 t1 rs ds ∧ RowAt C CR H r2 t2 rs es ∧ wrongL rs v ds es = none ∧ ∀ m3 H', Same H H' → MV C CM H' m3 t rs (joinV rs v ds es) → Q (.ref m3) H'
def spMoved0 (C CM : Addr) : Sp := fun vs H Q _ => ∃ (m t : Addr) (b : Row) (fo rule : Str) (rs : List Row) (d : Bool) (ts : List Str), vs = [.ref m, .str b.nm, .str fo, .str rule] ∧ MeanAt C CM H m t rs d ts ∧ (∀ z ∈ ts, Free rs z) ∧ LetM rs b fo ∧ rule ∈ rules3 ∧ decide (b.pr = none) = false ∧
  ∀ m' t' H', H m' = none → Same H H' → MeanAt C CM H' m' t' (movedL rs b fo) d (turnsL (movedL rs b fo) (turnsB rs d ts b.nm fo rule)) → Q (.ref m') H'
def spBack0 (C CM : Addr) : Sp := fun vs H Q _ => ∃ (m t : Addr) (b : Row) (fo rule : Str) (rs : List Row) (d : Bool) (ts : List Str), vs = [.ref m, .str b.nm, .str fo, .str rule] ∧ MeanAt C CM H m t rs d ts ∧ (∀ z ∈ ts, Free rs z) ∧ ts.length < 60 ∧ LetM rs b fo ∧ rule ∈ rules3 ∧ decide (b.pr = none) = false ∧
  ∀ H', Same H H' → Q (.bl (backR rs d ts b fo rule)) H'
abbrev PSR : List Str := ["self", "tree", "deeds"]
abbrev PSV : List Str := ["meaning", "box", "folder", "rule"]
abbrev nBn : List Str := ["_law_grove", "_law_sense", "_law_flips", "_law_ons", "_law_pairs", "_law_less", "_law_told", "_law_comes", "_law_found"]
def spLNames (K : PySem.W.Frag) (C CM CR : Addr) : Sp := fun vs H Q _ => ∃ (t m : Addr) (d : Bool) (ts : List Str), vs = [.ref t, .ref m] ∧ TreeAt C H t rs0 ∧ MeanAt C CM H m t rs0 d ts ∧ (∀ z ∈ ts, Free rs0 z) ∧ PairsQ K C CM CR 9 H Q
section
variable {P : Program} {w : World} {K : PySem.W.Frag} {mg : Str → Option Value} {base : Heap} {C CM CR CC CL : Addr}
theorem calm_join {k : Nat} {f : Addr} {fd : FuncData} {ps : List Str} (G : FnOk P w K mg base (L2.CX P w) k f fd ps (spJoin C CR CM CC)) : FnOk P w K mg base CX0 k f fd ps (spJoin0 C CR CM) := calm G fun vs H Q E h => by
  obtain ⟨m, r1, r2, t, t1, t2, rs, ds, es, v, rfl, h1, h2, h3, h4, hq⟩ := h
  exact ⟨m, r1, r2, t, t1, t2, rs, ds, es, v, rfl, h1, h2, h3, (fun z ez => by rw [h4] at ez; cases ez), fun _ => hq⟩
theorem calm_moved {k : Nat} {f : Addr} {fd : FuncData} {ps : List Str} (G : FnOk P w K mg base (L2.CX P w) k f fd ps (spMovedM C CM CL)) : FnOk P w K mg base CX0 k f fd ps (spMoved0 C CM) := calm G fun vs H Q E h => by
  obtain ⟨m, t, b, fo, rule, rs, d, ts, rfl, h1, h2, h3, h4, h5, hq⟩ := h
  exact ⟨m, t, b, fo, rule, rs, d, ts, rfl, h1, h2, h3, h4, (fun e => by rw [h5, Bool.and_false] at e; cases e), fun _ => hq⟩
theorem calm_back {k : Nat} {f : Addr} {fd : FuncData} {ps : List Str} (G : FnOk P w K mg base (L2.CX P w) k f fd ps (spBack C CM CL)) : FnOk P w K mg base CX0 k f fd ps (spBack0 C CM) := calm G fun vs H Q E h => by
  obtain ⟨m, t, b, fo, rule, rs, d, ts, rfl, h1, h2, h3, h4, h5, h6, hq⟩ := h
  exact ⟨m, t, b, fo, rule, rs, d, ts, rfl, h1, h2, h3, h4, h5, (fun e => by unfold stuck at e; rw [h6, Bool.and_false] at e; cases e), fun _ => hq⟩
theorem sc_Bn : FnScope nBn ["_law_grove", "_law_sense"] (defScope s_L_by_names) := ⟨rfl, rfl, rfl, by decide +kernel, rfl, by decide +kernel, by decide +kernel⟩
theorem ok_Lnames {fR : Addr} {fdR : FuncData} (D : DefAt K mg "_law_by_names" s_L_by_names ["_law_grove", "_law_sense"]) (R : TxR K mg CR)
    (MR : Mk K CR fR) (bR : Binds K fdR PSR []) (GR : FnOk P w K mg base CX0 7 fR fdR PSR (spRowInit C CR)) (kR : KBn K fdR PSR 1 ["deeds", "tree"] gR gR)
    (mC : MethAt K CR "__call__" "Row.__call__" s_Row_call ["self", "meaning"]) (hfC : PySem.W.fnIn K mC.f = true) (GC : FnOk P w K mg base CX0 10 mC.f mC.fd ["self", "meaning"] (spRCall C CR CM)) (kC : KBn K mC.fd ["self", "meaning"] 1 ["meaning"] gR gR)
    (Di : DefAt K mg "idle" s_idle ["row"]) (Gi : FnOk P w K mg base CX0 9 Di.f Di.fd ["row"] (spIdle C CR)) (ki : KBn K Di.fd ["row"] 0 ["row"] gR gR)
    (Dc : DefAt K mg "clash" s_clash ["one", "other"]) (Gc : FnOk P w K mg base CX0 10 Dc.f Dc.fd ["one", "other"] (spClash C CR)) (kc : KBn K Dc.fd ["one", "other"] 0 ["other", "one"] gR gR)
    (Df : DefAt K mg "fewest_deeds" s_fewest_deeds ["one", "other"]) (Gf : FnOk P w K mg base CX0 10 Df.f Df.fd ["one", "other"] (spFewD C CM CR)) (kf : KBn K Df.fd ["one", "other"] 0 ["other", "one"] gR gR)
    (Dj : DefAt K mg "join" s_join ["meaning", "one", "other"]) (Gj : FnOk P w K mg base CX0 12 Dj.f Dj.fd ["meaning", "one", "other"] (spJoin0 C CR CM)) (kj : KBn K Dj.fd ["meaning", "one", "other"] 0 ["other", "one", "meaning"] gR gR)
    (Dm : DefAt K mg "moved" s_moved PSV) (Gm : FnOk P w K mg base CX0 9 Dm.f Dm.fd PSV (spMoved0 C CM)) (km : KBn K Dm.fd PSV 0 ["rule", "folder", "box", "meaning"] gR gR)
    (Db : DefAt K mg "back" s_back PSV) (Gb : FnOk P w K mg base CX0 10 Db.f Db.fd PSV (spBack0 C CM)) (kb : KBn K Db.fd PSV 0 ["rule", "folder", "box", "meaning"] gR gR)
    (Du : DefAt K mg "unlike_moves" s_unlike_moves ["meaning", "rule", "other"]) (Gu : FnOk P w K mg base CX0 7 Du.f Du.fd ["meaning", "rule", "other"] (spUnlikeM C CM)) (ku : KBn K Du.fd ["meaning", "rule", "other"] 0 ["other", "rule", "meaning"] gR gR) :
    FnOk P w K mg base CX0 13 D.f D.fd ["_law_grove", "_law_sense"] (spLNames K C CM CR) := by
  refine D.F.ok sc_Bn (fun vs H Q E h => ?_) (fun cdv A outer s H vs Q E hr h => ?_)
  · obtain ⟨t, m, d, ts, rfl, _⟩ := h
    rfl
  · obtain ⟨t, m, d, ts, rfl, ht, hm, hfr, hq⟩ := h
    have r7 : Room 7 _ := hr.mono (by decide)
    have r8 : Room 8 _ := hr.mono (by decide)
    have r9 : Room 9 _ := hr.mono (by decide)
    have r10 : Room 10 _ := hr.mono (by decide)
    have r12 : Room 12 _ := hr
    refine ⟨_, pss_cons (ps_par (i := 2) (j := 3) rfl sc_Bn.nd rfl rfl (by decide) rfl rfl (pa_cons (pe_make MR GR r8 rfl R.g bR .nil pass0 (pa_cons (pv 0) (pa_cons (pe_lst (pa_cons (pe_tup (pa_cons pe_str (pa_cons pe_str pa_nil))) pa_nil)) pa_nil))) (pa_cons (pe_make MR GR r8 rfl R.g bR .nil pass0 (pa_cons (pv 0) (pa_cons (pe_lst (pa_cons (pe_tup (pa_cons pe_str (pa_cons pe_str pa_nil))) pa_nil)) pa_nil))) pa_nil)) (by rfl))
      (pss_cons (ps_set (i := 4) sc_Bn.nd rfl (.inl rfl) (pe_lst (pa_cons (pe_tup (pa_cons (pv 2) (pa_cons (pe_makeK0 MR GR r8 rfl R.g kR pass0 (pk_cons (pe_lst (pa_cons (pe_tup (pa_cons pe_str (pa_cons pe_str pa_nil))) pa_nil)) (pk_cons (pv 0) pk_nil))) pa_nil))) (pa_cons (pe_tup (pa_cons (pe_callOwn 2 1 GC mC.m hfC r10 mC.b pass0) (pa_cons (pe_callOwnK 2 1 GC mC.m hfC r10 kC pass0) pa_nil))) pa_nil))))
      (pss_cons (ps_expr (pe_bm PySem.F.plainAttrs_list PySem.F.slot_list_append PySem.F.type_list_append mt_append (pv 4) (pa_cons (pe_tup (pa_cons (pe_call Gi r9 rfl Di.g Di.F.kp Di.b .nil pass0 (pa_cons (pv 2) pa_nil)) (pa_cons (pe_callK0 Gi r9 rfl Di.g Di.F.kp ki pass0 (pk_cons (pv 2) pk_nil)) pa_nil))) pa_nil)))
      (pss_cons (ps_expr (pe_bm PySem.F.plainAttrs_list PySem.F.slot_list_append PySem.F.type_list_append mt_append (pv 4) (pa_cons (pe_tup (pa_cons (pe_call Gc r10 rfl Dc.g Dc.F.kp Dc.b .nil pass0 (pa_cons (pv 2) (pa_cons (pv 3) pa_nil))) (pa_cons (pe_callK0 Gc r10 rfl Dc.g Dc.F.kp kc pass0 (pk_cons (pv 3) (pk_cons (pv 2) pk_nil))) pa_nil))) pa_nil)))
      (pss_cons (ps_expr (pe_bm PySem.F.plainAttrs_list PySem.F.slot_list_append PySem.F.type_list_append mt_append (pv 4) (pa_cons (pe_tup (pa_cons (pe_call Gf r10 rfl Df.g Df.F.kp Df.b .nil pass0 (pa_cons (pv 1) (pa_cons (pe_callOwn 2 1 GC mC.m hfC r10 mC.b pass0) pa_nil))) (pa_cons (pe_callK0 Gf r10 rfl Df.g Df.F.kp kf pass0 (pk_cons (pe_callOwn 2 1 GC mC.m hfC r10 mC.b pass0) (pk_cons (pv 1) pk_nil))) pa_nil))) pa_nil)))
      (pss_cons (ps_set (i := 5) sc_Bn.nd rfl (.inl rfl) (pe_make MR GR r8 rfl R.g bR .nil pass0 (pa_cons (pv 0) (pa_cons (pe_lst (pa_cons (pe_tup (pa_cons pe_str (pa_cons pe_str pa_nil))) pa_nil)) pa_nil))))
      (pss_cons (ps_expr (pe_bm PySem.F.plainAttrs_list PySem.F.slot_list_append PySem.F.type_list_append mt_append (pv 4) (pa_cons (pe_tup (pa_cons (pe_call Gj r12 rfl Dj.g Dj.F.kp Dj.b .nil pass0 (pa_cons (pv 1) (pa_cons (pv 5) (pa_cons (pv 3) pa_nil)))) (pa_cons (pe_callK0 Gj r12 rfl Dj.g Dj.F.kp kj pass0 (pk_cons (pv 3) (pk_cons (pv 5) (pk_cons (pv 1) pk_nil)))) pa_nil))) pa_nil)))
      (pss_cons (ps_set (i := 6) sc_Bn.nd rfl (.inl rfl) (pe_callK0 Gm r9 rfl Dm.g Dm.F.kp km pass0 (pk_cons pe_str (pk_cons pe_str (pk_cons pe_str (pk_cons (pv 1) pk_nil))))))
      (pss_cons (ps_expr (pe_bm PySem.F.plainAttrs_list PySem.F.slot_list_append PySem.F.type_list_append mt_append (pv 4) (pa_cons (pe_tup (pa_cons (pe_call Gm r9 rfl Dm.g Dm.F.kp Dm.b .nil pass0 (pa_cons (pv 1) (pa_cons pe_str (pa_cons pe_str (pa_cons pe_str pa_nil))))) (pa_cons (pv 6) pa_nil))) pa_nil)))
      (pss_cons (ps_set (i := 7) sc_Bn.nd rfl (.inl rfl) (pe_callK0 Gb r10 rfl Db.g Db.F.kp kb pass0 (pk_cons pe_str (pk_cons pe_str (pk_cons pe_str (pk_cons (pv 1) pk_nil))))))
      (pss_cons (ps_expr (pe_bm PySem.F.plainAttrs_list PySem.F.slot_list_append PySem.F.type_list_append mt_append (pv 4) (pa_cons (pe_tup (pa_cons (pe_call Gb r10 rfl Db.g Db.F.kp Db.b .nil pass0 (pa_cons (pv 1) (pa_cons pe_str (pa_cons pe_str (pa_cons pe_str pa_nil))))) (pa_cons (pv 7) pa_nil))) pa_nil)))
      (pss_cons (ps_set (i := 8) sc_Bn.nd rfl (.inl rfl) (pe_callK0 Gu r7 rfl Du.g Du.F.kp ku pass0 (pk_cons pe_str (pk_cons pe_str (pk_cons (pv 1) pk_nil)))))
      (pss_cons (ps_expr (pe_bm PySem.F.plainAttrs_list PySem.F.slot_list_append PySem.F.type_list_append mt_append (pv 4) (pa_cons (pe_tup (pa_cons (pe_call Gu r7 rfl Du.g Du.F.kp Du.b .nil pass0 (pa_cons (pv 1) (pa_cons pe_str (pa_cons pe_str pa_nil)))) (pa_cons (pv 8) pa_nil))) pa_nil)))
      (pss_one (ps_ret (pv 4))))))))))))))), ?_⟩
    clear kf kc km kb kj ki ku kR kC
    refine ⟨_, rfl, (by show 2 ≤ sizeLine; decide), fun a1 ha1 => ?_⟩
    have sH1 : Same H (upd H a1 (.tup [V.str ("flip" : Str), V.str ("a" : Str)])) := Same.new ha1
    have ea1 : (upd H a1 (.tup [V.str ("flip" : Str), V.str ("a" : Str)])) a1 = some (.tup [V.str ("flip" : Str), V.str ("a" : Str)]) := upd_same
    generalize upd H a1 (.tup [V.str ("flip" : Str), V.str ("a" : Str)]) = H1 at sH1 ea1
    refine ⟨(by show 1 ≤ sizeLine; decide), fun l1 hl1 => ?_⟩
    have sH2 : Same H1 (upd H1 l1 (.lst [V.ref a1])) := Same.new hl1
    have el1 : (upd H1 l1 (.lst [V.ref a1])) l1 = some (.lst [V.ref a1]) := upd_same
    generalize upd H1 l1 (.lst [V.ref a1]) = H2 at sH2 el1
    replace ea1 := sH2 _ _ ea1
    dsimp only [tNil]
    refine row_mk (de := (("flip" : Str), ("a" : Str))) (ht.same (sH1.trans sH2)) el1 ea1 (by decide +kernel) (by decide +kernel) fun f H3 _ s3 kf => ?_
    have S3 := (sH1.trans sH2).trans s3
    refine ⟨_, rfl, (by show 2 ≤ sizeLine; decide), fun a2 ha2 => ?_⟩
    have sH4 : Same H3 (upd H3 a2 (.tup [V.str ("on" : Str), V.str ("c" : Str)])) := Same.new ha2
    have ea2 : (upd H3 a2 (.tup [V.str ("on" : Str), V.str ("c" : Str)])) a2 = some (.tup [V.str ("on" : Str), V.str ("c" : Str)]) := upd_same
    generalize upd H3 a2 (.tup [V.str ("on" : Str), V.str ("c" : Str)]) = H4 at sH4 ea2
    refine ⟨(by show 1 ≤ sizeLine; decide), fun l2 hl2 => ?_⟩
    have sH5 : Same H4 (upd H4 l2 (.lst [V.ref a2])) := Same.new hl2
    have el2 : (upd H4 l2 (.lst [V.ref a2])) l2 = some (.lst [V.ref a2]) := upd_same
    generalize upd H4 l2 (.lst [V.ref a2]) = H5 at sH5 el2
    replace ea2 := sH5 _ _ ea2
    dsimp only [tNil]
    refine row_mk (de := (("on" : Str), ("c" : Str))) (ht.same (S3.trans (sH4.trans sH5))) el2 ea2 (by decide +kernel) (by decide +kernel) fun o H6 _ s6 ko => ?_
    refine ⟨_, _, rfl, ?_⟩
    have S6 := S3.trans ((sH4.trans sH5).trans s6)
    replace ht := ht.same S6
    replace hm := hm.same S6
    replace kf := kf.same ((sH4.trans sH5).trans s6)
    have hv := MV.of hm hfr
    obtain ⟨dxf, _, _, _, gf, _⟩ := id kf.ex
    clear sH1 sH2 s3 S3 sH4 sH5 s6 el1 ea1 el2 ea2 hl1 ha1 hl2 ha2
    refine ⟨_, rfl, (by show 2 ≤ sizeLine; decide), fun a3 ha3 => ?_⟩
    have sH7 : Same H6 (upd H6 a3 (.tup [V.str ("flip" : Str), V.str ("a" : Str)])) := Same.new ha3
    have ea3 : (upd H6 a3 (.tup [V.str ("flip" : Str), V.str ("a" : Str)])) a3 = some (.tup [V.str ("flip" : Str), V.str ("a" : Str)]) := upd_same
    generalize upd H6 a3 (.tup [V.str ("flip" : Str), V.str ("a" : Str)]) = H7 at sH7 ea3
    refine ⟨(by show 1 ≤ sizeLine; decide), fun l3 hl3 => ?_⟩
    have sH8 : Same H7 (upd H7 l3 (.lst [V.ref a3])) := Same.new hl3
    have el3 : (upd H7 l3 (.lst [V.ref a3])) l3 = some (.lst [V.ref a3]) := upd_same
    generalize upd H7 l3 (.lst [V.ref a3]) = H8 at sH8 el3
    replace ea3 := sH8 _ _ ea3
    refine ⟨_, rfl, rfl, rfl, ?_⟩
    have S8 := sH7.trans sH8
    refine row_mk (de := (("flip" : Str), ("a" : Str))) (ht.same S8) el3 ea3 (by decide +kernel) (by decide +kernel) fun f2 H9 _ s9 kf2 => ?_
    have S9 := S8.trans s9
    refine ⟨(by show 2 ≤ sizeLine; decide), fun t1 ht1 => ?_⟩
    have sH10 : Same H9 (upd H9 t1 (.tup [V.ref f, V.ref f2])) := Same.new ht1
    have et1 : (upd H9 t1 (.tup [V.ref f, V.ref f2])) t1 = some (.tup [V.ref f, V.ref f2]) := upd_same
    generalize upd H9 t1 (.tup [V.ref f, V.ref f2]) = H10 at sH10 et1
    have S10 := S9.trans sH10
    refine ⟨f, dxf, _, _, rfl, S10 _ _ gf, rfl, f, m, t, t, rs0, _, _, rfl, kf.same S10, hv.same S10, fun m3 H11 sH11 km3 => ?_⟩
    have S11 := S10.trans sH11
    refine ⟨f, dxf, _, _, rfl, S11 _ _ gf, rfl, f, m, t, t, rs0, _, _, rfl, kf.same S11, hv.same S11, fun m4 H12 sH12 km4 => ?_⟩
    have S12 := S11.trans sH12
    refine ⟨(by show 2 ≤ sizeLine; decide), fun t2 ht2 => ?_⟩
    have sH13 : Same H12 (upd H12 t2 (.tup [V.ref m3, V.ref m4])) := Same.new ht2
    have et2 : (upd H12 t2 (.tup [V.ref m3, V.ref m4])) t2 = some (.tup [V.ref m3, V.ref m4]) := upd_same
    generalize upd H12 t2 (.tup [V.ref m3, V.ref m4]) = H13 at sH13 et2
    have S13 := S12.trans sH13
    refine ⟨(by show 2 ≤ sizeLine; decide), fun lp hlp => ?_⟩
    have h0 : H6 lp = none := S13.free hlp
    have P14 : PsA K C CM CR H6 lp [t1, t2] (upd H13 lp (.lst [V.ref t1, V.ref t2])) := PsA.start (as := [t1, t2]) S13 hlp fun a ha => by
      rcases List.mem_cons.mp ha with rfl | ha
      · exact ⟨_, _, (sH11.trans (sH12.trans sH13)) _ _ et1, pkR0 S13 hlp (kf.same S13) (kf2.same (sH10.trans (sH11.trans (sH12.trans sH13))))⟩
      · rw [List.mem_singleton.mp ha]
        obtain ⟨_, _, q1, q2⟩ := mv_alike (km3.same (sH12.trans sH13)) (km4.same sH13)
        exact ⟨_, _, et2, pkM0 S13 hlp q1 q2⟩
    generalize upd H13 lp (.lst [V.ref t1, V.ref t2]) = H14 at P14
    clear S8 S9 S10 S11 S12 S13 sH7 sH8 s9 sH10 sH11 sH12 sH13 el3 ea3 hl3 ha3 kf2 km3 km4 et1 et2 ht1 ht2 hlp
    refine ⟨_, rfl, .inl ⟨rfl, _, SqL.of P14.lst⟩, _, rfl, f, t, rs0, _, rfl, kf.same P14.same, fun D1 H15 sH15 hD1 eD1 => ?_⟩
    have N15 := P14.next sH15
    refine ⟨_, rfl, rfl, f, t, rs0, _, rfl, kf.same N15.same, fun D2 H16 sH16 hD2 eD2 => ?_⟩
    have N16 := N15.next sH16
    refine ⟨(by show 2 ≤ sizeLine; decide), fun t3 ht3 => ?_⟩
    have sH17 : Same H16 (upd H16 t3 (.tup [V.ref D1, V.ref D2])) := Same.new ht3
    have et3 : (upd H16 t3 (.tup [V.ref D1, V.ref D2])) t3 = some (.tup [V.ref D1, V.ref D2]) := upd_same
    generalize upd H16 t3 (.tup [V.ref D1, V.ref D2]) = H17 at sH17 et3
    have N17 := N16.next sH17
    refine ⟨lp, _, _, rfl, rfl, N17.lst, (by rw [List.length_map]; exact small1000 (by simp)), ?_⟩
    have P18 := N17.put h0 et3 (pk_list (P14.new hD1) (N15.new hD2) (sH17 _ _ (sH16 _ _ eD1)) (sH17 _ _ eD2) (prs_ints _))
    generalize upd H17 lp _ = H18 at P18 ⊢
    refine ⟨_, rfl, .inl ⟨rfl, _, SqL.of P18.lst⟩, _, rfl, _, rfl, f, o, t, t, rs0, _, _, rfl, kf.same P18.same, ko.same P18.same, (by show 2 ≤ 100; decide), fun H19 sH19 => ?_⟩
    have N19 := P18.next sH19
    refine ⟨_, rfl, _, rfl, rfl, f, o, t, t, rs0, _, _, rfl, kf.same N19.same, ko.same N19.same, (by show 2 ≤ 100; decide), fun H20 sH20 => ?_⟩
    have N20 := N19.next sH20
    generalize hoc : optS (clashL rs0 [(("flip" : Str), ("a" : Str))] [(("on" : Str), ("c" : Str))]) = oc
    refine ⟨(by show 2 ≤ sizeLine; decide), fun t4 ht4 => ?_⟩
    have sH21 : Same H20 (upd H20 t4 (.tup [oc, oc])) := Same.new ht4
    have et4 : (upd H20 t4 (.tup [oc, oc])) t4 = some (.tup [oc, oc]) := upd_same
    generalize upd H20 t4 (.tup [oc, oc]) = H21 at sH21 et4
    have N21 := N20.next sH21
    refine ⟨lp, _, _, rfl, rfl, N21.lst, (by rw [List.length_map]; exact small1000 (by simp)), ?_⟩
    have P22 := N21.put h0 et4 (pk_sc (by rw [← hoc]; exact optS_scal _))
    generalize upd H21 lp _ = H22 at P22 ⊢
    refine ⟨_, rfl, .inl ⟨rfl, _, SqL.of P22.lst⟩, _, rfl, f, dxf, _, _, rfl, P22.same _ _ gf, rfl, f, m, t, t, rs0, _, _, rfl, kf.same P22.same, hv.same P22.same, fun m5 H23 sH23 km5 => ?_⟩
    have N23 := P22.next sH23
    refine ⟨m, m5, t, t, rs0, _, _, rfl, hv.same N23.same, km5, un0, (by show 5 ≤ 90; decide), fun q1 H24 _ sH24 kq1 => ?_⟩
    have N24 := N23.next sH24
    refine ⟨f, dxf, _, _, rfl, N24.same _ _ gf, rfl, f, m, t, t, rs0, _, _, rfl, kf.same N24.same, hv.same N24.same, fun m6 H25 sH25 km6 => ?_⟩
    have N25 := N24.next sH25
    refine ⟨_, rfl, rfl, m, m6, t, t, rs0, _, _, rfl, hv.same N25.same, km6, un0, (by show 5 ≤ 90; decide), fun q2 H26 _ sH26 kq2 => ?_⟩
    have N26 := N25.next sH26
    refine ⟨(by show 2 ≤ sizeLine; decide), fun t5 ht5 => ?_⟩
    have sH27 : Same H26 (upd H26 t5 (.tup [V.ref q1, V.ref q2])) := Same.new ht5
    have et5 : (upd H26 t5 (.tup [V.ref q1, V.ref q2])) t5 = some (.tup [V.ref q1, V.ref q2]) := upd_same
    generalize upd H26 t5 (.tup [V.ref q1, V.ref q2]) = H27 at sH27 et5
    have N27 := N26.next sH27
    refine ⟨lp, _, _, rfl, rfl, N27.lst, (by rw [List.length_map]; exact small1000 (by simp)), ?_⟩
    have P28 := N27.put h0 et5 (pk_row N27 (kq1.same (sH25.trans (sH26.trans sH27))) (kq2.same sH27))
    generalize upd H27 lp _ = H28 at P28 ⊢
    refine ⟨_, rfl, (by show 2 ≤ sizeLine; decide), fun a5 ha5 => ?_⟩
    have sH29 : Same H28 (upd H28 a5 (.tup [V.str ("flip" : Str), V.str ("b" : Str)])) := Same.new ha5
    have ea5 : (upd H28 a5 (.tup [V.str ("flip" : Str), V.str ("b" : Str)])) a5 = some (.tup [V.str ("flip" : Str), V.str ("b" : Str)]) := upd_same
    generalize upd H28 a5 (.tup [V.str ("flip" : Str), V.str ("b" : Str)]) = H29 at sH29 ea5
    refine ⟨(by show 1 ≤ sizeLine; decide), fun l5 hl5 => ?_⟩
    have sH30 : Same H29 (upd H29 l5 (.lst [V.ref a5])) := Same.new hl5
    have el5 : (upd H29 l5 (.lst [V.ref a5])) l5 = some (.lst [V.ref a5]) := upd_same
    generalize upd H29 l5 (.lst [V.ref a5]) = H30 at sH30 el5
    replace ea5 := sH30 _ _ ea5
    have SL := P28.same.trans (sH29.trans sH30)
    have NL := (P28.next sH29).next sH30
    dsimp only [tNil]
    refine row_mk (de := (("flip" : Str), ("b" : Str))) (ht.same SL) el5 ea5 (by decide +kernel) (by decide +kernel) fun le H31 _ sH31 kl => ?_
    have N31 := NL.next sH31
    refine ⟨_, rfl, .inl ⟨rfl, _, SqL.of N31.lst⟩, _, rfl, _, rfl, _, rfl, m, le, o, t, t, t, rs0, _, _, _, rfl, hv.same N31.same, kl, ko.same N31.same, wrong0, fun m7 H32 sH32 km7 => ?_⟩
    have N32 := N31.next sH32
    refine ⟨_, rfl, _, rfl, _, rfl, rfl, m, le, o, t, t, t, rs0, _, _, _, rfl, hv.same N32.same, kl.same sH32, ko.same N32.same, wrong0, fun m8 H33 sH33 km8 => ?_⟩
    have N33 := N32.next sH33
    refine ⟨(by show 2 ≤ sizeLine; decide), fun t6 ht6 => ?_⟩
    have sH34 : Same H33 (upd H33 t6 (.tup [V.ref m7, V.ref m8])) := Same.new ht6
    have et6 : (upd H33 t6 (.tup [V.ref m7, V.ref m8])) t6 = some (.tup [V.ref m7, V.ref m8]) := upd_same
    generalize upd H33 t6 (.tup [V.ref m7, V.ref m8]) = H34 at sH34 et6
    have N34 := N33.next sH34
    refine ⟨lp, _, _, rfl, rfl, N34.lst, (by rw [List.length_map]; exact small1000 (by simp)), ?_⟩
    have P35 := N34.put h0 et6 (pk_mv N34 (km7.same (sH33.trans sH34)) (km8.same sH34))
    generalize upd H34 lp _ = H35 at P35 ⊢
    refine ⟨_, rfl, rfl, m, t, rC, ("top" : Str), ("told" : Str), rs0, d, _, rfl, hm.same P35.same, hfr, let0, told3, rfl, fun m9 u9 H36 _ sH36 km9 => ?_⟩
    have N36 := P35.next sH36
    refine ⟨_, rfl, .inl ⟨rfl, _, SqL.of N36.lst⟩, _, rfl, m, t, rC, ("top" : Str), ("told" : Str), rs0, d, _, rfl, hm.same N36.same, hfr, let0, told3, rfl, fun m10 u10 H37 _ sH37 km10 => ?_⟩
    have N37 := N36.next sH37
    refine ⟨_, rfl, ?_⟩
    refine ⟨(by show 2 ≤ sizeLine; decide), fun t7 ht7 => ?_⟩
    have sH38 : Same H37 (upd H37 t7 (.tup [V.ref m10, V.ref m9])) := Same.new ht7
    have et7 : (upd H37 t7 (.tup [V.ref m10, V.ref m9])) t7 = some (.tup [V.ref m10, V.ref m9]) := upd_same
    generalize upd H37 t7 (.tup [V.ref m10, V.ref m9]) = H38 at sH38 et7
    have N38 := N37.next sH38
    refine ⟨lp, _, _, rfl, rfl, N38.lst, (by rw [List.length_map]; exact small1000 (by simp)), ?_⟩
    have P39 := N38.put h0 et7 (pk_mean N38 (km10.same sH38) (km9.same (sH37.trans sH38)))
    generalize upd H38 lp _ = H39 at P39 ⊢
    refine ⟨_, rfl, rfl, m, t, rC, ("top" : Str), ("told" : Str), rs0, d, _, rfl, hm.same P39.same, hfr, lt60 hm, let0, told3, rfl, fun H40 sH40 => ?_⟩
    have N40 := P39.next sH40
    refine ⟨_, rfl, .inl ⟨rfl, _, SqL.of N40.lst⟩, _, rfl, m, t, rC, ("top" : Str), ("told" : Str), rs0, d, _, rfl, hm.same N40.same, hfr, lt60 hm, let0, told3, rfl, fun H41 sH41 => ?_⟩
    have N41 := N40.next sH41
    refine ⟨_, rfl, ?_⟩
    generalize backR rs0 d ts rC ("top" : Str) ("told" : Str) = bb
    refine ⟨(by show 2 ≤ sizeLine; decide), fun t8 ht8 => ?_⟩
    have sH42 : Same H41 (upd H41 t8 (.tup [V.bl bb, V.bl bb])) := Same.new ht8
    have et8 : (upd H41 t8 (.tup [V.bl bb, V.bl bb])) t8 = some (.tup [V.bl bb, V.bl bb]) := upd_same
    generalize upd H41 t8 (.tup [V.bl bb, V.bl bb]) = H42 at sH42 et8
    have N42 := N41.next sH42
    refine ⟨lp, _, _, rfl, rfl, N42.lst, (by rw [List.length_map]; exact small1000 (by simp)), ?_⟩
    have P43 := N42.put h0 et8 (pk_sc rfl)
    generalize upd H42 lp _ = H43 at P43 ⊢
    refine ⟨_, rfl, rfl, m, t, ("told" : Str), ("meant" : Str), rs0, d, _, rfl, hm.same P43.same, (by show 5 ≤ 30; decide), told3, meant3, fun D5 as5 H44 hD5 sH44 eD5 pa5 => ?_⟩
    have N44 := P43.next sH44
    refine ⟨_, rfl, .inl ⟨rfl, _, SqL.of N44.lst⟩, _, rfl, m, t, ("told" : Str), ("meant" : Str), rs0, d, _, rfl, hm.same N44.same, (by show 5 ≤ 30; decide), told3, meant3, fun D6 as6 H45 hD6 sH45 eD6 pa6 => ?_⟩
    have N45 := N44.next sH45
    refine ⟨_, rfl, ?_⟩
    refine ⟨(by show 2 ≤ sizeLine; decide), fun t9 ht9 => ?_⟩
    have sH46 : Same H45 (upd H45 t9 (.tup [V.ref D6, V.ref D5])) := Same.new ht9
    have et9 : (upd H45 t9 (.tup [V.ref D6, V.ref D5])) t9 = some (.tup [V.ref D6, V.ref D5]) := upd_same
    generalize upd H45 t9 (.tup [V.ref D6, V.ref D5]) = H46 at sH46 et9
    have N46 := N45.next sH46
    refine ⟨lp, _, _, rfl, rfl, N46.lst, (by rw [List.length_map]; exact small1000 (by simp)), ?_⟩
    have P47 := N46.put h0 et9 (pk_prs N46 (N44.new hD6) (P43.new hD5) (sH46 _ _ eD6) (sH46 _ _ (sH45 _ _ eD5)) (pa6.keep fun b xs e => sH46 _ _ e) (pa5.keep fun b xs e => sH46 _ _ (sH45 _ _ e)))
    generalize upd H46 lp _ = H47 at P47 ⊢
    exact ⟨_, rfl, hq lp _ H47 (S6.free h0) (P47.weak S6) (by simp)⟩
end
end Ts

set_option maxRecDepth 100000
set_option maxHeartbeats 8000000
namespace Ts
open PySem L2
/-- pairs that stand, all alike -/
def PsL (K : PySem.W.Frag) (C CM CR : Addr) (as : List Addr) (H : Hp) : Prop := ∀ a ∈ as, ∃ x y, H a = some (.tup [x, y]) ∧ PairOk K C CM CR x y H
theorem PsL.same {K : PySem.W.Frag} {C CM CR : Addr} {as : List Addr} {H H' : Hp} (h : PsL K C CM CR as H) (s : Ext H H') : PsL K C CM CR as H' := fun a ha => let ⟨x, y, e, p⟩ := h a ha; ⟨x, y, s _ _ e, PairOk.mon x y _ _ s p⟩
theorem PsA.out {K : PySem.W.Frag} {C CM CR : Addr} {as : List Addr} {H0 H G : Hp} {lp : Addr} (h : PsA K C CM CR H0 lp as H) (s : Ext (cut H0 H lp) G) : PsL K C CM CR as G := fun a ha => let ⟨x, y, e, p⟩ := h.ok a ha; ⟨x, y, s _ _ e, PairOk.mon x y _ _ s p⟩
def RQ (K : PySem.W.Frag) (C CM CR : Addr) : R2 := fun x y H Q => rEq x y H Q ∨ rEqG (DW K C CM CR) x y H Q
theorem rd_RQ {K : PySem.W.Frag} {C CM CR : Addr} {x y : V} {H : Hp} {Q : VK} (p : PairOk K C CM CR x y H) (q : ∀ H', Ext H H' → Q (.bl true) H') : RQ K C CM CR x y H Q := by
  rcases p with ⟨h, rfl⟩ | p
  · refine .inl ⟨h, ?_⟩
    rw [decide_eq_true rfl]
    exact q H Ext.rfl'
  · exact .inr ⟨p, q⟩
theorem rep_map (n : Nat) (z : Str) : (List.replicate n [V.str z]).flatten = (List.replicate n z).map V.str := by
  induction n with
  | zero => rfl
  | succ n ih => rw [List.replicate_succ, List.flatten_cons, ih, List.replicate_succ, List.map_cons]; rfl
def spLawL (K : PySem.W.Frag) : Sp := fun vs H Q _ => ∃ (a : Addr) (ns : List Int), vs = [.ref a] ∧ SqL K H a (ns.map V.int) ∧ ns.length ≤ 63 ∧ ∀ H', Q (.bl true) H'
abbrev nLaw : List Str := ["_law_script", "_law_turn", "_law_stream_here", "_law_grove", "_law_first", "_law_bent", "_law_pairs", "_law_left", "_law_right"]
section
variable {P : Program} {w : World} {K : PySem.W.Frag} {mg : Str → Option Value} {base : Heap} {C CM CR : Addr}
theorem sc_law : FnScope nLaw ["_law_script"] (defScope s_law) := ⟨rfl, rfl, rfl, by decide +kernel, rfl, by decide +kernel, by decide +kernel⟩
theorem ok_law {fT fM : Addr} {fdT fdM : FuncData} (D : DefAt K mg "law" s_law ["_law_script"]) (B : TxB mg) (TT : TxT K mg C) (M : TxM K mg CM) (NC : TxN K C)
    (Ds : DefAt K mg "_law_stream" s_L_stream ["_law_script", "_law_k"])
    (Dd : DefAt K mg "_law_draw" s_L_draw ["_law_stream_here", "_law_many"]) (Gd : FnOk P w K mg base CX0 2 Dd.f Dd.fd ["_law_stream_here", "_law_many"] spDraw)
    (Dw : DefAt K mg "_law_written" s_L_written [])
    (Dt : DefAt K mg "_law_trees" s_L_trees ["_law_grove"]) (Gt : FnOk P w K mg base CX0 8 Dt.f Dt.fd ["_law_grove"] (spLTrees K C CM CR))
    (Dm : DefAt K mg "_law_meanings" s_L_meanings ["_law_grove", "_law_first", "_law_bent"]) (Gm : FnOk P w K mg base CX0 10 Dm.f Dm.fd ["_law_grove", "_law_first", "_law_bent"] (spLMeanings K C CM CR))
    (Dn : DefAt K mg "_law_by_names" s_L_by_names ["_law_grove", "_law_sense"]) (Gn : FnOk P w K mg base CX0 13 Dn.f Dn.fd ["_law_grove", "_law_sense"] (spLNames K C CM CR))
    (mT : MethAt K C "__eq__" "Tree.__eq__" s_Tree_eq ["self", "other"]) (GTe : FnOk P w K mg base CX0 2 mT.f mT.fd ["self", "other"] (spEqT K C))
    (mM : MethAt K CM "__eq__" "Meaning.__eq__" s_Meaning_eq ["self", "other"]) (GMe : FnOk P w K mg base CX0 3 mM.f mM.fd ["self", "other"] (spMEq K C CM))
    (mR : MethAt K CR "__eq__" "Row.__eq__" s_Row_eq ["self", "other"]) (GRe : FnOk P w K mg base CX0 3 mR.f mR.fd ["self", "other"] (spREq K C CR))
    (MT : Mk K C fT) (bT : Binds K fdT ["self", "rows"] []) (GT : FnOk P w K mg base CX0 5 fT fdT ["self", "rows"] (spTreeInit C)) (kT : KBn K fdT ["self", "rows"] 1 ["rows"] gR gR)
    (MM : Mk K CM fM) (bM : Binds K fdM PSM []) (GM : FnOk P w K mg base CX0 7 fM fdM PSM (spMeaningInit K C CM)) :
    FnOk P w K mg base CX0 14 D.f D.fd ["_law_script"] (spLawL K) := by
  have Gs : FnOk P w K mg base CX0 2 Ds.f Ds.fd ["_law_script", "_law_k"] (spStream K) := ok_stream Ds B
  have Gw : FnOk P w K mg base CX0 1 Dw.f Dw.fd [] spWritten := ok_written Dw
  refine D.F.ok sc_law (fun vs H Q E h => ?_) (fun cdv A outer s H vs Q E hr h => ?_)
  · obtain ⟨a, ns, rfl, _⟩ := h
    rfl
  · obtain ⟨a0, ns, rfl, hS, hlen, hq⟩ := h
    have r1 : Room 1 _ := hr.mono (by decide)
    have r2 : Room 2 _ := hr.mono (by decide)
    have r3 : Room 3 _ := hr.mono (by decide)
    have r4 : Room 4 _ := hr.mono (by decide)
    have r6 : Room 6 _ := hr.mono (by decide)
    have r8 : Room 8 _ := hr.mono (by decide)
    have r10 : Room 10 _ := hr.mono (by decide)
    refine ⟨_, pss_cons (ps_for PassesOwn.never rfl (pi_range1 (by rfl) B.range (pa_cons pe_int pa_nil)) (pg_name (i := 1) sc_law.nd rfl (.inl rfl))
        (pss_cons (ps_set (i := 2) sc_law.nd rfl (.inl rfl) (pe_call Gs r2 rfl Ds.g Ds.F.kp Ds.b .nil pass0 (pa_cons (pv 0) (pa_cons (pv 1) pa_nil))))
        (pss_cons (ps_set (i := 3) sc_law.nd rfl (.inl rfl) (pe_make MT GT r6 rfl TT.g bT .nil pass0 (pa_cons (pe_call0 Gw r1 rfl Dw.g Dw.F.kp Dw.b .nil pass0) pa_nil)))
        (pss_cons (ps_set (i := 4) sc_law.nd rfl (.inl rfl) (pe_cmpR op_eq (pe_call Gd r2 rfl Dd.g Dd.F.kp Dd.b .nil pass0 (pa_cons (pv 2) (pa_cons pe_int pa_nil))) pe_int (nomark _)))
        (pss_cons (ps_set (i := 5) sc_law.nd rfl (.inl rfl) (pe_op op_cat (pe_op op_rep (pe_lst (pa_cons pe_str pa_nil)) (pe_call Gd r2 rfl Dd.g Dd.F.kp Dd.b .nil pass0 (pa_cons (pv 2) (pa_cons pe_int pa_nil)))) (pe_op op_rep (pe_lst (pa_cons pe_str pa_nil)) (pe_call Gd r2 rfl Dd.g Dd.F.kp Dd.b .nil pass0 (pa_cons (pv 2) (pa_cons pe_int pa_nil))))))
        (pss_cons (ps_if (pt_cmpR (op_neC GTe mT.m NC.ne NC.ob r3 mT.b pass0) (pv 3) (pe_makeK0 MT GT r6 rfl TT.g kT pass0 (pk_cons (pe_call0 Gw r1 rfl Dw.g Dw.F.kp Dw.b .nil pass0) pk_nil)) (nomark _)) (pss_one (ps_ret pe_bl)) pss_nil)
        (pss_cons (ps_set (i := 6) sc_law.nd rfl (.inl rfl) (pe_op op_cat (pe_call Gt r8 rfl Dt.g Dt.F.kp Dt.b .nil pass0 (pa_cons (pv 3) pa_nil)) (pe_call Gm r10 rfl Dm.g Dm.F.kp Dm.b .nil pass0 (pa_cons (pv 3) (pa_cons (pv 4) (pa_cons (pv 5) pa_nil))))))
        (pss_cons (ps_expr (pe_bm PySem.F.plainAttrs_list PySem.F.slot_list_extend PySem.F.type_list_extend mt_extend (pv 6) (pa_cons (pe_call Gn hr rfl Dn.g Dn.F.kp Dn.b .nil pass0 (pa_cons (pv 3) (pa_cons (pe_make MM GM r8 rfl M.g bM .nil pass0 (pa_cons (pv 3) (pa_cons (pv 4) (pa_cons (pv 5) pa_nil)))) pa_nil))) pa_nil)))
        (pss_one (ps_if (pt_not (pt_val (pe_callB (cr_all rfl) (by rfl) B.all (by decide +kernel) (pa_cons (pe_lc (own := [("_law_left", 7), ("_law_right", 8)]) (g := gTup K 2 (gCons (gName 7) (gCons (gName 8) gNil))) (tt := tYes) (te := tOp (RQ K C CM CR) (tVar 7) (tVar 8)) rfl sc_law.nd (pi_list (pv 6)) (blkOk_by (N := nLaw) (sc := defScope s_law) (by decide +kernel))
          (fun _ _ _ _ _ => pg_tup rfl (pgs_cons (pg_name (i := 7) sc_law.nd rfl (Or.inl rfl)) (pgs_cons (pg_name (i := 8) sc_law.nd rfl (Or.inl rfl)) pgs_nil))) (fun _ _ _ _ _ => pts_nil)
          (fun _ _ _ _ _ => by exact pe_cmpR (op_or' op_eq (op_eqG (rcG_DW (eqT_of GTe) mT.m.at_ mT.m.fn mT.b pass0 (eqM_of GMe) mM.m.at_ mM.m.fn mM.b pass0 (eqR_of GRe) mR.m.at_ mR.m.fn mR.b pass0) r4)) (pv 7) (pv 8) (nomark _))) pa_nil)))) (pss_one (ps_ret pe_bl)) pss_nil))))))))))
      (pss_one (ps_ret pe_bl)), ?_⟩
    refine ⟨3, rfl, by decide, by decide, ?_⟩
    refine for_range (lo := 0) (n := (3 : Int).toNat) (fun i σ H' => ∃ v1 v2 v3 v4 v5 v6 v7 v8 : Option V, σ = [some (.ref a0), v1, v2, v3, v4, v5, v6, v7, v8] ∧ SqL K H' a0 (ns.map V.int)) ⟨_, _, _, _, _, _, _, _, rfl, hS⟩ ?_ ?_
    rotate_left
    · rintro σ H' ⟨_, _, _, _, _, _, _, _, rfl, _⟩
      exact hq _
    rintro i_ σ H1 hi ⟨v1, v2, v3, v4, v5, v6, v7, v8, rfl, hS1⟩
    have hi3 : i_ < 3 := hi
    refine ⟨_, rfl, _, rfl, a0, ns, _, rfl, hS1, by omega, by omega, fun a x y ha hx hy hy1 => ?_⟩
    have st0 : Stm (upd H1 a (.lst [.int x, .int y, .int 0])) a 0 := ⟨x, y, 0, upd_same, hx, hy, hy1, by decide, by decide⟩
    have S2 : Same H1 (upd H1 a (.lst [.int x, .int y, .int 0])) := Same.new ha
    generalize upd H1 a (.lst [.int x, .int y, .int 0]) = H2 at st0 S2
    refine ⟨rfl, fun p as H3 hp s3 e3 w3 => ?_⟩
    dsimp only [tNil]
    refine fun t dt nt ndt _ => ⟨t, dt, p, as, rs0, rfl, upd_same, .inr (mk_same0 (C := C) nt ndt _ _ e3), (w3.same (mk_same0 (C := C) nt ndt)).seq, by decide, valid0, fun H4 sb4 ht => ⟨rfl, ?_⟩⟩
    have s4 := s3.trans (mk_same nt ndt sb4)
    have st4 := st0.same s4
    have S4 := S2.trans s4
    clear s3 e3 w3 nt ndt sb4 s4 st0 S2 hp
    refine ⟨_, rfl, a, 2, 0, rfl, st4, by decide, by decide, by decide, fun r H5 r0 r1 st5 e5 => ⟨rfl, ?_⟩⟩
    have sb5 := sb_eq (H := H4) e5
    replace ht := ht.kl (KL.sb st4 sb5)
    have S5 := smb S4 ha sb5
    generalize decide (V.int r = V.int 0) = d
    clear e5 sb5 st4 S4
    -- the turns
    refine ⟨(by show 1 ≤ sizeLine; decide), fun c1 hc1 => ?_⟩
    have s6 : Same H5 (upd H5 c1 (.lst [V.str ("c" : Str)])) := Same.new hc1
    have e6 : (upd H5 c1 (.lst [V.str ("c" : Str)])) c1 = some (.lst [V.str ("c" : Str)]) := upd_same
    have n1 : c1 ≠ a := (st5.ne hc1).symm
    replace st5 := st5.same s6
    replace ht := ht.same s6
    replace S5 := S5.trans s6
    generalize upd H5 c1 (.lst [V.str ("c" : Str)]) = H6 at s6 e6 st5 ht S5
    refine ⟨_, rfl, a, 2, _, rfl, st5, by decide, by decide, by decide, fun k1 H7 k0 kl st7 e7 => ?_⟩
    have sb7 := sb_eq (H := H6) e7
    replace ht := ht.kl (KL.sb st5 sb7)
    have S7 := smb S5 ha sb7
    replace e6 := sb7 _ _ n1 e6
    refine ⟨c1, k1, _, rfl, rfl, e6, by omega, by omega, szl (by show 1 * _ ≤ 1000; omega), fun q1 hq1 => ?_⟩
    rw [rep_map]
    have s8 : Same H7 (upd H7 q1 (.lst ((List.replicate k1.toNat ("c" : Str)).map V.str))) := Same.new hq1
    have e8 : (upd H7 q1 (.lst ((List.replicate k1.toNat ("c" : Str)).map V.str))) q1 = some (.lst ((List.replicate k1.toNat ("c" : Str)).map V.str)) := upd_same
    have n8 : q1 ≠ a := (st7.ne hq1).symm
    replace st7 := st7.same s8
    replace ht := ht.same s8
    replace S7 := S7.trans s8
    generalize upd H7 q1 (.lst ((List.replicate k1.toNat ("c" : Str)).map V.str)) = H8 at s8 e8 st7 ht S7 ⊢
    clear s6 e6 st5 S5 e7 sb7 n1 hc1 hq1 s8
    refine ⟨(by show 1 ≤ sizeLine; decide), fun c2 hc2 => ?_⟩
    have s9 : Same H8 (upd H8 c2 (.lst [V.str ("b" : Str)])) := Same.new hc2
    have e9 : (upd H8 c2 (.lst [V.str ("b" : Str)])) c2 = some (.lst [V.str ("b" : Str)]) := upd_same
    have n9 : c2 ≠ a := (st7.ne hc2).symm
    replace st7 := st7.same s9
    replace ht := ht.same s9
    replace S7 := S7.trans s9
    replace e8 := s9 _ _ e8
    generalize upd H8 c2 (.lst [V.str ("b" : Str)]) = H9 at s9 e9 st7 ht S7 e8
    refine ⟨_, rfl, a, 2, _, rfl, st7, by decide, by decide, by decide, fun k2 H10 k20 k2l st10 e10 => ?_⟩
    have sb10 := sb_eq (H := H9) e10
    replace ht := ht.kl (KL.sb st7 sb10)
    have S10 := smb S7 ha sb10
    replace e9 := sb10 _ _ n9 e9
    replace e8 := sb10 _ _ n8 e8
    refine ⟨c2, k2, _, rfl, rfl, e9, by omega, by omega, szl (by show 1 * _ ≤ 1000; omega), fun q2 hq2 => ?_⟩
    rw [rep_map]
    have s11 : Same H10 (upd H10 q2 (.lst ((List.replicate k2.toNat ("b" : Str)).map V.str))) := Same.new hq2
    have e11 : (upd H10 q2 (.lst ((List.replicate k2.toNat ("b" : Str)).map V.str))) q2 = some (.lst ((List.replicate k2.toNat ("b" : Str)).map V.str)) := upd_same
    generalize upd H10 q2 (.lst ((List.replicate k2.toNat ("b" : Str)).map V.str)) = H11 at s11 e11 ⊢
    refine ⟨q1, q2, _, _, rfl, rfl, s11 _ _ e8, e11, szl (by rw [List.length_map, List.length_map, List.length_replicate, List.length_replicate]; omega), fun be hbe => ?_⟩
    rw [← List.map_append]
    obtain ⟨xs, hxs⟩ : ∃ xs, xs = List.replicate k1.toNat ("c" : Str) ++ List.replicate k2.toNat ("b" : Str) := ⟨_, rfl⟩
    have hf : ∀ z ∈ xs, Free rs0 z := fun z hz => by
      rw [hxs] at hz
      rcases List.mem_append.mp hz with hz | hz
      · rw [(List.mem_replicate.mp hz).2]; exact free0 (in0 (by decide +kernel))
      · rw [(List.mem_replicate.mp hz).2]; exact free0 (in0 (by decide +kernel))
    rw [← hxs]
    have s12 : Same H11 (upd H11 be (.lst (xs.map V.str))) := Same.new hbe
    have e12 : (upd H11 be (.lst (xs.map V.str))) be = some (.lst (xs.map V.str)) := upd_same
    generalize upd H11 be (.lst (xs.map V.str)) = H12 at s12 e12 ⊢
    replace ht := ht.same (s11.trans s12)
    have S12 := S10.trans (s11.trans s12)
    clear s9 e9 st7 S7 e10 sb10 n9 hc2 hq2 e8 n8 st10 S10 s11 e11 s12 hbe k0 kl k20 k2l hxs r0 r1
    -- the tree by a name
    refine ⟨_, rfl, rfl, fun p as H13 hp s13 e13 w13 => ?_⟩
    refine ⟨rfl, rfl, fun t2 dt nt ndt _ => ⟨t2, dt, p, as, rs0, rfl, upd_same, .inr (mk_same0 (C := C) nt ndt _ _ e13), (w13.same (mk_same0 (C := C) nt ndt)).seq, by decide, valid0, fun H14 sb14 ht2 => ⟨rfl, ?_⟩⟩⟩
    have s14 := s13.trans (mk_same nt ndt sb14)
    replace ht := ht.same s14
    replace e12 := s14 _ _ e12
    have S14 := S12.trans s14
    clear s13 e13 w13 nt ndt sb14 S12 s14 hp
    obtain ⟨tdx, _, _, _, _, _, g1, _⟩ := id ht.ex
    obtain ⟨tdx2, _, _, _, _, _, g2, _⟩ := id ht2.ex
    refine ⟨t, tdx, _, .ref C, rfl, g1, .ins g2, nfC, t, _, rs0, rfl, ht, .inl ⟨t2, rs0, rfl, ht2, _, rfl, _, rfl, iteF' (by simp) ?_⟩⟩
    clear g1 g2 ht2
    -- pairs
    refine ⟨_, rfl, t, rfl, ht, fun l1 as1 H15 h15 P1 z1 => ?_⟩
    have ht15 := ht.same P1.same
    refine ⟨_, rfl, _, rfl, _, rfl, t, be, d, xs, rfl, ht15, P1.same _ _ e12, hf, fun l2 as2 H16 h16 P2 z2 => ?_⟩
    have L1 := P1.out ((cut_ext _ _ _).trans P2.same)
    have L2' := P2.out (cut_ext _ _ _)
    have S16 := S14.trans (P1.same.trans P2.same)
    have ht16 := ht15.same P2.same
    have be16 := P2.same _ _ (P1.same _ _ e12)
    refine ⟨l1, l2, _, _, rfl, rfl, P2.same _ _ P1.lst, P2.lst, szl (by rw [List.length_map, List.length_map]; omega), fun pq hpq => ?_⟩
    rw [← List.map_append]
    have s17 : Same H16 (upd H16 pq (.lst ((as1 ++ as2).map V.ref))) := Same.new hpq
    have e17 : (upd H16 pq (.lst ((as1 ++ as2).map V.ref))) pq = some (.lst ((as1 ++ as2).map V.ref)) := upd_same
    generalize upd H16 pq (.lst ((as1 ++ as2).map V.ref)) = H17 at s17 e17 ⊢
    clear P1 P2 h15 h16 ht ht15 e12 S14
    refine ⟨_, rfl, .inl ⟨rfl, _, SqL.of e17⟩, _, rfl, _, rfl, _, rfl, _, rfl, ?_⟩
    dsimp only [tNil]
    refine mean_mk (ht16.same s17) (.inl (SqL.of (s17 _ _ be16))) hf fun m H18 s18 hm => ?_
    have tf1 : ∀ z ∈ turnsL rs0 xs, Free rs0 z := fun z hz => free0 (List.mem_filter.mp hz).1
    have e18 := s18 _ _ e17
    refine ⟨t, m, d, _, rfl, hm.tree, hm, tf1, fun l3 as3 H19 h19 P3 z3 => ?_⟩
    have e19 := P3.same _ _ e18
    have szz : ((as1 ++ as2).map V.ref).length + (as3.map V.ref).length ≤ 25 := by rw [List.length_map, List.length_append, List.length_map]; omega
    refine ⟨pq, l3, _, _, rfl, rfl, e19, P3.lst, szl (Nat.le_trans szz (by decide)), ?_⟩
    rw [← List.map_append]
    have k20 : ∀ b o, b ≠ pq → H19 b = some o → (upd H19 pq (.lst ((as1 ++ as2 ++ as3).map V.ref))) b = some o := fun b o n e => by rw [upd_ne n]; exact e
    have L3 := P3.out (cut_old (H' := upd H19 pq (.lst ((as1 ++ as2 ++ as3).map V.ref))) e18 k20)
    have S20 : Same H16 (upd H19 pq (.lst ((as1 ++ as2 ++ as3).map V.ref))) := fun b o e => k20 b o (ne_of_none e hpq) ((s17.trans (s18.trans P3.same)) b o e)
    have e20 : (upd H19 pq (.lst ((as1 ++ as2 ++ as3).map V.ref))) pq = some (.lst ((as1 ++ as2 ++ as3).map V.ref)) := upd_same
    generalize upd H19 pq (.lst ((as1 ++ as2 ++ as3).map V.ref)) = H20 at L3 S20 e20 ⊢
    have LL : PsL K C CM CR (as1 ++ as2 ++ as3) H20 := fun b hb => by
      rcases List.mem_append.mp hb with hb | hb
      · rcases List.mem_append.mp hb with hb | hb
        · exact L1.same S20 b hb
        · exact L2'.same S20 b hb
      · exact L3 b hb
    have S := S16.trans S20
    have lall : (as1 ++ as2 ++ as3).length ≤ 25 := by rw [List.length_append, List.length_append]; omega
    generalize as1 ++ as2 ++ as3 = al at LL e20 lall
    clear L1 L2' L3 S20 k20 P3 h19 hm s17 s18 e17 e18 e19 z1 z2 z3 szz be16 ht16 S16 hpq
    -- all alike
    refine ⟨_, rfl, pq, rfl, ⟨_, SqL.of e20⟩, fun D hD => ?_⟩
    refine lc_list (K := K) (a := pq) (xs := al.map V.ref) (fun i H' => Same H20 H' ∧ ∃ bs : List Bool, H' D = some (.lst (bs.map V.bl)) ∧ bs.all id = true ∧ bs.length = i) ⟨Same.new hD, [], upd_same, rfl, rfl⟩ (fun i H' _ m => m.1.seq (SqL.of e20)) ?_ ?_
    · rintro i x H21 hx ⟨s21, bs, hD21, hb, hbl⟩
      have hil : i < al.length := by
        have := (List.getElem?_eq_some_iff.mp hx).1
        rw [List.length_map] at this
        exact this
      rw [List.getElem?_map] at hx
      obtain ⟨b, hb0, rfl⟩ := Option.map_eq_some_iff.mp hx
      obtain ⟨u, v, eu, pu⟩ := LL.same s21 b (List.mem_of_getElem? hb0)
      refine ⟨b, [u, v], rfl, sqT eu, rfl, ?_⟩
      refine ⟨_, _, rfl, _, _, rfl, rfl, rfl, tYes_if ⟨_, rfl, _, rfl, rd_RQ pu fun H22 x22 => ?_⟩⟩
      refine ⟨bs.map V.bl, x22 _ _ hD21, small1000 (by rw [List.length_map]; omega), fun b o eb => ?_, bs ++ [true], by rw [upd_same, List.map_append]; rfl, by rw [List.all_append, hb]; rfl, by rw [List.length_append, hbl]; rfl⟩
      rw [upd_ne (fun y => by rw [y, hD] at eb; cases eb)]
      exact x22 _ _ (s21 _ _ eb)
    rintro H21 ⟨s21, bs, hD21, hb, _⟩
    refine ⟨D, bs, rfl, SqL.of hD21, _, rfl, ?_⟩
    rw [hb]
    refine iteF' rfl ?_
    exact ⟨_, _, _, _, _, _, _, _, rfl, (S.trans s21).seq hS1⟩
end
end Ts

set_option maxRecDepth 100000
set_option maxHeartbeats 4000000
namespace Ts
open PySem L2
section
variable {K : PySem.W.Frag} {f : Addr} {fd : FuncData}
theorem kTree_folder (F : Fun K "folder" "Tree.folder" s_Tree_folder f fd) : KBn K fd ["self", "box"] 1 ["box"] gR gR := Ts.Fun.kR F ["self", "box"] 1 ["box"] (fun _ _ _ _ _ _ us ws hu hw => match us, hu, ws, hw with | [_], _, [_], _ => rfl)
theorem kTree_kind (F : Fun K "kind" "Tree.kind" s_Tree_kind f fd) : KBn K fd ["self", "box"] 1 ["box"] gR gR := Ts.Fun.kR F ["self", "box"] 1 ["box"] (fun _ _ _ _ _ _ us ws hu hw => match us, hu, ws, hw with | [_], _, [_], _ => rfl)
theorem kTree_price (F : Fun K "price" "Tree.price" s_Tree_price f fd) : KBn K fd ["self", "box"] 1 ["box"] gR gR := Ts.Fun.kR F ["self", "box"] 1 ["box"] (fun _ _ _ _ _ _ us ws hu hw => match us, hu, ws, hw with | [_], _, [_], _ => rfl)
theorem kTree_inside (F : Fun K "inside" "Tree.inside" s_Tree_inside f fd) : KBn K fd ["self", "box"] 1 ["box"] gR gR := Ts.Fun.kR F ["self", "box"] 1 ["box"] (fun _ _ _ _ _ _ us ws hu hw => match us, hu, ws, hw with | [_], _, [_], _ => rfl)
theorem kTree_below (F : Fun K "below" "Tree.below" s_Tree_below f fd) : KBn K fd ["self", "box"] 1 ["box"] gR gR := Ts.Fun.kR F ["self", "box"] 1 ["box"] (fun _ _ _ _ _ _ us ws hu hw => match us, hu, ws, hw with | [_], _, [_], _ => rfl)
theorem kTree_way (F : Fun K "way" "Tree.way" s_Tree_way f fd) : KBn K fd ["self", "box"] 1 ["box"] gR gR := Ts.Fun.kR F ["self", "box"] 1 ["box"] (fun _ _ _ _ _ _ us ws hu hw => match us, hu, ws, hw with | [_], _, [_], _ => rfl)
theorem kTree_less (F : Fun K "less" "Tree.less" s_Tree_less f fd) : KBn K fd ["self", "box"] 1 ["box"] gR gR := Ts.Fun.kR F ["self", "box"] 1 ["box"] (fun _ _ _ _ _ _ us ws hu hw => match us, hu, ws, hw with | [_], _, [_], _ => rfl)
theorem kTree_steps (F : Fun K "steps" "Tree.steps" s_Tree_steps f fd) : KBn K fd ["self", "one", "other"] 1 ["other", "one"] gR gR := Ts.Fun.kR F ["self", "one", "other"] 1 ["other", "one"] (fun _ _ _ _ _ _ us ws hu hw => match us, hu, ws, hw with | [_], _, [_, _], _ => rfl)
theorem kTree_more (F : Fun K "more" "Tree.more" s_Tree_more f fd) : KBn K fd ["self", "row"] 1 ["row"] gR gR := Ts.Fun.kR F ["self", "row"] 1 ["row"] (fun _ _ _ _ _ _ us ws hu hw => match us, hu, ws, hw with | [_], _, [_], _ => rfl)
theorem kTree_moved (F : Fun K "moved" "Tree.moved" s_Tree_moved f fd) : KBn K fd ["self", "box", "folder"] 1 ["folder", "box"] gR gR := Ts.Fun.kR F ["self", "box", "folder"] 1 ["folder", "box"] (fun _ _ _ _ _ _ us ws hu hw => match us, hu, ws, hw with | [_], _, [_, _], _ => rfl)
theorem kTree_opened (F : Fun K "opened" "Tree.opened" s_Tree_opened f fd) : KBn K fd ["self", "box", "rows"] 1 ["rows", "box"] gR gR := Ts.Fun.kR F ["self", "box", "rows"] 1 ["rows", "box"] (fun _ _ _ _ _ _ us ws hu hw => match us, hu, ws, hw with | [_], _, [_, _], _ => rfl)
theorem kTree_init (F : Fun K "__init__" "Tree.__init__" s_Tree_init f fd) : KBn K fd ["self", "rows"] 1 ["rows"] gR gR := Ts.Fun.kR F ["self", "rows"] 1 ["rows"] (fun _ _ _ _ _ _ us ws hu hw => match us, hu, ws, hw with | [_], _, [_], _ => rfl)
theorem kMeaning_value (F : Fun K "value" "Meaning.value" s_Meaning_value f fd) : KBn K fd ["self", "box"] 1 ["box"] gR gR := Ts.Fun.kR F ["self", "box"] 1 ["box"] (fun _ _ _ _ _ _ us ws hu hw => match us, hu, ws, hw with | [_], _, [_], _ => rfl)
theorem kRow_call (F : Fun K "__call__" "Row.__call__" s_Row_call f fd) : KBn K fd ["self", "meaning"] 1 ["meaning"] gR gR := Ts.Fun.kR F ["self", "meaning"] 1 ["meaning"] (fun _ _ _ _ _ _ us ws hu hw => match us, hu, ws, hw with | [_], _, [_], _ => rfl)
theorem kRow_init (F : Fun K "__init__" "Row.__init__" s_Row_init f fd) : KBn K fd ["self", "tree", "deeds"] 1 ["deeds", "tree"] gR gR := Ts.Fun.kR F ["self", "tree", "deeds"] 1 ["deeds", "tree"] (fun _ _ _ _ _ _ us ws hu hw => match us, hu, ws, hw with | [_], _, [_, _], _ => rfl)
theorem kD_parting (F : Fun K "parting" "parting" s_parting f fd) : KBn K fd ["one", "other"] 0 ["other", "one"] gR gR := Ts.Fun.kR F ["one", "other"] 0 ["other", "one"] (fun _ _ _ _ _ _ us ws hu hw => match us, hu, ws, hw with | [], _, [_, _], _ => rfl)
theorem kD_middle (F : Fun K "middle" "middle" s_middle f fd) : KBn K fd ["meanings"] 0 ["meanings"] gR gR := Ts.Fun.kR F ["meanings"] 0 ["meanings"] (fun _ _ _ _ _ _ us ws hu hw => match us, hu, ws, hw with | [], _, [_], _ => rfl)
theorem kD_idle (F : Fun K "idle" "idle" s_idle f fd) : KBn K fd ["row"] 0 ["row"] gR gR := Ts.Fun.kR F ["row"] 0 ["row"] (fun _ _ _ _ _ _ us ws hu hw => match us, hu, ws, hw with | [], _, [_], _ => rfl)
theorem kD_clash (F : Fun K "clash" "clash" s_clash f fd) : KBn K fd ["one", "other"] 0 ["other", "one"] gR gR := Ts.Fun.kR F ["one", "other"] 0 ["other", "one"] (fun _ _ _ _ _ _ us ws hu hw => match us, hu, ws, hw with | [], _, [_, _], _ => rfl)
theorem kD_fewest_deeds (F : Fun K "fewest_deeds" "fewest_deeds" s_fewest_deeds f fd) : KBn K fd ["one", "other"] 0 ["other", "one"] gR gR := Ts.Fun.kR F ["one", "other"] 0 ["other", "one"] (fun _ _ _ _ _ _ us ws hu hw => match us, hu, ws, hw with | [], _, [_, _], _ => rfl)
theorem kD_join (F : Fun K "join" "join" s_join f fd) : KBn K fd ["meaning", "one", "other"] 0 ["other", "one", "meaning"] gR gR := Ts.Fun.kR F ["meaning", "one", "other"] 0 ["other", "one", "meaning"] (fun _ _ _ _ _ _ us ws hu hw => match us, hu, ws, hw with | [], _, [_, _, _], _ => rfl)
theorem kD_moved (F : Fun K "moved" "moved" s_moved f fd) : KBn K fd ["meaning", "box", "folder", "rule"] 0 ["rule", "folder", "box", "meaning"] gR gR := Ts.Fun.kR F ["meaning", "box", "folder", "rule"] 0 ["rule", "folder", "box", "meaning"] (fun _ _ _ _ _ _ us ws hu hw => match us, hu, ws, hw with | [], _, [_, _, _, _], _ => rfl)
theorem kD_back (F : Fun K "back" "back" s_back f fd) : KBn K fd ["meaning", "box", "folder", "rule"] 0 ["rule", "folder", "box", "meaning"] gR gR := Ts.Fun.kR F ["meaning", "box", "folder", "rule"] 0 ["rule", "folder", "box", "meaning"] (fun _ _ _ _ _ _ us ws hu hw => match us, hu, ws, hw with | [], _, [_, _, _, _], _ => rfl)
theorem kD_unlike_moves (F : Fun K "unlike_moves" "unlike_moves" s_unlike_moves f fd) : KBn K fd ["meaning", "rule", "other"] 0 ["other", "rule", "meaning"] gR gR := Ts.Fun.kR F ["meaning", "rule", "other"] 0 ["other", "rule", "meaning"] (fun _ _ _ _ _ _ us ws hu hw => match us, hu, ws, hw with | [], _, [_, _, _], _ => rfl)
abbrev FMi (K : PySem.W.Frag) (Te f : Addr) (fd : FuncData) : Prop := FunD K "__init__" "Meaning.__init__" (defArgs s_Meaning_init) (defBody s_Meaning_init) (defScope s_Meaning_init) [V.ref Te] [] f fd
theorem kM_init {Te : Addr} (F : FMi K Te f fd) : KBn K fd PSM 1 ["turns", "default", "tree"] gR gR := by
  obtain ⟨its, h⟩ := L2.FunD.kbindsD F (ps := PSM) 1 ["turns", "default", "tree"] (fun us _ ws => us ++ ws.reverse) (by simp) (fun r _ z => r.append (vals_rev z)) (fun T kV doc pm an cdv ct us its ws hu hi hw => match us, hu, its, hi, ws, hw with | [_], _, [_], _, [_, _, _], _ => ⟨_, rfl, rfl⟩)
  exact h
theorem kM_init2 {Te : Addr} (F : FMi K Te f fd) : ∃ gM, KBn K fd PSM 1 ["default", "tree"] gM (fun vs zs => gR vs zs ++ [V.ref Te]) := by
  obtain ⟨its, h⟩ := L2.FunD.kbindsD F (ps := PSM) 1 ["default", "tree"] (fun us ds ws => us ++ ws.reverse ++ ds) (by simp) (fun r d z => (r.append (vals_rev z)).append d) (fun T kV doc pm an cdv ct us its ws hu hi hw => match us, hu, its, hi, ws, hw with | [_], _, [_], _, [_, _], _ => ⟨_, rfl, rfl⟩)
  exact ⟨_, h⟩
end
end Ts

set_option maxRecDepth 100000
set_option maxHeartbeats 8000000
namespace Ts
open PySem L2
theorem defAt {K : PySem.W.Frag} {h : Heap} {mg : Str → Option Value} (X : K.In h) (G : h.Ns mainGlobals mg) {x : Str} {st : Stmt} {ps : List Str} {f : Addr} {oc : Value} {od an : Option Addr} {sl : Array (Option Value)} {kV dc pm cd ct : Value}
    (a : PySem.W.nsIn K mainGlobals x = some (some (.ref f))) (l : K.lookup f = some ⟨oc, od, .func (PySem.W.fnOf x x (defArgs st) (defBody st) (defScope st) .none kV dc pm an cd ct), sl⟩) (c : PySem.W.codeIn K cd x = true) (k : PySem.W.keepIn K (.ref f) = true)
    (hb : ∀ (kV doc pm : Value) (an : Option Addr) (cdv ct : Value) (us : List Value), us.length = ps.length → bindArgs (PySem.W.fnOf x x (defArgs st) (defBody st) (defScope st) .none kV doc pm an cdv ct) ⟨us, []⟩ = pure (ps.zip us)) :
    ∃ D : DefAt K mg x st ps, ∀ (s : Shared) (us : List Value), us.length = ps.length → BindsTo s D.fd ⟨us, []⟩ (ps.zip us) :=
  ⟨⟨f, _, fun_mk l c k, (fun_mk l c k).binds hb, PySem.W.mg_of X G a⟩, fun _ us hu => .of_eq (hb _ _ _ _ _ _ us hu)⟩
theorem methAt {K : PySem.W.Frag} {C : Addr} {x q : Str} {st : Stmt} {ps : List Str} {f : Addr} {oc : Value} {od an : Option Addr} {sl : Array (Option Value)} {kV dc pm cd ct : Value}
    (a : PySem.W.findIn K (.ref C) x = some (some (.ref f))) (i : PySem.W.isFn K (.ref f) = true) (l : K.lookup f = some ⟨oc, od, .func (PySem.W.fnOf x q (defArgs st) (defBody st) (defScope st) .none kV dc pm an cd ct), sl⟩) (c : PySem.W.codeIn K cd q = true) (k : PySem.W.keepIn K (.ref f) = true)
    (hb : ∀ (kV doc pm : Value) (an : Option Addr) (cdv ct : Value) (us : List Value), us.length = ps.length → bindArgs (PySem.W.fnOf x q (defArgs st) (defBody st) (defScope st) .none kV doc pm an cdv ct) ⟨us, []⟩ = pure (ps.zip us)) :
    Nonempty (MethAt K C x q st ps) :=
  ⟨⟨f, _, fun_mk l c k, (fun_mk l c k).binds hb, ⟨a, i, k⟩⟩⟩
theorem kit_no {K : PySem.W.Frag} {C : Addr} {T : String} (iC : PySem.W.isClsIn K C = true) (tC : PySem.W.typeIn K (.ref C) = some (.type "type")) (sb : PySem.W.subIn K (.type T) (.ref C) = some false) : PySem.W.kitOne K (.type T) (.ref C) = some false := by
  unfold PySem.W.kitOne
  rw [if_neg (by simp)]
  have e : ((PySem.W.clsIn K C).isSome && PySem.W.typeIn K (.ref C) == some (.type "type")) = true := by
    rw [show (PySem.W.clsIn K C).isSome = true from iC, tC]
    simp
  show (if ((PySem.W.clsIn K C).isSome && PySem.W.typeIn K (.ref C) == some (.type "type")) = true then PySem.W.subIn K (.type T) (.ref C) else none) = some false
  rw [if_pos e]
  exact sb
theorem kit_noR {K : PySem.W.Frag} {C D : Addr} (ne : ¬ D = C) (iC : PySem.W.isClsIn K C = true) (tC : PySem.W.typeIn K (.ref C) = some (.type "type")) (sb : PySem.W.subIn K (.ref D) (.ref C) = some false) : PySem.W.kitOne K (.ref D) (.ref C) = some false := by
  unfold PySem.W.kitOne
  rw [if_neg (by simpa using ne)]
  have e : ((PySem.W.clsIn K C).isSome && PySem.W.typeIn K (.ref C) == some (.type "type")) = true := by
    rw [show (PySem.W.clsIn K C).isSome = true from iC, tC]
    simp
  show (if ((PySem.W.clsIn K C).isSome && PySem.W.typeIn K (.ref C) == some (.type "type")) = true then PySem.W.subIn K (.ref D) (.ref C) else none) = some false
  rw [if_pos e]
  exact sb
theorem kit_me {K : PySem.W.Frag} {C : Addr} : PySem.W.kitOne K (.ref C) (.ref C) = some true := by
  unfold PySem.W.kitOne
  rw [if_pos (by simp)]
theorem bothAll {K : PySem.W.Frag} {h : Heap} {mg : Str → Option Value} (X : K.In h) (G : h.Ns mainGlobals mg) {C : Addr} {CM : Addr} {CR : Addr} {f0 : Addr} {oc0 kV0 dc0 pm0 cd0 ct0 : Value} {od0 an0 : Option Addr} {sl0 : Array (Option Value)} {f1 : Addr} {oc1 kV1 dc1 pm1 cd1 ct1 : Value} {od1 an1 : Option Addr} {sl1 : Array (Option Value)} {f2 : Addr} {oc2 kV2 dc2 pm2 cd2 ct2 : Value} {od2 an2 : Option Addr} {sl2 : Array (Option Value)} {f3 : Addr} {oc3 kV3 dc3 pm3 cd3 ct3 : Value} {od3 an3 : Option Addr} {sl3 : Array (Option Value)} {f4 : Addr} {oc4 kV4 dc4 pm4 cd4 ct4 : Value} {od4 an4 : Option Addr} {sl4 : Array (Option Value)} {f5 : Addr} {oc5 kV5 dc5 pm5 cd5 ct5 : Value} {od5 an5 : Option Addr} {sl5 : Array (Option Value)} {f6 : Addr} {oc6 kV6 dc6 pm6 cd6 ct6 : Value} {od6 an6 : Option Addr} {sl6 : Array (Option Value)} {f7 : Addr} {oc7 kV7 dc7 pm7 cd7 ct7 : Value} {od7 an7 : Option Addr} {sl7 : Array (Option Value)} {f8 : Addr} {oc8 kV8 dc8 pm8 cd8 ct8 : Value} {od8 an8 : Option Addr} {sl8 : Array (Option Value)} {f9 : Addr} {oc9 kV9 dc9 pm9 cd9 ct9 : Value} {od9 an9 : Option Addr} {sl9 : Array (Option Value)} {f10 : Addr} {oc10 kV10 dc10 pm10 cd10 ct10 : Value} {od10 an10 : Option Addr} {sl10 : Array (Option Value)} {f11 : Addr} {oc11 kV11 dc11 pm11 cd11 ct11 : Value} {od11 an11 : Option Addr} {sl11 : Array (Option Value)} {f12 : Addr} {oc12 kV12 dc12 pm12 cd12 ct12 : Value} {od12 an12 : Option Addr} {sl12 : Array (Option Value)} {f13 : Addr} {oc13 kV13 dc13 pm13 cd13 ct13 : Value} {od13 an13 : Option Addr} {sl13 : Array (Option Value)} {f14 : Addr} {oc14 kV14 dc14 pm14 cd14 ct14 : Value} {od14 an14 : Option Addr} {sl14 : Array (Option Value)} {mf0 : Addr} {moc0 mkV0 mdc0 mpm0 mcd0 mct0 : Value} {mod0 man0 : Option Addr} {msl0 : Array (Option Value)} {Td Te : Addr} {odT odE : Option Addr} {itT itE : Array Value} {nT nE : Nat} {slT slE : Array (Option Value)} {mf1 : Addr} {moc1 mkV1 mdc1 mpm1 mcd1 mct1 : Value} {mod1 man1 : Option Addr} {msl1 : Array (Option Value)} {mf2 : Addr} {moc2 mkV2 mdc2 mpm2 mcd2 mct2 : Value} {mod2 man2 : Option Addr} {msl2 : Array (Option Value)} {mf3 : Addr} {moc3 mkV3 mdc3 mpm3 mcd3 mct3 : Value} {mod3 man3 : Option Addr} {msl3 : Array (Option Value)} {rf0 : Addr} {roc0 rkV0 rdc0 rpm0 rcd0 rct0 : Value} {rod0 ran0 : Option Addr} {rsl0 : Array (Option Value)} {rf1 : Addr} {roc1 rkV1 rdc1 rpm1 rcd1 rct1 : Value} {rod1 ran1 : Option Addr} {rsl1 : Array (Option Value)} {rf2 : Addr} {roc2 rkV2 rdc2 rpm2 rcd2 rct2 : Value} {rod2 ran2 : Option Addr} {rsl2 : Array (Option Value)} {rf3 : Addr} {roc3 rkV3 rdc3 rpm3 rcd3 rct3 : Value} {rod3 ran3 : Option Addr} {rsl3 : Array (Option Value)} {rf4 : Addr} {roc4 rkV4 rdc4 rpm4 rcd4 rct4 : Value} {rod4 ran4 : Option Addr} {rsl4 : Array (Option Value)} {rf5 : Addr} {roc5 rkV5 rdc5 rpm5 rcd5 rct5 : Value} {rod5 ran5 : Option Addr} {rsl5 : Array (Option Value)}
    (aC : PySem.W.nsIn K mainGlobals "Tree" = some (some (.ref C)))
    (pg : PySem.W.plainGet K C Str.empty = true)
    (hd : PySem.W.hasDictIn K C = true)
    (po : PySem.W.plainOver K C = true)
    (sa : PySem.W.findIn K (.ref C) "__setattr__" = some (some (.builtin "object.__setattr__")))
    (mk : PySem.W.makesIn K C = true)
    (kc : PySem.W.keepIn K (.ref C) = true)
    (nq : PySem.W.findIn K (.ref C) "quads" = some none)
    (nf : PySem.W.findIn K (.ref C) "folders" = some none)
    (nk : PySem.W.findIn K (.ref C) "kinds" = some none)
    (np : PySem.W.findIn K (.ref C) "prices" = some none)
    (ne : PySem.W.findIn K (.ref C) "__ne__" = some (some (.builtin "object.__ne__")))
    (ob : PySem.W.subIn K (.ref C) (.type "object") = some true)
    (iC : PySem.W.isClsIn K C = true)
    (tC : PySem.W.typeIn K (.ref C) = some (.type "type"))
    (ha : PySem.W.findIn K (.ref C) "__class__" = some (some (.builtin "object.__class__")))
    (hn : PySem.W.specialIn K (.builtin "object.__class__") "__get__" = some (some (.builtin "getset_descriptor.__get__")))
    (htk : PySem.W.takesIn K (.builtin "object.__class__") = some true)
    (hm : PySem.W.mroIn K C (.type "object") = some true)
    (a0 : PySem.W.findIn K (.ref C) "__init__" = some (some (.ref f0))) (i0 : PySem.W.isFn K (.ref f0) = true) (l0 : K.lookup f0 = some ⟨oc0, od0, .func (PySem.W.fnOf "__init__" "Tree.__init__" (defArgs s_Tree_init) (defBody s_Tree_init) (defScope s_Tree_init) .none kV0 dc0 pm0 an0 cd0 ct0), sl0⟩) (c0 : PySem.W.codeIn K cd0 "Tree.__init__" = true) (k0 : PySem.W.keepIn K (.ref f0) = true)
    (a1 : PySem.W.findIn K (.ref C) "__eq__" = some (some (.ref f1))) (i1 : PySem.W.isFn K (.ref f1) = true) (l1 : K.lookup f1 = some ⟨oc1, od1, .func (PySem.W.fnOf "__eq__" "Tree.__eq__" (defArgs s_Tree_eq) (defBody s_Tree_eq) (defScope s_Tree_eq) .none kV1 dc1 pm1 an1 cd1 ct1), sl1⟩) (c1 : PySem.W.codeIn K cd1 "Tree.__eq__" = true) (k1 : PySem.W.keepIn K (.ref f1) = true)
    (a2 : PySem.W.findIn K (.ref C) "__contains__" = some (some (.ref f2))) (i2 : PySem.W.isFn K (.ref f2) = true) (l2 : K.lookup f2 = some ⟨oc2, od2, .func (PySem.W.fnOf "__contains__" "Tree.__contains__" (defArgs s_Tree_contains) (defBody s_Tree_contains) (defScope s_Tree_contains) .none kV2 dc2 pm2 an2 cd2 ct2), sl2⟩) (c2 : PySem.W.codeIn K cd2 "Tree.__contains__" = true) (k2 : PySem.W.keepIn K (.ref f2) = true)
    (a3 : PySem.W.findIn K (.ref C) "rows" = some (some (.ref f3))) (i3 : PySem.W.isFn K (.ref f3) = true) (l3 : K.lookup f3 = some ⟨oc3, od3, .func (PySem.W.fnOf "rows" "Tree.rows" (defArgs s_Tree_rows) (defBody s_Tree_rows) (defScope s_Tree_rows) .none kV3 dc3 pm3 an3 cd3 ct3), sl3⟩) (c3 : PySem.W.codeIn K cd3 "Tree.rows" = true) (k3 : PySem.W.keepIn K (.ref f3) = true)
    (a4 : PySem.W.findIn K (.ref C) "folder" = some (some (.ref f4))) (i4 : PySem.W.isFn K (.ref f4) = true) (l4 : K.lookup f4 = some ⟨oc4, od4, .func (PySem.W.fnOf "folder" "Tree.folder" (defArgs s_Tree_folder) (defBody s_Tree_folder) (defScope s_Tree_folder) .none kV4 dc4 pm4 an4 cd4 ct4), sl4⟩) (c4 : PySem.W.codeIn K cd4 "Tree.folder" = true) (k4 : PySem.W.keepIn K (.ref f4) = true)
    (a5 : PySem.W.findIn K (.ref C) "kind" = some (some (.ref f5))) (i5 : PySem.W.isFn K (.ref f5) = true) (l5 : K.lookup f5 = some ⟨oc5, od5, .func (PySem.W.fnOf "kind" "Tree.kind" (defArgs s_Tree_kind) (defBody s_Tree_kind) (defScope s_Tree_kind) .none kV5 dc5 pm5 an5 cd5 ct5), sl5⟩) (c5 : PySem.W.codeIn K cd5 "Tree.kind" = true) (k5 : PySem.W.keepIn K (.ref f5) = true)
    (a6 : PySem.W.findIn K (.ref C) "price" = some (some (.ref f6))) (i6 : PySem.W.isFn K (.ref f6) = true) (l6 : K.lookup f6 = some ⟨oc6, od6, .func (PySem.W.fnOf "price" "Tree.price" (defArgs s_Tree_price) (defBody s_Tree_price) (defScope s_Tree_price) .none kV6 dc6 pm6 an6 cd6 ct6), sl6⟩) (c6 : PySem.W.codeIn K cd6 "Tree.price" = true) (k6 : PySem.W.keepIn K (.ref f6) = true)
    (a7 : PySem.W.findIn K (.ref C) "inside" = some (some (.ref f7))) (i7 : PySem.W.isFn K (.ref f7) = true) (l7 : K.lookup f7 = some ⟨oc7, od7, .func (PySem.W.fnOf "inside" "Tree.inside" (defArgs s_Tree_inside) (defBody s_Tree_inside) (defScope s_Tree_inside) .none kV7 dc7 pm7 an7 cd7 ct7), sl7⟩) (c7 : PySem.W.codeIn K cd7 "Tree.inside" = true) (k7 : PySem.W.keepIn K (.ref f7) = true)
    (a8 : PySem.W.findIn K (.ref C) "below" = some (some (.ref f8))) (i8 : PySem.W.isFn K (.ref f8) = true) (l8 : K.lookup f8 = some ⟨oc8, od8, .func (PySem.W.fnOf "below" "Tree.below" (defArgs s_Tree_below) (defBody s_Tree_below) (defScope s_Tree_below) .none kV8 dc8 pm8 an8 cd8 ct8), sl8⟩) (c8 : PySem.W.codeIn K cd8 "Tree.below" = true) (k8 : PySem.W.keepIn K (.ref f8) = true)
    (a9 : PySem.W.findIn K (.ref C) "way" = some (some (.ref f9))) (i9 : PySem.W.isFn K (.ref f9) = true) (l9 : K.lookup f9 = some ⟨oc9, od9, .func (PySem.W.fnOf "way" "Tree.way" (defArgs s_Tree_way) (defBody s_Tree_way) (defScope s_Tree_way) .none kV9 dc9 pm9 an9 cd9 ct9), sl9⟩) (c9 : PySem.W.codeIn K cd9 "Tree.way" = true) (k9 : PySem.W.keepIn K (.ref f9) = true)
    (a10 : PySem.W.findIn K (.ref C) "steps" = some (some (.ref f10))) (i10 : PySem.W.isFn K (.ref f10) = true) (l10 : K.lookup f10 = some ⟨oc10, od10, .func (PySem.W.fnOf "steps" "Tree.steps" (defArgs s_Tree_steps) (defBody s_Tree_steps) (defScope s_Tree_steps) .none kV10 dc10 pm10 an10 cd10 ct10), sl10⟩) (c10 : PySem.W.codeIn K cd10 "Tree.steps" = true) (k10 : PySem.W.keepIn K (.ref f10) = true)
    (a11 : PySem.W.findIn K (.ref C) "more" = some (some (.ref f11))) (i11 : PySem.W.isFn K (.ref f11) = true) (l11 : K.lookup f11 = some ⟨oc11, od11, .func (PySem.W.fnOf "more" "Tree.more" (defArgs s_Tree_more) (defBody s_Tree_more) (defScope s_Tree_more) .none kV11 dc11 pm11 an11 cd11 ct11), sl11⟩) (c11 : PySem.W.codeIn K cd11 "Tree.more" = true) (k11 : PySem.W.keepIn K (.ref f11) = true)
    (a12 : PySem.W.findIn K (.ref C) "less" = some (some (.ref f12))) (i12 : PySem.W.isFn K (.ref f12) = true) (l12 : K.lookup f12 = some ⟨oc12, od12, .func (PySem.W.fnOf "less" "Tree.less" (defArgs s_Tree_less) (defBody s_Tree_less) (defScope s_Tree_less) .none kV12 dc12 pm12 an12 cd12 ct12), sl12⟩) (c12 : PySem.W.codeIn K cd12 "Tree.less" = true) (k12 : PySem.W.keepIn K (.ref f12) = true)
    (a13 : PySem.W.findIn K (.ref C) "moved" = some (some (.ref f13))) (i13 : PySem.W.isFn K (.ref f13) = true) (l13 : K.lookup f13 = some ⟨oc13, od13, .func (PySem.W.fnOf "moved" "Tree.moved" (defArgs s_Tree_moved) (defBody s_Tree_moved) (defScope s_Tree_moved) .none kV13 dc13 pm13 an13 cd13 ct13), sl13⟩) (c13 : PySem.W.codeIn K cd13 "Tree.moved" = true) (k13 : PySem.W.keepIn K (.ref f13) = true)
    (a14 : PySem.W.findIn K (.ref C) "opened" = some (some (.ref f14))) (i14 : PySem.W.isFn K (.ref f14) = true) (l14 : K.lookup f14 = some ⟨oc14, od14, .func (PySem.W.fnOf "opened" "Tree.opened" (defArgs s_Tree_opened) (defBody s_Tree_opened) (defScope s_Tree_opened) .none kV14 dc14 pm14 an14 cd14 ct14), sl14⟩) (c14 : PySem.W.codeIn K cd14 "Tree.opened" = true) (k14 : PySem.W.keepIn K (.ref f14) = true)
    (maC : PySem.W.nsIn K mainGlobals "Meaning" = some (some (.ref CM)))
    (mpg : PySem.W.plainGet K CM Str.empty = true)
    (mhd : PySem.W.hasDictIn K CM = true)
    (mpo : PySem.W.plainOver K CM = true)
    (msa : PySem.W.findIn K (.ref CM) "__setattr__" = some (some (.builtin "object.__setattr__")))
    (mmk : PySem.W.makesIn K CM = true)
    (mkc : PySem.W.keepIn K (.ref CM) = true)
    (mnt : PySem.W.findIn K (.ref CM) "tree" = some none)
    (mnd : PySem.W.findIn K (.ref CM) "default" = some none)
    (mnu : PySem.W.findIn K (.ref CM) "turns" = some none)
    (mnk : PySem.W.findIn K (.ref CM) "known" = some none)
    (mne : PySem.W.findIn K (.ref CM) "__ne__" = some (some (.builtin "object.__ne__")))
    (mob : PySem.W.subIn K (.ref CM) (.type "object") = some true)
    (miC : PySem.W.isClsIn K CM = true)
    (mtC : PySem.W.typeIn K (.ref CM) = some (.type "type"))
    (mha : PySem.W.findIn K (.ref CM) "__class__" = some (some (.builtin "object.__class__")))
    (mhn : PySem.W.specialIn K (.builtin "object.__class__") "__get__" = some (some (.builtin "getset_descriptor.__get__")))
    (mhtk : PySem.W.takesIn K (.builtin "object.__class__") = some true)
    (mhm : PySem.W.mroIn K CM (.type "object") = some true)
    (ma0 : PySem.W.findIn K (.ref CM) "__init__" = some (some (.ref mf0))) (mi0 : PySem.W.isFn K (.ref mf0) = true) (ml0 : K.lookup mf0 = some ⟨moc0, mod0, .func (PySem.W.fnOf "__init__" "Meaning.__init__" (defArgs s_Meaning_init) (defBody s_Meaning_init) (defScope s_Meaning_init) (.ref Td) mkV0 mdc0 mpm0 man0 mcd0 mct0), msl0⟩) (mc0 : PySem.W.codeIn K mcd0 "Meaning.__init__" = true) (mk0 : PySem.W.keepIn K (.ref mf0) = true)
    (mlT : K.lookup Td = some ⟨.type "tuple", odT, .seq itT nT, slT⟩) (mvT : itT.toList = [.ref Te]) (mlE : K.lookup Te = some ⟨.type "tuple", odE, .seq itE nE, slE⟩) (mvE : itE.toList = [])
    (ma1 : PySem.W.findIn K (.ref CM) "__eq__" = some (some (.ref mf1))) (mi1 : PySem.W.isFn K (.ref mf1) = true) (ml1 : K.lookup mf1 = some ⟨moc1, mod1, .func (PySem.W.fnOf "__eq__" "Meaning.__eq__" (defArgs s_Meaning_eq) (defBody s_Meaning_eq) (defScope s_Meaning_eq) .none mkV1 mdc1 mpm1 man1 mcd1 mct1), msl1⟩) (mc1 : PySem.W.codeIn K mcd1 "Meaning.__eq__" = true) (mk1 : PySem.W.keepIn K (.ref mf1) = true)
    (ma2 : PySem.W.findIn K (.ref CM) "states" = some (some (.ref mf2))) (mi2 : PySem.W.isFn K (.ref mf2) = true) (ml2 : K.lookup mf2 = some ⟨moc2, mod2, .func (PySem.W.fnOf "states" "Meaning.states" (defArgs s_Meaning_states) (defBody s_Meaning_states) (defScope s_Meaning_states) .none mkV2 mdc2 mpm2 man2 mcd2 mct2), msl2⟩) (mc2 : PySem.W.codeIn K mcd2 "Meaning.states" = true) (mk2 : PySem.W.keepIn K (.ref mf2) = true)
    (ma3 : PySem.W.findIn K (.ref CM) "value" = some (some (.ref mf3))) (mi3 : PySem.W.isFn K (.ref mf3) = true) (ml3 : K.lookup mf3 = some ⟨moc3, mod3, .func (PySem.W.fnOf "value" "Meaning.value" (defArgs s_Meaning_value) (defBody s_Meaning_value) (defScope s_Meaning_value) .none mkV3 mdc3 mpm3 man3 mcd3 mct3), msl3⟩) (mc3 : PySem.W.codeIn K mcd3 "Meaning.value" = true) (mk3 : PySem.W.keepIn K (.ref mf3) = true)
    (raC : PySem.W.nsIn K mainGlobals "Row" = some (some (.ref CR)))
    (rpg : PySem.W.plainGet K CR Str.empty = true)
    (rhd : PySem.W.hasDictIn K CR = true)
    (rpo : PySem.W.plainOver K CR = true)
    (rsa : PySem.W.findIn K (.ref CR) "__setattr__" = some (some (.builtin "object.__setattr__")))
    (rmk : PySem.W.makesIn K CR = true)
    (rkc : PySem.W.keepIn K (.ref CR) = true)
    (rnt : PySem.W.findIn K (.ref CR) "tree" = some none)
    (rnp : PySem.W.findIn K (.ref CR) "pairs" = some none)
    (rne_ : PySem.W.findIn K (.ref CR) "effects" = some none)
    (rne : PySem.W.findIn K (.ref CR) "__ne__" = some (some (.builtin "object.__ne__")))
    (rob : PySem.W.subIn K (.ref CR) (.type "object") = some true)
    (riC : PySem.W.isClsIn K CR = true)
    (rtC : PySem.W.typeIn K (.ref CR) = some (.type "type"))
    (rha : PySem.W.findIn K (.ref CR) "__class__" = some (some (.builtin "object.__class__")))
    (rhn : PySem.W.specialIn K (.builtin "object.__class__") "__get__" = some (some (.builtin "getset_descriptor.__get__")))
    (rhtk : PySem.W.takesIn K (.builtin "object.__class__") = some true)
    (rhm : PySem.W.mroIn K CR (.type "object") = some true)
    (rsf : PySem.W.selfFirst K CR = true)
    (ra0 : PySem.W.findIn K (.ref CR) "__init__" = some (some (.ref rf0))) (ri0 : PySem.W.isFn K (.ref rf0) = true) (rl0 : K.lookup rf0 = some ⟨roc0, rod0, .func (PySem.W.fnOf "__init__" "Row.__init__" (defArgs s_Row_init) (defBody s_Row_init) (defScope s_Row_init) .none rkV0 rdc0 rpm0 ran0 rcd0 rct0), rsl0⟩) (rc0 : PySem.W.codeIn K rcd0 "Row.__init__" = true) (rk0 : PySem.W.keepIn K (.ref rf0) = true)
    (ra1 : PySem.W.findIn K (.ref CR) "__eq__" = some (some (.ref rf1))) (ri1 : PySem.W.isFn K (.ref rf1) = true) (rl1 : K.lookup rf1 = some ⟨roc1, rod1, .func (PySem.W.fnOf "__eq__" "Row.__eq__" (defArgs s_Row_eq) (defBody s_Row_eq) (defScope s_Row_eq) .none rkV1 rdc1 rpm1 ran1 rcd1 rct1), rsl1⟩) (rc1 : PySem.W.codeIn K rcd1 "Row.__eq__" = true) (rk1 : PySem.W.keepIn K (.ref rf1) = true)
    (ra2 : PySem.W.findIn K (.ref CR) "__call__" = some (some (.ref rf2))) (ri2 : PySem.W.isFn K (.ref rf2) = true) (rl2 : K.lookup rf2 = some ⟨roc2, rod2, .func (PySem.W.fnOf "__call__" "Row.__call__" (defArgs s_Row_call) (defBody s_Row_call) (defScope s_Row_call) .none rkV2 rdc2 rpm2 ran2 rcd2 rct2), rsl2⟩) (rc2 : PySem.W.codeIn K rcd2 "Row.__call__" = true) (rk2 : PySem.W.keepIn K (.ref rf2) = true)
    (ra3 : PySem.W.findIn K (.ref CR) "__add__" = some (some (.ref rf3))) (ri3 : PySem.W.isFn K (.ref rf3) = true) (rl3 : K.lookup rf3 = some ⟨roc3, rod3, .func (PySem.W.fnOf "__add__" "Row.__add__" (defArgs s_Row_add) (defBody s_Row_add) (defScope s_Row_add) .none rkV3 rdc3 rpm3 ran3 rcd3 rct3), rsl3⟩) (rc3 : PySem.W.codeIn K rcd3 "Row.__add__" = true) (rk3 : PySem.W.keepIn K (.ref rf3) = true)
    (ra4 : PySem.W.findIn K (.ref CR) "deeds" = some (some (.ref rf4))) (ri4 : PySem.W.isFn K (.ref rf4) = true) (rl4 : K.lookup rf4 = some ⟨roc4, rod4, .func (PySem.W.fnOf "deeds" "Row.deeds" (defArgs s_Row_deeds) (defBody s_Row_deeds) (defScope s_Row_deeds) .none rkV4 rdc4 rpm4 ran4 rcd4 rct4), rsl4⟩) (rc4 : PySem.W.codeIn K rcd4 "Row.deeds" = true) (rk4 : PySem.W.keepIn K (.ref rf4) = true)
    (ra5 : PySem.W.findIn K (.ref CR) "maps" = some (some (.ref rf5))) (ri5 : PySem.W.isFn K (.ref rf5) = true) (rl5 : K.lookup rf5 = some ⟨roc5, rod5, .func (PySem.W.fnOf "maps" "Row.maps" (defArgs s_Row_maps) (defBody s_Row_maps) (defScope s_Row_maps) .none rkV5 rdc5 rpm5 ran5 rcd5 rct5), rsl5⟩) (rc5 : PySem.W.codeIn K rcd5 "Row.maps" = true) (rk5 : PySem.W.keepIn K (.ref rf5) = true) :
    ∃ C : Addr, TxT K mg C ∧ TxN K C ∧ C8.InsC K C ∧ (∃ (f : Addr) (fd : FuncData), Fun K "__init__" "Tree.__init__" s_Tree_init f fd ∧ Mk K C f ∧ Binds K fd ["self", "rows"] []) ∧ Nonempty (MethAt K C "__eq__" "Tree.__eq__" s_Tree_eq ["self", "other"]) ∧ Nonempty (MethAt K C "__contains__" "Tree.__contains__" s_Tree_contains ["self", "x"]) ∧ Nonempty (MethAt K C "rows" "Tree.rows" s_Tree_rows ["self"]) ∧ Nonempty (MethAt K C "folder" "Tree.folder" s_Tree_folder ["self", "box"]) ∧ Nonempty (MethAt K C "kind" "Tree.kind" s_Tree_kind ["self", "box"]) ∧ Nonempty (MethAt K C "price" "Tree.price" s_Tree_price ["self", "box"]) ∧ Nonempty (MethAt K C "inside" "Tree.inside" s_Tree_inside ["self", "box"]) ∧ Nonempty (MethAt K C "below" "Tree.below" s_Tree_below ["self", "box"]) ∧ Nonempty (MethAt K C "way" "Tree.way" s_Tree_way ["self", "box"]) ∧ Nonempty (MethAt K C "steps" "Tree.steps" s_Tree_steps ["self", "one", "other"]) ∧ Nonempty (MethAt K C "more" "Tree.more" s_Tree_more ["self", "row"]) ∧ Nonempty (MethAt K C "less" "Tree.less" s_Tree_less ["self", "box"]) ∧ Nonempty (MethAt K C "moved" "Tree.moved" s_Tree_moved ["self", "box", "folder"]) ∧ Nonempty (MethAt K C "opened" "Tree.opened" s_Tree_opened ["self", "box", "rows"]) ∧ ∃ CM : Addr, TxM K mg CM ∧ TxN K CM ∧ C8.InsC K CM ∧ (∃ (f : Addr) (fd : FuncData) (Te : Addr) (ds : List Value), FunD K "__init__" "Meaning.__init__" (defArgs s_Meaning_init) (defBody s_Meaning_init) (defScope s_Meaning_init) [V.ref Te] [] f fd ∧ Mk K CM f ∧ Binds K fd ["self", "tree", "default", "turns"] [] ∧ Binds K fd ["self", "tree", "default", "turns"] ds ∧ Vals [V.ref Te] ds ∧ ∀ H, SqT K H Te []) ∧ Nonempty (MethAt K CM "__eq__" "Meaning.__eq__" s_Meaning_eq ["self", "other"]) ∧ Nonempty (MethAt K CM "states" "Meaning.states" s_Meaning_states ["self"]) ∧ Nonempty (MethAt K CM "value" "Meaning.value" s_Meaning_value ["self", "box"]) ∧ ∃ CR : Addr, TxR K mg CR ∧ TxN K CR ∧ PySem.W.selfFirst K CR = true ∧ C8.InsC K CR ∧ (∃ (f : Addr) (fd : FuncData), Fun K "__init__" "Row.__init__" s_Row_init f fd ∧ Mk K CR f ∧ Binds K fd ["self", "tree", "deeds"] []) ∧ Nonempty (MethAt K CR "__eq__" "Row.__eq__" s_Row_eq ["self", "other"]) ∧ Nonempty (MethAt K CR "__call__" "Row.__call__" s_Row_call ["self", "meaning"]) ∧ Nonempty (MethAt K CR "__add__" "Row.__add__" s_Row_add ["self", "other"]) ∧ Nonempty (MethAt K CR "deeds" "Row.deeds" s_Row_deeds ["self"]) ∧ Nonempty (MethAt K CR "maps" "Row.maps" s_Row_maps ["self"]) :=
  by
  have FD : FunD K "__init__" "Meaning.__init__" (defArgs s_Meaning_init) (defBody s_Meaning_init) (defScope s_Meaning_init) [V.ref Te] [] mf0 _ := ⟨⟨_, _, _, _, _, _, _, _, _, _, rfl, ml0, mc0, .inr ⟨by simp, Td, _, [.ref Te], nT, rfl, mlT, by rw [← mvT], .cons rfl .nil⟩, .inl rfl⟩, mk0⟩
  obtain ⟨ds1, v1, b1⟩ := FD.binds1 (ps := ["self", "tree", "default", "turns"]) 3 0 (by simp) rfl (fun T kV doc pm an cdv ct us its hu hi => match us, hu, its, hi with | [_, _, _], _, [_], _ => ⟨_, rfl, rfl⟩)
  obtain ⟨ds2, v2, b2⟩ := FD.binds1 (ps := ["self", "tree", "default", "turns"]) 4 1 (by simp) rfl (fun T kV doc pm an cdv ct us its hu hi => match us, hu, its, hi with | [_, _, _, _], _, [_], _ => ⟨_, rfl, rfl⟩)
  cases v2
  exact ⟨C, ⟨⟨pg, hd, po, sa⟩, nq, nf, nk, np, PySem.W.mg_of X G aC⟩, ⟨ne, ob⟩, ⟨⟨pg, hd, po, sa⟩, ha, hn, htk, hm, kit_me⟩, ⟨f0, _, fun_mk l0 c0 k0, ⟨mk, a0, i0, kc⟩, (fun_mk l0 c0 k0).binds (fun _ _ _ _ _ _ us hl => match us, hl with | [_, _], _ => rfl)⟩, methAt a1 i1 l1 c1 k1 (fun _ _ _ _ _ _ us hl => match us, hl with | [_, _], _ => rfl), methAt a2 i2 l2 c2 k2 (fun _ _ _ _ _ _ us hl => match us, hl with | [_, _], _ => rfl), methAt a3 i3 l3 c3 k3 (fun _ _ _ _ _ _ us hl => match us, hl with | [_], _ => rfl), methAt a4 i4 l4 c4 k4 (fun _ _ _ _ _ _ us hl => match us, hl with | [_, _], _ => rfl), methAt a5 i5 l5 c5 k5 (fun _ _ _ _ _ _ us hl => match us, hl with | [_, _], _ => rfl), methAt a6 i6 l6 c6 k6 (fun _ _ _ _ _ _ us hl => match us, hl with | [_, _], _ => rfl), methAt a7 i7 l7 c7 k7 (fun _ _ _ _ _ _ us hl => match us, hl with | [_, _], _ => rfl), methAt a8 i8 l8 c8 k8 (fun _ _ _ _ _ _ us hl => match us, hl with | [_, _], _ => rfl), methAt a9 i9 l9 c9 k9 (fun _ _ _ _ _ _ us hl => match us, hl with | [_, _], _ => rfl), methAt a10 i10 l10 c10 k10 (fun _ _ _ _ _ _ us hl => match us, hl with | [_, _, _], _ => rfl), methAt a11 i11 l11 c11 k11 (fun _ _ _ _ _ _ us hl => match us, hl with | [_, _], _ => rfl), methAt a12 i12 l12 c12 k12 (fun _ _ _ _ _ _ us hl => match us, hl with | [_, _], _ => rfl), methAt a13 i13 l13 c13 k13 (fun _ _ _ _ _ _ us hl => match us, hl with | [_, _, _], _ => rfl), methAt a14 i14 l14 c14 k14 (fun _ _ _ _ _ _ us hl => match us, hl with | [_, _, _], _ => rfl), CM, ⟨⟨mpg, mhd, mpo, msa⟩, mnt, mnd, mnu, mnk, PySem.W.mg_of X G maC⟩, ⟨mne, mob⟩, ⟨⟨mpg, mhd, mpo, msa⟩, mha, mhn, mhtk, mhm, kit_me⟩, ⟨mf0, _, Te, ds1, FD, ⟨mmk, ma0, mi0, mkc⟩, b2, b1, v1, fun H => .inr ⟨_, _, _, mlE, rfl, rfl, by rw [← Array.length_toList, mvE]; exact Nat.zero_le _, by rw [mvE]; exact .nil⟩⟩, methAt ma1 mi1 ml1 mc1 mk1 (fun _ _ _ _ _ _ us hl => match us, hl with | [_, _], _ => rfl), methAt ma2 mi2 ml2 mc2 mk2 (fun _ _ _ _ _ _ us hl => match us, hl with | [_], _ => rfl), methAt ma3 mi3 ml3 mc3 mk3 (fun _ _ _ _ _ _ us hl => match us, hl with | [_, _], _ => rfl), CR, ⟨⟨rpg, rhd, rpo, rsa⟩, rnt, rnp, rne_, PySem.W.mg_of X G raC⟩, ⟨rne, rob⟩, rsf, ⟨⟨rpg, rhd, rpo, rsa⟩, rha, rhn, rhtk, rhm, kit_me⟩, ⟨rf0, _, fun_mk rl0 rc0 rk0, ⟨rmk, ra0, ri0, rkc⟩, (fun_mk rl0 rc0 rk0).binds (fun _ _ _ _ _ _ us hl => match us, hl with | [_, _, _], _ => rfl)⟩, methAt ra1 ri1 rl1 rc1 rk1 (fun _ _ _ _ _ _ us hl => match us, hl with | [_, _], _ => rfl), methAt ra2 ri2 rl2 rc2 rk2 (fun _ _ _ _ _ _ us hl => match us, hl with | [_, _], _ => rfl), methAt ra3 ri3 rl3 rc3 rk3 (fun _ _ _ _ _ _ us hl => match us, hl with | [_, _], _ => rfl), methAt ra4 ri4 rl4 rc4 rk4 (fun _ _ _ _ _ _ us hl => match us, hl with | [_], _ => rfl), methAt ra5 ri5 rl5 rc5 rk5 (fun _ _ _ _ _ _ us hl => match us, hl with | [_], _ => rfl)⟩
theorem freeAll {K : PySem.W.Frag} {h : Heap} {mg : Str → Option Value} (X : K.In h) (G : h.Ns mainGlobals mg)
    (z0 : PySem.W.nsIn K mainGlobals "len" = some none) (z1 : PySem.W.nsIn K mainGlobals "abs" = some none) (z2 : PySem.W.nsIn K mainGlobals "int" = some none) (z3 : PySem.W.nsIn K mainGlobals "str" = some none) (z4 : PySem.W.nsIn K mainGlobals "bool" = some none) (z5 : PySem.W.nsIn K mainGlobals "list" = some none) (z6 : PySem.W.nsIn K mainGlobals "tuple" = some none) (z7 : PySem.W.nsIn K mainGlobals "dict" = some none) (z8 : PySem.W.nsIn K mainGlobals "range" = some none) (z9 : PySem.W.nsIn K mainGlobals "enumerate" = some none) (z10 : PySem.W.nsIn K mainGlobals "isinstance" = some none) (z11 : PySem.W.nsIn K mainGlobals "all" = some none) (z12 : PySem.W.nsIn K mainGlobals "min" = some none) (z13 : PySem.W.nsIn K mainGlobals "sorted" = some none) : TxB mg ∧ mg "min" = none ∧ mg "sorted" = none :=
  ⟨⟨PySem.W.mg_none_of X G z0, PySem.W.mg_none_of X G z1, PySem.W.mg_none_of X G z2, PySem.W.mg_none_of X G z3, PySem.W.mg_none_of X G z4, PySem.W.mg_none_of X G z5, PySem.W.mg_none_of X G z6, PySem.W.mg_none_of X G z7, PySem.W.mg_none_of X G z8, PySem.W.mg_none_of X G z9, PySem.W.mg_none_of X G z10, PySem.W.mg_none_of X G z11⟩, PySem.W.mg_none_of X G z12, PySem.W.mg_none_of X G z13⟩
theorem constAll {K : PySem.W.Frag} {h : Heap} {mg : Str → Option Value} (X : K.In h) (G : h.Ns mainGlobals mg) (num : DefAt K mg "is_number" s_is_number ["thing", "least"]) {t1 t2 t3 : Tok} {kt : Addr} {od : Option Addr} {its : Array Value} {n : Nat} {sl : Array (Option Value)}
    (b1 : PySem.W.nsIn K mainGlobals "TOP" = some (some (.str "top" t1))) (b2 : PySem.W.nsIn K mainGlobals "FOLDER" = some (some (.str "folder" t2))) (b3 : PySem.W.nsIn K mainGlobals "LONGEST_NAME" = some (some (.int 8 t3))) (b4 : PySem.W.nsIn K mainGlobals "KINDS" = some (some (.ref kt)))
    (b5 : K.lookup kt = some ⟨.type "tuple", od, .seq its n, sl⟩) (b6 : its.size ≤ sizeLine) (b7 : Vals (kinds3.map V.str) its.toList) : Nonempty (TxC K mg) :=
  ⟨⟨⟨t1, PySem.W.mg_of X G b1⟩, ⟨t2, PySem.W.mg_of X G b2⟩, ⟨t3, PySem.W.mg_of X G b3⟩, kt, PySem.W.mg_of X G b4, num, ⟨_, its, n, b5, rfl, rfl, b6, b7⟩⟩⟩
theorem constD {K : PySem.W.Frag} {h : Heap} {mg : Str → Option Value} {w : World} (X : K.In h) (G : h.Ns mainGlobals mg) {t1 t2 k1 k2 k3 k4 : Tok} {wt fd : Addr} {od : Option Addr} {its : Array Value} {n m : Nat} {sl : Array (Option Value)} {es : Array DictEntry}
    (d0 : PySem.W.nsIn K mainGlobals "FLIP" = some (some (.str "flip" t1))) (d1 : PySem.W.nsIn K mainGlobals "KEEP" = some (some (.str "keep" t2))) (d2 : PySem.W.nsIn K mainGlobals "WORDS" = some (some (.ref wt))) (d3 : K.lookup wt = some ⟨.type "tuple", od, .seq its n, sl⟩) (d4 : its.size ≤ sizeLine) (d5 : Vals (words3.map V.str) its.toList)
    (d6 : PySem.W.nsIn K mainGlobals "FLIPPED" = some (some (.ref fd))) (d7 : K.lookup fd = some ⟨.type "dict", none, .dict es m, #[]⟩) (d8 : PySem.W.KeysLit w.params es.toList)
    (d9 : PySem.W.nsIn K fd "keep" = some (some (.str "flip" k1))) (d10 : PySem.W.nsIn K fd "on" = some (some (.str "off" k2))) (d11 : PySem.W.nsIn K fd "off" = some (some (.str "on" k3))) (d12 : PySem.W.nsIn K fd "flip" = some (some (.str "keep" k4))) : Nonempty (TxD K mg w) :=
  ⟨⟨⟨t1, PySem.W.mg_of X G d0⟩, ⟨t2, PySem.W.mg_of X G d1⟩, wt, PySem.W.mg_of X G d2, ⟨_, its, n, d3, rfl, rfl, d4, d5⟩, fd, PySem.W.mg_of X G d6, fun z hz => by
    simp only [words4, List.mem_cons, List.not_mem_nil, or_false] at hz
    rcases hz with rfl | rfl | rfl | rfl
    · exact ⟨es, m, _, d7, d8, d9, ⟨k1, by rw [show flp "keep" = ("flip" : Str) from by decide +kernel]⟩⟩
    · exact ⟨es, m, _, d7, d8, d10, ⟨k2, by rw [show flp "on" = ("off" : Str) from by decide +kernel]⟩⟩
    · exact ⟨es, m, _, d7, d8, d11, ⟨k3, by rw [show flp "off" = ("on" : Str) from by decide +kernel]⟩⟩
    · exact ⟨es, m, _, d7, d8, d12, ⟨k4, by rw [show flp "flip" = ("keep" : Str) from by decide +kernel]⟩⟩⟩⟩
theorem constF {K : PySem.W.Frag} {h : Heap} {mg : Str → Option Value} (X : K.In h) (G : h.Ns mainGlobals mg) {t1 : Tok} {wt : Addr} {od : Option Addr} {its : Array Value} {n : Nat} {sl : Array (Option Value)}
    (f0 : PySem.W.nsIn K mainGlobals "ON" = some (some (.str "on" t1))) (f2 : PySem.W.nsIn K mainGlobals "FIRM" = some (some (.ref wt))) (f3 : K.lookup wt = some ⟨.type "tuple", od, .seq its n, sl⟩) (f4 : its.size ≤ sizeLine) (f5 : Vals ((["on", "off"] : List Str).map V.str) its.toList) : Nonempty (TxF K mg) :=
  ⟨⟨⟨t1, PySem.W.mg_of X G f0⟩, wt, PySem.W.mg_of X G f2, ⟨_, its, n, f3, rfl, rfl, f4, f5⟩⟩⟩
theorem fun_fnIn {K : PySem.W.Frag} {x q : Str} {st : Stmt} {f : Addr} {fd : FuncData} (F : Fun K x q st f fd) : PySem.W.fnIn K f = true := by
  obtain ⟨oc, od, kV, doc, pm, an, cdv, ct, osl, _, l, _⟩ := F.ex
  unfold PySem.W.fnIn
  rw [l]
theorem constV {K : PySem.W.Frag} {h : Heap} {mg : Str → Option Value} (X : K.In h) (G : h.Ns mainGlobals mg) {t1 t2 : Tok} {wt : Addr} {od : Option Addr} {its : Array Value} {n : Nat} {sl : Array (Option Value)}
    (f0 : PySem.W.nsIn K mainGlobals "TOLD" = some (some (.str "told" t1))) (f1 : PySem.W.nsIn K mainGlobals "MEANT" = some (some (.str "meant" t2))) (f2 : PySem.W.nsIn K mainGlobals "RULES" = some (some (.ref wt))) (f3 : K.lookup wt = some ⟨.type "tuple", od, .seq its n, sl⟩) (f4 : its.size ≤ sizeLine) (f5 : Vals (rules3.map V.str) its.toList) : Nonempty (TxV K mg) :=
  ⟨⟨⟨t1, PySem.W.mg_of X G f0⟩, ⟨t2, PySem.W.mg_of X G f1⟩, wt, PySem.W.mg_of X G f2, ⟨_, its, n, f3, rfl, rfl, f4, f5⟩⟩⟩
theorem constO {K : PySem.W.Frag} {h : Heap} {mg : Str → Option Value} (X : K.In h) (G : h.Ns mainGlobals mg) {t1 t2 : Tok} (f0 : PySem.W.nsIn K mainGlobals "OFF" = some (some (.str "off" t1))) (f1 : PySem.W.nsIn K mainGlobals "SHUT" = some (some (.str "shut" t2))) : (∃ t, mg "OFF" = some (.str "off" t)) ∧ ∃ t, mg "SHUT" = some (.str "shut" t) := ⟨⟨t1, PySem.W.mg_of X G f0⟩, t2, PySem.W.mg_of X G f1⟩
theorem walk {l : PySem.W.OpenLaw} {q : Program} {loose : List Str} {XP : (Str → Option Value) → Heap → Prop} {YP : World → Heap → Prop} {d : DefRec} {K : Params → PySem.W.Frag} (hn : l.most = some 63) (hdf : d.params.defaults = [])
    (hY : ∀ (w : World) (h : Heap), YP w h → (K w.params).In h)
    (F : ∀ (w : World) (mg : Str → Option Value) (fa : Addr) (h : Heap), (K w.params).In h → h.Ns mainGlobals mg → mg d.name = some (.ref fa) →
      ∃ fd : FuncData, (∀ (s : Shared) (u : Value), BindsTo s fd ⟨[u], []⟩ [("_law_script", u)]) ∧ ∀ base : Heap, (K w.params).In base → base.Ns mainGlobals mg → FnOk l.prog w (K w.params) mg base CX0 14 fa fd ["_law_script"] (spLaw (K w.params))) :
    PySem.W.WalkO q loose XP YP l.row.toRowW d [] (fun f vs => PySem.call f vs) :=
  L2.walk_of (n := 63) (k := 14) (x := "_law_script") (CX := fun _ => CX0) (sp := fun w => spLaw (K w.params)) hn (by decide) hdf ⟨rfl, by decide, by decide⟩ hY F (fun _ _ a ns hl _ hS => ⟨a, ns, rfl, hS, hl, fun _ => rfl⟩) fun _ _ _ _ _ z => z
end Ts

set_option maxRecDepth 100000
open PySem PySem.W PyProof.Rows in
set_option maxRecDepth 100000 in
set_option maxHeartbeats 0 in
theorem PySem.Challenge.cw_turnsets_k21_calls_by_names_holds : PySem.Challenge.rw_turnsets_k21_calls_by_names.Holds := by
  w_on; o_law; k_head; (case hw => w_witness2)
  k_fill
  refine Ts.walk (l := PySem.Challenge.rw_turnsets_k21_calls_by_names) rfl rfl (fun w h Y => PySem.W.kIn_of Y) ?F
  case F =>
    intro w mg fa h KX G hmg
    obtain ⟨Disname, _⟩ : ∃ D : Ts.DefAt _ mg "is_name" Ts.s_is_name ["thing"], ∀ (s : Shared) (us : List Value), us.length = (["thing"] : List Str).length → BindsTo s D.fd ⟨us, []⟩ ((["thing"] : List Str).zip us) := by
      refine' Ts.defAt KX G ?a ?l ?c ?k ?b
      (case a => k_is)
      (case l => k_is)
      (case c => k_is)
      (case k => k_is)
      (case b => exact fun _ _ _ _ _ _ us hl => match us, hl with | [_], _ => rfl)
    obtain ⟨Disnumber, _⟩ : ∃ D : Ts.DefAt _ mg "is_number" Ts.s_is_number ["thing", "least"], ∀ (s : Shared) (us : List Value), us.length = (["thing", "least"] : List Str).length → BindsTo s D.fd ⟨us, []⟩ ((["thing", "least"] : List Str).zip us) := by
      refine' Ts.defAt KX G ?a ?l ?c ?k ?b
      (case a => k_is)
      (case l => k_is)
      (case c => k_is)
      (case k => k_is)
      (case b => exact fun _ _ _ _ _ _ us hl => match us, hl with | [_, _], _ => rfl)
    obtain ⟨Disprice, _⟩ : ∃ D : Ts.DefAt _ mg "is_price" Ts.s_is_price ["thing"], ∀ (s : Shared) (us : List Value), us.length = (["thing"] : List Str).length → BindsTo s D.fd ⟨us, []⟩ ((["thing"] : List Str).zip us) := by
      refine' Ts.defAt KX G ?a ?l ?c ?k ?b
      (case a => k_is)
      (case l => k_is)
      (case c => k_is)
      (case k => k_is)
      (case b => exact fun _ _ _ _ _ _ us hl => match us, hl with | [_], _ => rfl)
    obtain ⟨Disrow, _⟩ : ∃ D : Ts.DefAt _ mg "is_row" Ts.s_is_row ["thing", "taken", "homes"], ∀ (s : Shared) (us : List Value), us.length = (["thing", "taken", "homes"] : List Str).length → BindsTo s D.fd ⟨us, []⟩ ((["thing", "taken", "homes"] : List Str).zip us) := by
      refine' Ts.defAt KX G ?a ?l ?c ?k ?b
      (case a => k_is)
      (case l => k_is)
      (case c => k_is)
      (case k => k_is)
      (case b => exact fun _ _ _ _ _ _ us hl => match us, hl with | [_, _, _], _ => rfl)
    obtain ⟨Dcheckrows, _⟩ : ∃ D : Ts.DefAt _ mg "check_rows" Ts.s_check_rows ["rows", "names", "folders"], ∀ (s : Shared) (us : List Value), us.length = (["rows", "names", "folders"] : List Str).length → BindsTo s D.fd ⟨us, []⟩ ((["rows", "names", "folders"] : List Str).zip us) := by
      refine' Ts.defAt KX G ?a ?l ?c ?k ?b
      (case a => k_is)
      (case l => k_is)
      (case c => k_is)
      (case k => k_is)
      (case b => exact fun _ _ _ _ _ _ us hl => match us, hl with | [_, _, _], _ => rfl)
    obtain ⟨Dcheckbox, _⟩ : ∃ D : Ts.DefAt _ mg "check_box" Ts.s_check_box ["tree", "thing"], ∀ (s : Shared) (us : List Value), us.length = (["tree", "thing"] : List Str).length → BindsTo s D.fd ⟨us, []⟩ ((["tree", "thing"] : List Str).zip us) := by
      refine' Ts.defAt KX G ?a ?l ?c ?k ?b
      (case a => k_is)
      (case l => k_is)
      (case c => k_is)
      (case k => k_is)
      (case b => exact fun _ _ _ _ _ _ us hl => match us, hl with | [_, _], _ => rfl)
    obtain ⟨Displace, _⟩ : ∃ D : Ts.DefAt _ mg "is_place" Ts.s_is_place ["tree", "thing"], ∀ (s : Shared) (us : List Value), us.length = (["tree", "thing"] : List Str).length → BindsTo s D.fd ⟨us, []⟩ ((["tree", "thing"] : List Str).zip us) := by
      refine' Ts.defAt KX G ?a ?l ?c ?k ?b
      (case a => k_is)
      (case l => k_is)
      (case c => k_is)
      (case k => k_is)
      (case b => exact fun _ _ _ _ _ _ us hl => match us, hl with | [_, _], _ => rfl)
    obtain ⟨Dcheckplace, _⟩ : ∃ D : Ts.DefAt _ mg "check_place" Ts.s_check_place ["tree", "thing"], ∀ (s : Shared) (us : List Value), us.length = (["tree", "thing"] : List Str).length → BindsTo s D.fd ⟨us, []⟩ ((["tree", "thing"] : List Str).zip us) := by
      refine' Ts.defAt KX G ?a ?l ?c ?k ?b
      (case a => k_is)
      (case l => k_is)
      (case c => k_is)
      (case k => k_is)
      (case b => exact fun _ _ _ _ _ _ us hl => match us, hl with | [_, _], _ => rfl)
    obtain ⟨Dcheckturns, _⟩ : ∃ D : Ts.DefAt _ mg "check_turns" Ts.s_check_turns ["tree", "turns"], ∀ (s : Shared) (us : List Value), us.length = (["tree", "turns"] : List Str).length → BindsTo s D.fd ⟨us, []⟩ ((["tree", "turns"] : List Str).zip us) := by
      refine' Ts.defAt KX G ?a ?l ?c ?k ?b
      (case a => k_is)
      (case l => k_is)
      (case c => k_is)
      (case k => k_is)
      (case b => exact fun _ _ _ _ _ _ us hl => match us, hl with | [_, _], _ => rfl)
    obtain ⟨Dchecktrees, _⟩ : ∃ D : Ts.DefAt _ mg "check_trees" Ts.s_check_trees ["one", "other"], ∀ (s : Shared) (us : List Value), us.length = (["one", "other"] : List Str).length → BindsTo s D.fd ⟨us, []⟩ ((["one", "other"] : List Str).zip us) := by
      refine' Ts.defAt KX G ?a ?l ?c ?k ?b
      (case a => k_is)
      (case l => k_is)
      (case c => k_is)
      (case k => k_is)
      (case b => exact fun _ _ _ _ _ _ us hl => match us, hl with | [_, _], _ => rfl)
    obtain ⟨Dvaluesof, _⟩ : ∃ D : Ts.DefAt _ mg "values_of" Ts.s_values_of ["tree", "default", "turns"], ∀ (s : Shared) (us : List Value), us.length = (["tree", "default", "turns"] : List Str).length → BindsTo s D.fd ⟨us, []⟩ ((["tree", "default", "turns"] : List Str).zip us) := by
      refine' Ts.defAt KX G ?a ?l ?c ?k ?b
      (case a => k_is)
      (case l => k_is)
      (case c => k_is)
      (case k => k_is)
      (case b => exact fun _ _ _ _ _ _ us hl => match us, hl with | [_, _, _], _ => rfl)
    obtain ⟨Dwithvalues, _⟩ : ∃ D : Ts.DefAt _ mg "with_values" Ts.s_with_values ["tree", "values"], ∀ (s : Shared) (us : List Value), us.length = (["tree", "values"] : List Str).length → BindsTo s D.fd ⟨us, []⟩ ((["tree", "values"] : List Str).zip us) := by
      refine' Ts.defAt KX G ?a ?l ?c ?k ?b
      (case a => k_is)
      (case l => k_is)
      (case c => k_is)
      (case k => k_is)
      (case b => exact fun _ _ _ _ _ _ us hl => match us, hl with | [_, _], _ => rfl)
    obtain ⟨Dparting, _⟩ : ∃ D : Ts.DefAt _ mg "parting" Ts.s_parting ["one", "other"], ∀ (s : Shared) (us : List Value), us.length = (["one", "other"] : List Str).length → BindsTo s D.fd ⟨us, []⟩ ((["one", "other"] : List Str).zip us) := by
      refine' Ts.defAt KX G ?a ?l ?c ?k ?b
      (case a => k_is)
      (case l => k_is)
      (case c => k_is)
      (case k => k_is)
      (case b => exact fun _ _ _ _ _ _ us hl => match us, hl with | [_, _], _ => rfl)
    obtain ⟨Dmiddle, _⟩ : ∃ D : Ts.DefAt _ mg "middle" Ts.s_middle ["meanings"], ∀ (s : Shared) (us : List Value), us.length = (["meanings"] : List Str).length → BindsTo s D.fd ⟨us, []⟩ ((["meanings"] : List Str).zip us) := by
      refine' Ts.defAt KX G ?a ?l ?c ?k ?b
      (case a => k_is)
      (case l => k_is)
      (case c => k_is)
      (case k => k_is)
      (case b => exact fun _ _ _ _ _ _ us hl => match us, hl with | [_], _ => rfl)
    obtain ⟨Dcheckunlocked, _⟩ : ∃ D : Ts.DefAt _ mg "check_unlocked" Ts.s_check_unlocked ["tree"], ∀ (s : Shared) (us : List Value), us.length = (["tree"] : List Str).length → BindsTo s D.fd ⟨us, []⟩ ((["tree"] : List Str).zip us) := by
      refine' Ts.defAt KX G ?a ?l ?c ?k ?b
      (case a => k_is)
      (case l => k_is)
      (case c => k_is)
      (case k => k_is)
      (case b => exact fun _ _ _ _ _ _ us hl => match us, hl with | [_], _ => rfl)
    obtain ⟨Disdeed, _⟩ : ∃ D : Ts.DefAt _ mg "is_deed" Ts.s_is_deed ["tree", "thing"], ∀ (s : Shared) (us : List Value), us.length = (["tree", "thing"] : List Str).length → BindsTo s D.fd ⟨us, []⟩ ((["tree", "thing"] : List Str).zip us) := by
      refine' Ts.defAt KX G ?a ?l ?c ?k ?b
      (case a => k_is)
      (case l => k_is)
      (case c => k_is)
      (case k => k_is)
      (case b => exact fun _ _ _ _ _ _ us hl => match us, hl with | [_, _], _ => rfl)
    obtain ⟨Dcheckdeeds, _⟩ : ∃ D : Ts.DefAt _ mg "check_deeds" Ts.s_check_deeds ["tree", "deeds"], ∀ (s : Shared) (us : List Value), us.length = (["tree", "deeds"] : List Str).length → BindsTo s D.fd ⟨us, []⟩ ((["tree", "deeds"] : List Str).zip us) := by
      refine' Ts.defAt KX G ?a ?l ?c ?k ?b
      (case a => k_is)
      (case l => k_is)
      (case c => k_is)
      (case k => k_is)
      (case b => exact fun _ _ _ _ _ _ us hl => match us, hl with | [_, _], _ => rfl)
    obtain ⟨Deffectsof, _⟩ : ∃ D : Ts.DefAt _ mg "effects_of" Ts.s_effects_of ["tree", "deeds"], ∀ (s : Shared) (us : List Value), us.length = (["tree", "deeds"] : List Str).length → BindsTo s D.fd ⟨us, []⟩ ((["tree", "deeds"] : List Str).zip us) := by
      refine' Ts.defAt KX G ?a ?l ?c ?k ?b
      (case a => k_is)
      (case l => k_is)
      (case c => k_is)
      (case k => k_is)
      (case b => exact fun _ _ _ _ _ _ us hl => match us, hl with | [_, _], _ => rfl)
    obtain ⟨Deffectaround, _⟩ : ∃ D : Ts.DefAt _ mg "effect_around" Ts.s_effect_around ["tree", "effects", "place"], ∀ (s : Shared) (us : List Value), us.length = (["tree", "effects", "place"] : List Str).length → BindsTo s D.fd ⟨us, []⟩ ((["tree", "effects", "place"] : List Str).zip us) := by
      refine' Ts.defAt KX G ?a ?l ?c ?k ?b
      (case a => k_is)
      (case l => k_is)
      (case c => k_is)
      (case k => k_is)
      (case b => exact fun _ _ _ _ _ _ us hl => match us, hl with | [_, _, _], _ => rfl)
    obtain ⟨Dentriesof, _⟩ : ∃ D : Ts.DefAt _ mg "entries_of" Ts.s_entries_of ["tree", "effects"], ∀ (s : Shared) (us : List Value), us.length = (["tree", "effects"] : List Str).length → BindsTo s D.fd ⟨us, []⟩ ((["tree", "effects"] : List Str).zip us) := by
      refine' Ts.defAt KX G ?a ?l ?c ?k ?b
      (case a => k_is)
      (case l => k_is)
      (case c => k_is)
      (case k => k_is)
      (case b => exact fun _ _ _ _ _ _ us hl => match us, hl with | [_, _], _ => rfl)
    obtain ⟨Drowof, _⟩ : ∃ D : Ts.DefAt _ mg "row_of" Ts.s_row_of ["tree", "effects"], ∀ (s : Shared) (us : List Value), us.length = (["tree", "effects"] : List Str).length → BindsTo s D.fd ⟨us, []⟩ ((["tree", "effects"] : List Str).zip us) := by
      refine' Ts.defAt KX G ?a ?l ?c ?k ?b
      (case a => k_is)
      (case l => k_is)
      (case c => k_is)
      (case k => k_is)
      (case b => exact fun _ _ _ _ _ _ us hl => match us, hl with | [_, _], _ => rfl)
    obtain ⟨Dunlike, _⟩ : ∃ D : Ts.DefAt _ mg "unlike" Ts.s_unlike ["one", "other"], ∀ (s : Shared) (us : List Value), us.length = (["one", "other"] : List Str).length → BindsTo s D.fd ⟨us, []⟩ ((["one", "other"] : List Str).zip us) := by
      refine' Ts.defAt KX G ?a ?l ?c ?k ?b
      (case a => k_is)
      (case l => k_is)
      (case c => k_is)
      (case k => k_is)
      (case b => exact fun _ _ _ _ _ _ us hl => match us, hl with | [_, _], _ => rfl)
    obtain ⟨Dentrycounts, _⟩ : ∃ D : Ts.DefAt _ mg "entry_counts" Ts.s_entry_counts ["tree", "loose", "firm"], ∀ (s : Shared) (us : List Value), us.length = (["tree", "loose", "firm"] : List Str).length → BindsTo s D.fd ⟨us, []⟩ ((["tree", "loose", "firm"] : List Str).zip us) := by
      refine' Ts.defAt KX G ?a ?l ?c ?k ?b
      (case a => k_is)
      (case l => k_is)
      (case c => k_is)
      (case k => k_is)
      (case b => exact fun _ _ _ _ _ _ us hl => match us, hl with | [_, _, _], _ => rfl)
    obtain ⟨Dfewesteffects, _⟩ : ∃ D : Ts.DefAt _ mg "fewest_effects" Ts.s_fewest_effects ["tree", "loose", "firm"], ∀ (s : Shared) (us : List Value), us.length = (["tree", "loose", "firm"] : List Str).length → BindsTo s D.fd ⟨us, []⟩ ((["tree", "loose", "firm"] : List Str).zip us) := by
      refine' Ts.defAt KX G ?a ?l ?c ?k ?b
      (case a => k_is)
      (case l => k_is)
      (case c => k_is)
      (case k => k_is)
      (case b => exact fun _ _ _ _ _ _ us hl => match us, hl with | [_, _, _], _ => rfl)
    obtain ⟨Dfewestdeeds, _⟩ : ∃ D : Ts.DefAt _ mg "fewest_deeds" Ts.s_fewest_deeds ["one", "other"], ∀ (s : Shared) (us : List Value), us.length = (["one", "other"] : List Str).length → BindsTo s D.fd ⟨us, []⟩ ((["one", "other"] : List Str).zip us) := by
      refine' Ts.defAt KX G ?a ?l ?c ?k ?b
      (case a => k_is)
      (case l => k_is)
      (case c => k_is)
      (case k => k_is)
      (case b => exact fun _ _ _ _ _ _ us hl => match us, hl with | [_, _], _ => rfl)
    obtain ⟨Dvaluebehind, _⟩ : ∃ D : Ts.DefAt _ mg "value_behind" Ts.s_value_behind ["effect", "value"], ∀ (s : Shared) (us : List Value), us.length = (["effect", "value"] : List Str).length → BindsTo s D.fd ⟨us, []⟩ ((["effect", "value"] : List Str).zip us) := by
      refine' Ts.defAt KX G ?a ?l ?c ?k ?b
      (case a => k_is)
      (case l => k_is)
      (case c => k_is)
      (case k => k_is)
      (case b => exact fun _ _ _ _ _ _ us hl => match us, hl with | [_, _], _ => rfl)
    obtain ⟨Dtoldvalues, _⟩ : ∃ D : Ts.DefAt _ mg "told_values" Ts.s_told_values ["meaning", "row"], ∀ (s : Shared) (us : List Value), us.length = (["meaning", "row"] : List Str).length → BindsTo s D.fd ⟨us, []⟩ ((["meaning", "row"] : List Str).zip us) := by
      refine' Ts.defAt KX G ?a ?l ?c ?k ?b
      (case a => k_is)
      (case l => k_is)
      (case c => k_is)
      (case k => k_is)
      (case b => exact fun _ _ _ _ _ _ us hl => match us, hl with | [_, _], _ => rfl)
    obtain ⟨Didle, _⟩ : ∃ D : Ts.DefAt _ mg "idle" Ts.s_idle ["row"], ∀ (s : Shared) (us : List Value), us.length = (["row"] : List Str).length → BindsTo s D.fd ⟨us, []⟩ ((["row"] : List Str).zip us) := by
      refine' Ts.defAt KX G ?a ?l ?c ?k ?b
      (case a => k_is)
      (case l => k_is)
      (case c => k_is)
      (case k => k_is)
      (case b => exact fun _ _ _ _ _ _ us hl => match us, hl with | [_], _ => rfl)
    obtain ⟨Dclash, _⟩ : ∃ D : Ts.DefAt _ mg "clash" Ts.s_clash ["one", "other"], ∀ (s : Shared) (us : List Value), us.length = (["one", "other"] : List Str).length → BindsTo s D.fd ⟨us, []⟩ ((["one", "other"] : List Str).zip us) := by
      refine' Ts.defAt KX G ?a ?l ?c ?k ?b
      (case a => k_is)
      (case l => k_is)
      (case c => k_is)
      (case k => k_is)
      (case b => exact fun _ _ _ _ _ _ us hl => match us, hl with | [_, _], _ => rfl)
    obtain ⟨Djoin, _⟩ : ∃ D : Ts.DefAt _ mg "join" Ts.s_join ["meaning", "one", "other"], ∀ (s : Shared) (us : List Value), us.length = (["meaning", "one", "other"] : List Str).length → BindsTo s D.fd ⟨us, []⟩ ((["meaning", "one", "other"] : List Str).zip us) := by
      refine' Ts.defAt KX G ?a ?l ?c ?k ?b
      (case a => k_is)
      (case l => k_is)
      (case c => k_is)
      (case k => k_is)
      (case b => exact fun _ _ _ _ _ _ us hl => match us, hl with | [_, _, _], _ => rfl)
    obtain ⟨Dcheckrule, _⟩ : ∃ D : Ts.DefAt _ mg "check_rule" Ts.s_check_rule ["thing"], ∀ (s : Shared) (us : List Value), us.length = (["thing"] : List Str).length → BindsTo s D.fd ⟨us, []⟩ ((["thing"] : List Str).zip us) := by
      refine' Ts.defAt KX G ?a ?l ?c ?k ?b
      (case a => k_is)
      (case l => k_is)
      (case c => k_is)
      (case k => k_is)
      (case b => exact fun _ _ _ _ _ _ us hl => match us, hl with | [_], _ => rfl)
    obtain ⟨Dturnsbehind, _⟩ : ∃ D : Ts.DefAt _ mg "turns_behind" Ts.s_turns_behind ["meaning", "box", "folder", "rule"], ∀ (s : Shared) (us : List Value), us.length = (["meaning", "box", "folder", "rule"] : List Str).length → BindsTo s D.fd ⟨us, []⟩ ((["meaning", "box", "folder", "rule"] : List Str).zip us) := by
      refine' Ts.defAt KX G ?a ?l ?c ?k ?b
      (case a => k_is)
      (case l => k_is)
      (case c => k_is)
      (case k => k_is)
      (case b => exact fun _ _ _ _ _ _ us hl => match us, hl with | [_, _, _, _], _ => rfl)
    obtain ⟨Dmoved, _⟩ : ∃ D : Ts.DefAt _ mg "moved" Ts.s_moved ["meaning", "box", "folder", "rule"], ∀ (s : Shared) (us : List Value), us.length = (["meaning", "box", "folder", "rule"] : List Str).length → BindsTo s D.fd ⟨us, []⟩ ((["meaning", "box", "folder", "rule"] : List Str).zip us) := by
      refine' Ts.defAt KX G ?a ?l ?c ?k ?b
      (case a => k_is)
      (case l => k_is)
      (case c => k_is)
      (case k => k_is)
      (case b => exact fun _ _ _ _ _ _ us hl => match us, hl with | [_, _, _, _], _ => rfl)
    obtain ⟨Dback, _⟩ : ∃ D : Ts.DefAt _ mg "back" Ts.s_back ["meaning", "box", "folder", "rule"], ∀ (s : Shared) (us : List Value), us.length = (["meaning", "box", "folder", "rule"] : List Str).length → BindsTo s D.fd ⟨us, []⟩ ((["meaning", "box", "folder", "rule"] : List Str).zip us) := by
      refine' Ts.defAt KX G ?a ?l ?c ?k ?b
      (case a => k_is)
      (case l => k_is)
      (case c => k_is)
      (case k => k_is)
      (case b => exact fun _ _ _ _ _ _ us hl => match us, hl with | [_, _, _, _], _ => rfl)
    obtain ⟨Dgoals, _⟩ : ∃ D : Ts.DefAt _ mg "goals" Ts.s_goals ["tree", "box"], ∀ (s : Shared) (us : List Value), us.length = (["tree", "box"] : List Str).length → BindsTo s D.fd ⟨us, []⟩ ((["tree", "box"] : List Str).zip us) := by
      refine' Ts.defAt KX G ?a ?l ?c ?k ?b
      (case a => k_is)
      (case l => k_is)
      (case c => k_is)
      (case k => k_is)
      (case b => exact fun _ _ _ _ _ _ us hl => match us, hl with | [_, _], _ => rfl)
    obtain ⟨Dunlikemoves, _⟩ : ∃ D : Ts.DefAt _ mg "unlike_moves" Ts.s_unlike_moves ["meaning", "rule", "other"], ∀ (s : Shared) (us : List Value), us.length = (["meaning", "rule", "other"] : List Str).length → BindsTo s D.fd ⟨us, []⟩ ((["meaning", "rule", "other"] : List Str).zip us) := by
      refine' Ts.defAt KX G ?a ?l ?c ?k ?b
      (case a => k_is)
      (case l => k_is)
      (case c => k_is)
      (case k => k_is)
      (case b => exact fun _ _ _ _ _ _ us hl => match us, hl with | [_, _, _], _ => rfl)
    obtain ⟨DLstream, _⟩ : ∃ D : Ts.DefAt _ mg "_law_stream" Ts.s_L_stream ["_law_script", "_law_k"], ∀ (s : Shared) (us : List Value), us.length = (["_law_script", "_law_k"] : List Str).length → BindsTo s D.fd ⟨us, []⟩ ((["_law_script", "_law_k"] : List Str).zip us) := by
      refine' Ts.defAt KX G ?a ?l ?c ?k ?b
      (case a => k_is)
      (case l => k_is)
      (case c => k_is)
      (case k => k_is)
      (case b => exact fun _ _ _ _ _ _ us hl => match us, hl with | [_, _], _ => rfl)
    obtain ⟨DLdraw, _⟩ : ∃ D : Ts.DefAt _ mg "_law_draw" Ts.s_L_draw ["_law_stream_here", "_law_many"], ∀ (s : Shared) (us : List Value), us.length = (["_law_stream_here", "_law_many"] : List Str).length → BindsTo s D.fd ⟨us, []⟩ ((["_law_stream_here", "_law_many"] : List Str).zip us) := by
      refine' Ts.defAt KX G ?a ?l ?c ?k ?b
      (case a => k_is)
      (case l => k_is)
      (case c => k_is)
      (case k => k_is)
      (case b => exact fun _ _ _ _ _ _ us hl => match us, hl with | [_, _], _ => rfl)
    obtain ⟨DLwritten, _⟩ : ∃ D : Ts.DefAt _ mg "_law_written" Ts.s_L_written [], ∀ (s : Shared) (us : List Value), us.length = ([] : List Str).length → BindsTo s D.fd ⟨us, []⟩ (([] : List Str).zip us) := by
      refine' Ts.defAt KX G ?a ?l ?c ?k ?b
      (case a => k_is)
      (case l => k_is)
      (case c => k_is)
      (case k => k_is)
      (case b => exact fun _ _ _ _ _ _ us hl => match us, hl with | [], _ => rfl)
    obtain ⟨DLtrees, _⟩ : ∃ D : Ts.DefAt _ mg "_law_trees" Ts.s_L_trees ["_law_grove"], ∀ (s : Shared) (us : List Value), us.length = (["_law_grove"] : List Str).length → BindsTo s D.fd ⟨us, []⟩ ((["_law_grove"] : List Str).zip us) := by
      refine' Ts.defAt KX G ?a ?l ?c ?k ?b
      (case a => k_is)
      (case l => k_is)
      (case c => k_is)
      (case k => k_is)
      (case b => exact fun _ _ _ _ _ _ us hl => match us, hl with | [_], _ => rfl)
    obtain ⟨DLmeanings, _⟩ : ∃ D : Ts.DefAt _ mg "_law_meanings" Ts.s_L_meanings ["_law_grove", "_law_first", "_law_bent"], ∀ (s : Shared) (us : List Value), us.length = (["_law_grove", "_law_first", "_law_bent"] : List Str).length → BindsTo s D.fd ⟨us, []⟩ ((["_law_grove", "_law_first", "_law_bent"] : List Str).zip us) := by
      refine' Ts.defAt KX G ?a ?l ?c ?k ?b
      (case a => k_is)
      (case l => k_is)
      (case c => k_is)
      (case k => k_is)
      (case b => exact fun _ _ _ _ _ _ us hl => match us, hl with | [_, _, _], _ => rfl)
    obtain ⟨DLbynames, _⟩ : ∃ D : Ts.DefAt _ mg "_law_by_names" Ts.s_L_by_names ["_law_grove", "_law_sense"], ∀ (s : Shared) (us : List Value), us.length = (["_law_grove", "_law_sense"] : List Str).length → BindsTo s D.fd ⟨us, []⟩ ((["_law_grove", "_law_sense"] : List Str).zip us) := by
      refine' Ts.defAt KX G ?a ?l ?c ?k ?b
      (case a => k_is)
      (case l => k_is)
      (case c => k_is)
      (case k => k_is)
      (case b => exact fun _ _ _ _ _ _ us hl => match us, hl with | [_, _], _ => rfl)
    obtain ⟨Dlaw, bL⟩ : ∃ D : Ts.DefAt _ mg "law" Ts.s_law ["_law_script"], ∀ (s : Shared) (us : List Value), us.length = (["_law_script"] : List Str).length → BindsTo s D.fd ⟨us, []⟩ ((["_law_script"] : List Str).zip us) := by
      refine' Ts.defAt KX G ?a ?l ?c ?k ?b
      (case a => k_is)
      (case l => k_is)
      (case c => k_is)
      (case k => k_is)
      (case b => exact fun _ _ _ _ _ _ us hl => match us, hl with | [_], _ => rfl)
    obtain ⟨B, hMin, hSo⟩ : Ts.TxB mg ∧ mg "min" = none ∧ mg "sorted" = none := by
      refine' Ts.freeAll KX G ?z0 ?z1 ?z2 ?z3 ?z4 ?z5 ?z6 ?z7 ?z8 ?z9 ?z10 ?z11 ?z12 ?z13
      (case z0 => k_is)
      (case z1 => k_is)
      (case z2 => k_is)
      (case z3 => k_is)
      (case z4 => k_is)
      (case z5 => k_is)
      (case z6 => k_is)
      (case z7 => k_is)
      (case z8 => k_is)
      (case z9 => k_is)
      (case z10 => k_is)
      (case z11 => k_is)
      (case z12 => k_is)
      (case z13 => k_is)
    obtain ⟨TC⟩ := by
      refine' Ts.constAll KX G Disnumber ?b1 ?b2 ?b3 ?b4 ?b5 ?b6 ?b7
      (case b1 => k_is)
      (case b2 => k_is)
      (case b3 => k_is)
      (case b4 => k_is)
      (case b5 => k_is)
      (case b6 => decide)
      (case b7 => exact .cons ⟨_, rfl⟩ (.cons ⟨_, rfl⟩ (.cons ⟨_, rfl⟩ .nil)))
    obtain ⟨TD⟩ : Nonempty (Ts.TxD _ mg w) := by
      refine' Ts.constD KX G ?d0 ?d1 ?d2 ?d3 ?d4 ?d5 ?d6 ?d7 ?d8 ?d9 ?d10 ?d11 ?d12
      (case d0 => k_is)
      (case d1 => k_is)
      (case d2 => k_is)
      (case d3 => k_is)
      (case d4 => decide)
      (case d5 => exact .cons ⟨_, rfl⟩ (.cons ⟨_, rfl⟩ (.cons ⟨_, rfl⟩ .nil)))
      (case d6 => k_is)
      (case d7 => k_is)
      (case d8 => exact ⟨⟨_, _, rfl, rfl⟩, ⟨_, _, rfl, rfl⟩, ⟨_, _, rfl, rfl⟩, ⟨_, _, rfl, rfl⟩, trivial⟩)
      (case d9 => k_is)
      (case d10 => k_is)
      (case d11 => k_is)
      (case d12 => k_is)
    obtain ⟨TF⟩ : Nonempty (Ts.TxF _ mg) := by
      refine' Ts.constF KX G ?f0 ?f2 ?f3 ?f4 ?f5
      (case f0 => k_is)
      (case f2 => k_is)
      (case f3 => k_is)
      (case f4 => decide)
      (case f5 => exact .cons ⟨_, rfl⟩ (.cons ⟨_, rfl⟩ .nil))
    obtain ⟨TV⟩ : Nonempty (Ts.TxV _ mg) := by
      refine' Ts.constV KX G ?f0 ?f1 ?f2 ?f3 ?f4 ?f5
      (case f0 => k_is)
      (case f1 => k_is)
      (case f2 => k_is)
      (case f3 => k_is)
      (case f4 => decide)
      (case f5 => exact .cons ⟨_, rfl⟩ (.cons ⟨_, rfl⟩ (.cons ⟨_, rfl⟩ .nil)))
    obtain ⟨hOff, hS⟩ : (∃ t, mg "OFF" = some (.str "off" t)) ∧ ∃ t, mg "SHUT" = some (.str "shut" t) := by
      refine' Ts.constO KX G ?f0 ?f1
      (case f0 => k_is)
      (case f1 => k_is)
    obtain ⟨E_Locked, T_Locked, f_Locked, fd_Locked, i_Locked, t_Locked, F_Locked⟩ : ∃ E : Addr, Ts.ErrT _ mg E "Locked" "box" ∧ ∃ (f : Addr) (fd : FuncData), PySem.W.findIn _ (.ref E) "__init__" = some (some (.ref f)) ∧ PySem.W.typeIn _ (.ref f) = some (.type "function") ∧ L2.Fun _ "__init__" "Locked.__init__" Ts.s_Locked_init f fd := by
      refine' ⟨_, Ts.errAll KX G ?ELockedaC ?ELockedxL ?ELockedsa ?ELockedga ?ELockedgg ?ELockednb ?ELockeda1 ?ELockedt1 ?ELockedl1 ?ELockedc1 ?ELockedk1 ?ELockedkC ?ELockedeC ?ELockedtC ?ELockedhC ?ELockediC ?ELockedsC⟩
      (case ELockedaC => k_is)
      (case ELockedxL => k_is)
      (case ELockedsa => k_is)
      (case ELockedga => k_is)
      (case ELockedgg => k_is)
      (case ELockednb => k_is)
      (case ELockeda1 => k_is)
      (case ELockedt1 => k_is)
      (case ELockedl1 => k_is)
      (case ELockedc1 => k_is)
      (case ELockedk1 => k_is)
      (case ELockedkC => k_is)
      (case ELockedeC => k_is)
      (case ELockedtC => k_is)
      (case ELockedhC => k_is)
      (case ELockediC => k_is)
      (case ELockedsC => first | rfl | k_is)
    obtain ⟨E_Clash, T_Clash, f_Clash, fd_Clash, i_Clash, t_Clash, F_Clash⟩ : ∃ E : Addr, Ts.ErrT _ mg E "Clash" "box" ∧ ∃ (f : Addr) (fd : FuncData), PySem.W.findIn _ (.ref E) "__init__" = some (some (.ref f)) ∧ PySem.W.typeIn _ (.ref f) = some (.type "function") ∧ L2.Fun _ "__init__" "Clash.__init__" Ts.s_Clash_init f fd := by
      refine' ⟨_, Ts.errAll KX G ?EClashaC ?EClashxL ?EClashsa ?EClashga ?EClashgg ?EClashnb ?EClasha1 ?EClasht1 ?EClashl1 ?EClashc1 ?EClashk1 ?EClashkC ?EClasheC ?EClashtC ?EClashhC ?EClashiC ?EClashsC⟩
      (case EClashaC => k_is)
      (case EClashxL => k_is)
      (case EClashsa => k_is)
      (case EClashga => k_is)
      (case EClashgg => k_is)
      (case EClashnb => k_is)
      (case EClasha1 => k_is)
      (case EClasht1 => k_is)
      (case EClashl1 => k_is)
      (case EClashc1 => k_is)
      (case EClashk1 => k_is)
      (case EClashkC => k_is)
      (case EClasheC => k_is)
      (case EClashtC => k_is)
      (case EClashhC => k_is)
      (case EClashiC => k_is)
      (case EClashsC => first | rfl | k_is)
    obtain ⟨C, T, N, I, ⟨fI, fdI, FI, MT, bI⟩, ⟨M_eq⟩, ⟨M_contains⟩, ⟨M_rows⟩, ⟨M_folder⟩, ⟨M_kind⟩, ⟨M_price⟩, ⟨M_inside⟩, ⟨M_below⟩, ⟨M_way⟩, ⟨M_steps⟩, ⟨M_more⟩, ⟨M_less⟩, ⟨M_moved⟩, ⟨M_opened⟩, CM, M, NM, IM, ⟨fM, fdM, Te, dsM, FM, MM, bM, bM1, rM1, hTe⟩, ⟨L_eq⟩, ⟨L_states⟩, ⟨L_value⟩, CR, R, NR, hsf, IR, ⟨fR, fdR, FR, MR, bR⟩, ⟨R_eq⟩, ⟨R_call⟩, ⟨R_add⟩, ⟨R_deeds⟩, ⟨R_maps⟩⟩ := by
      refine' Ts.bothAll KX G ?aC ?pg ?hd ?po ?sa ?mk ?kc ?nq ?nf ?nk ?np ?ne ?ob ?iC ?tC ?ha ?hn ?htk ?hm ?a0 ?i0 ?l0 ?c0 ?k0 ?a1 ?i1 ?l1 ?c1 ?k1 ?a2 ?i2 ?l2 ?c2 ?k2 ?a3 ?i3 ?l3 ?c3 ?k3 ?a4 ?i4 ?l4 ?c4 ?k4 ?a5 ?i5 ?l5 ?c5 ?k5 ?a6 ?i6 ?l6 ?c6 ?k6 ?a7 ?i7 ?l7 ?c7 ?k7 ?a8 ?i8 ?l8 ?c8 ?k8 ?a9 ?i9 ?l9 ?c9 ?k9 ?a10 ?i10 ?l10 ?c10 ?k10 ?a11 ?i11 ?l11 ?c11 ?k11 ?a12 ?i12 ?l12 ?c12 ?k12 ?a13 ?i13 ?l13 ?c13 ?k13 ?a14 ?i14 ?l14 ?c14 ?k14 ?maC ?mpg ?mhd ?mpo ?msa ?mmk ?mkc ?mnt ?mnd ?mnu ?mnk ?mne ?mob ?miC ?mtC ?mha ?mhn ?mhtk ?mhm ?ma0 ?mi0 ?ml0 ?mc0 ?mk0 ?mlT ?mvT ?mlE ?mvE ?ma1 ?mi1 ?ml1 ?mc1 ?mk1 ?ma2 ?mi2 ?ml2 ?mc2 ?mk2 ?ma3 ?mi3 ?ml3 ?mc3 ?mk3 ?raC ?rpg ?rhd ?rpo ?rsa ?rmk ?rkc ?rnt ?rnp ?rne_ ?rne ?rob ?riC ?rtC ?rha ?rhn ?rhtk ?rhm ?rsf ?ra0 ?ri0 ?rl0 ?rc0 ?rk0 ?ra1 ?ri1 ?rl1 ?rc1 ?rk1 ?ra2 ?ri2 ?rl2 ?rc2 ?rk2 ?ra3 ?ri3 ?rl3 ?rc3 ?rk3 ?ra4 ?ri4 ?rl4 ?rc4 ?rk4 ?ra5 ?ri5 ?rl5 ?rc5 ?rk5
      (case aC => k_is)
      (case pg => k_is)
      (case hd => k_is)
      (case po => k_is)
      (case sa => k_is)
      (case mk => k_is)
      (case kc => k_is)
      (case nq => k_is)
      (case nf => k_is)
      (case nk => k_is)
      (case np => k_is)
      (case ne => k_is)
      (case ob => k_is)
      (case iC => k_is)
      (case tC => k_is)
      (case ha => k_is)
      (case hn => k_is)
      (case htk => k_is)
      (case hm => k_is)
      (case a0 => k_is)
      (case i0 => k_is)
      (case l0 => k_is)
      (case c0 => k_is)
      (case k0 => k_is)
      (case a1 => k_is)
      (case i1 => k_is)
      (case l1 => k_is)
      (case c1 => k_is)
      (case k1 => k_is)
      (case a2 => k_is)
      (case i2 => k_is)
      (case l2 => k_is)
      (case c2 => k_is)
      (case k2 => k_is)
      (case a3 => k_is)
      (case i3 => k_is)
      (case l3 => k_is)
      (case c3 => k_is)
      (case k3 => k_is)
      (case a4 => k_is)
      (case i4 => k_is)
      (case l4 => k_is)
      (case c4 => k_is)
      (case k4 => k_is)
      (case a5 => k_is)
      (case i5 => k_is)
      (case l5 => k_is)
      (case c5 => k_is)
      (case k5 => k_is)
      (case a6 => k_is)
      (case i6 => k_is)
      (case l6 => k_is)
      (case c6 => k_is)
      (case k6 => k_is)
      (case a7 => k_is)
      (case i7 => k_is)
      (case l7 => k_is)
      (case c7 => k_is)
      (case k7 => k_is)
      (case a8 => k_is)
      (case i8 => k_is)
      (case l8 => k_is)
      (case c8 => k_is)
      (case k8 => k_is)
      (case a9 => k_is)
      (case i9 => k_is)
      (case l9 => k_is)
      (case c9 => k_is)
      (case k9 => k_is)
      (case a10 => k_is)
      (case i10 => k_is)
      (case l10 => k_is)
      (case c10 => k_is)
      (case k10 => k_is)
      (case a11 => k_is)
      (case i11 => k_is)
      (case l11 => k_is)
      (case c11 => k_is)
      (case k11 => k_is)
      (case a12 => k_is)
      (case i12 => k_is)
      (case l12 => k_is)
      (case c12 => k_is)
      (case k12 => k_is)
      (case a13 => k_is)
      (case i13 => k_is)
      (case l13 => k_is)
      (case c13 => k_is)
      (case k13 => k_is)
      (case a14 => k_is)
      (case i14 => k_is)
      (case l14 => k_is)
      (case c14 => k_is)
      (case k14 => k_is)
      (case maC => k_is)
      (case mpg => k_is)
      (case mhd => k_is)
      (case mpo => k_is)
      (case msa => k_is)
      (case mmk => k_is)
      (case mkc => k_is)
      (case mnt => k_is)
      (case mnd => k_is)
      (case mnu => k_is)
      (case mnk => k_is)
      (case mne => k_is)
      (case mob => k_is)
      (case miC => k_is)
      (case mtC => k_is)
      (case mha => k_is)
      (case mhn => k_is)
      (case mhtk => k_is)
      (case mhm => k_is)
      (case ma0 => k_is)
      (case mi0 => k_is)
      (case ml0 => k_is)
      (case mc0 => k_is)
      (case mk0 => k_is)
      (case mlT => k_is)
      (case mvT => rfl)
      (case mlE => k_is)
      (case mvE => rfl)
      (case ma1 => k_is)
      (case mi1 => k_is)
      (case ml1 => k_is)
      (case mc1 => k_is)
      (case mk1 => k_is)
      (case ma2 => k_is)
      (case mi2 => k_is)
      (case ml2 => k_is)
      (case mc2 => k_is)
      (case mk2 => k_is)
      (case ma3 => k_is)
      (case mi3 => k_is)
      (case ml3 => k_is)
      (case mc3 => k_is)
      (case mk3 => k_is)
      (case raC => k_is)
      (case rpg => k_is)
      (case rhd => k_is)
      (case rpo => k_is)
      (case rsa => k_is)
      (case rmk => k_is)
      (case rkc => k_is)
      (case rnt => k_is)
      (case rnp => k_is)
      (case rne_ => k_is)
      (case rne => k_is)
      (case rob => k_is)
      (case riC => k_is)
      (case rtC => k_is)
      (case rha => k_is)
      (case rhn => k_is)
      (case rhtk => k_is)
      (case rhm => k_is)
      (case rsf => k_is)
      (case ra0 => k_is)
      (case ri0 => k_is)
      (case rl0 => k_is)
      (case rc0 => k_is)
      (case rk0 => k_is)
      (case ra1 => k_is)
      (case ri1 => k_is)
      (case rl1 => k_is)
      (case rc1 => k_is)
      (case rk1 => k_is)
      (case ra2 => k_is)
      (case ri2 => k_is)
      (case rl2 => k_is)
      (case rc2 => k_is)
      (case rk2 => k_is)
      (case ra3 => k_is)
      (case ri3 => k_is)
      (case rl3 => k_is)
      (case rc3 => k_is)
      (case rk3 => k_is)
      (case ra4 => k_is)
      (case ri4 => k_is)
      (case rl4 => k_is)
      (case rc4 => k_is)
      (case rk4 => k_is)
      (case ra5 => k_is)
      (case ri5 => k_is)
      (case rl5 => k_is)
      (case rc5 => k_is)
      (case rk5 => k_is)
    have e := hmg.symm.trans Dlaw.g
    cases e
    refine ⟨Dlaw.fd, fun s v => bL s [v] rfl, fun base _ _ => ?_⟩
    have Gc := Ts.ok_check_rows (P := PySem.Challenge.rw_turnsets_k21_calls_by_names.prog) (w := w) (base := base) Dcheckrows Disrow Disname Disprice B TC
    have GT := Ts.ok_Tree_init FI Dcheckrows Gc B TC T
    have Gb := Ts.ok_check_box (P := PySem.Challenge.rw_turnsets_k21_calls_by_names.prog) (w := w) (base := base) Dcheckbox M_contains B T
    have Gip := Ts.ok_is_place (P := PySem.Challenge.rw_turnsets_k21_calls_by_names.prog) (w := w) (base := base) Displace M_contains B TC T
    have Gpl := Ts.ok_check_place Dcheckplace Displace Gip
    have GF := Ts.ok_Tree_folder M_folder.F Dcheckbox Gb T
    have GK := Ts.ok_Tree_kind M_kind.F Dcheckbox Gb T
    have GP := Ts.ok_Tree_price M_price.F Dcheckbox Gb T
    have GIn := Ts.ok_Tree_inside M_inside.F Dcheckplace Gpl T
    have GB := Ts.ok_Tree_below M_below.F Dcheckplace Gpl B T
    have GW := Ts.ok_Tree_way M_way.F Dcheckplace Gpl TC T
    have GSt := Ts.ok_Tree_steps M_steps.F T M_way GW
    have GMo := Ts.ok_Tree_more M_more.F M_rows B T MT bI GT
    have GLe := Ts.ok_Tree_less M_less.F Dcheckbox Gb T M_below GB MT bI GT
    have GMv := Ts.ok_Tree_moved M_moved.F Dcheckbox Gb Dcheckplace Gpl TC T M_below GB MT bI GT
    have Gcd2 := Ts.ok_check_rowsD (P := PySem.Challenge.rw_turnsets_k21_calls_by_names.prog) (w := w) (base := base) Dcheckrows Disrow Disname Disprice B TC
    have GOp := Ts.ok_Tree_opened M_opened.F Dcheckbox Gb Dcheckrows Gcd2 B TC hS T MT bI GT
    have GE := Ts.ok_Tree_eq (P := PySem.Challenge.rw_turnsets_k21_calls_by_names.prog) (w := w) (base := base) M_eq.F B T I
    have GI := Ts.ok_Locked_init (P := PySem.Challenge.rw_turnsets_k21_calls_by_names.prog) (w := w) (base := base) (mg := mg) F_Locked T_Locked.O T_Locked.nb
    have bE := F_Locked.binds (ps := ["self", "box"]) (fun _ _ _ _ _ _ us hl => match us, hl with | [_, _], _ => rfl)
    have Gcu := Ts.ok_check_turnsX Dcheckturns Dcheckbox Gb T M_price GP T_Locked i_Locked t_Locked GI bE
    have Gvo := Ts.ok_values_of Dvaluesof TC T M_below GB M_folder GF
    have GMX := Ts.ok_M_initX FM B TC T M Dcheckturns Gcu Dvaluesof Gvo M_below GB
    have GM := Ts.calm_init GMX
    have HE := Ts.ok_M_eq L_eq.F B M IM M_eq GE
    have HS := Ts.ok_M_states (P := PySem.Challenge.rw_turnsets_k21_calls_by_names.prog) (w := w) (base := base) (C := C) L_states.F B M
    have HV := Ts.ok_M_value (P := PySem.Challenge.rw_turnsets_k21_calls_by_names.prog) (w := w) (base := base) L_value.F M Dcheckplace Gpl
    have Gwv := Ts.ok_with Dwithvalues TC T M MM bM GM M_below GB M_folder GF
    have Gct := Ts.ok_check_trees (P := PySem.Challenge.rw_turnsets_k21_calls_by_names.prog) (w := w) (base := base) Dchecktrees M N M_eq GE
    have Gpa := Ts.ok_parting Dparting M Dchecktrees Gct
    have Gmi := Ts.ok_middle Dmiddle B TC T M Dchecktrees Gct M_below GB MM bM GM
    have Gu := Ts.ok_unlocked Dcheckunlocked TC T M_below GB M_price GP
    have Gid := Ts.ok_is_deed Disdeed B TD Displace Gip
    have Gcd := Ts.ok_check_deeds Dcheckdeeds B Disdeed Gid
    have Gef := Ts.ok_effects Deffectsof TC TD T M_below GB
    have GR := Ts.ok_R_init FR B R Dcheckunlocked Gu Dcheckdeeds Gcd Deffectsof Gef
    have GctM := Ts.ok_check_treesM Dchecktrees R M N M_eq GE
    have GctR := Ts.ok_check_treesR Dchecktrees R N M_eq GE
    have GctJ := Ts.ok_check_treesMR (w := w) Dchecktrees R M N M_eq GE
    have GRE := Ts.ok_R_eq R_eq.F B R IR M_eq GE
    have GRM := Ts.ok_R_maps (P := PySem.Challenge.rw_turnsets_k21_calls_by_names.prog) (w := w) (base := base) (C := C) R_maps.F B R
    have GRD := Ts.ok_R_deeds (P := PySem.Challenge.rw_turnsets_k21_calls_by_names.prog) (w := w) (base := base) (C := C) R_deeds.F B R
    have GRA := Ts.ok_R_add R_add.F R Dchecktrees GctR MR bR GR
    have Gbe := Ts.ok_behind (P := PySem.Challenge.rw_turnsets_k21_calls_by_names.prog) (w := w) (base := base) Dvaluebehind TD TF
    have GRC := Ts.ok_R_call R_call.F R M Dchecktrees GctM Dvaluebehind Gbe L_states HS Dwithvalues Gwv
    have hfC := Ts.fun_fnIn R_call.F
    have Gidl := Ts.ok_idle Didle B R R_deeds GRD R_eq GRE MR bR GR
    have Gcl := Ts.ok_clash Dclash R hsf R_add GRA R_maps GRM
    have Gar := Ts.ok_around Deffectaround TC TD T M_folder GF
    have Gen := Ts.ok_entries Dentriesof Deffectaround Gar
    have Gro := Ts.ok_row_of Drowof TD TF R Dentriesof Gen MR bR GR
    have Gco := Ts.ok_counts Dentrycounts hMin TC T Dunlike M_below GB M_folder GF
    have GaP := Ts.ok_aroundP Deffectaround TC TD T M_folder GF
    have Gfw := Ts.ok_few Dfewesteffects TF Dentrycounts Gco Dunlike Deffectaround GaP
    have Gfe := Ts.ok_fewD Dfewestdeeds TD TF hOff M Dchecktrees Gct Dcheckunlocked Gu L_states HS Dfewesteffects Gfw Drowof Gro
    have Gto := Ts.ok_told Dtoldvalues TD R M R_call hfC GRC R_maps GRM L_states HS
    have GIC := Ts.ok_Clash_init (P := PySem.Challenge.rw_turnsets_k21_calls_by_names.prog) (w := w) (base := base) (mg := mg) F_Clash T_Clash.O T_Clash.nb
    have bC := F_Clash.binds (ps := ["self", "box"]) (fun _ _ _ _ _ _ us hl => match us, hl with | [_, _], _ => rfl)
    have Gj := Ts.ok_join Djoin R M Dchecktrees GctJ Dtoldvalues Gto L_states HS Dwithvalues Gwv T_Clash.O i_Clash t_Clash T_Clash.g GIC bC
    have Gru := Ts.ok_rule (P := PySem.Challenge.rw_turnsets_k21_calls_by_names.prog) (w := w) (base := base) Dcheckrule TV
    have Gbt := Ts.ok_behindT Dturnsbehind TV M L_value HV
    have Gmv := Ts.ok_movedM Dmoved T M M_moved GMv Dcheckrule Gru Dturnsbehind Gbt MM bM GMX
    have Gbk := Ts.ok_back Dback hSo T M Dmoved Gmv M_folder GF
    have GGo := Ts.ok_goals Dgoals TC T M_below GB M_kind GK
    have Gul := Ts.ok_unlikeM Dunlikemoves TC T M Dcheckrule Gru Dgoals GGo Dturnsbehind Gbt M_below GB M_price GP
    have Gd := Ts.ok_draw (P := PySem.Challenge.rw_turnsets_k21_calls_by_names.prog) (w := w) (base := base) DLdraw B
    obtain ⟨gM, kM2⟩ := Ts.kM_init2 FM
    have Gtr := Ts.ok_Ltrees (CM := CM) (CR := CR) DLtrees T M_folder GF (Ts.kTree_folder M_folder.F) M_kind GK (Ts.kTree_kind M_kind.F) M_price GP (Ts.kTree_price M_price.F) M_inside GIn (Ts.kTree_inside M_inside.F) M_below GB (Ts.kTree_below M_below.F) M_way GW (Ts.kTree_way M_way.F) M_steps GSt (Ts.kTree_steps M_steps.F) M_more GMo (Ts.kTree_more M_more.F) M_less GLe (Ts.kTree_less M_less.F) M_moved GMv (Ts.kTree_moved M_moved.F) M_opened GOp (Ts.kTree_opened M_opened.F)
    have Gmg := Ts.ok_Lmeanings (CR := CR) DLmeanings T M MM bM bM1 rM1 hTe GM (Ts.kM_init FM) kM2 L_value HV (Ts.kMeaning_value L_value.F) Dparting Gpa (Ts.kD_parting Dparting.F) Dmiddle Gmi (Ts.kD_middle Dmiddle.F)
    have Gbn := Ts.ok_Lnames DLbynames R MR bR GR (Ts.kRow_init FR) R_call hfC GRC (Ts.kRow_call R_call.F) Didle Gidl (Ts.kD_idle Didle.F) Dclash Gcl (Ts.kD_clash Dclash.F) Dfewestdeeds Gfe (Ts.kD_fewest_deeds Dfewestdeeds.F) Djoin (Ts.calm_join Gj) (Ts.kD_join Djoin.F) Dmoved (Ts.calm_moved Gmv) (Ts.kD_moved Dmoved.F) Dback (Ts.calm_back Gbk) (Ts.kD_back Dback.F) Dunlikemoves Gul (Ts.kD_unlike_moves Dunlikemoves.F)
    exact Ts.ok_law Dlaw B T M N DLstream DLdraw Gd DLwritten DLtrees Gtr DLmeanings Gmg DLbynames Gbn M_eq GE L_eq HE R_eq GRE MT bI GT (Ts.kTree_init FI) MM bM GM
