import PyProof.Rows.All
import Wide.All
import OpenK.AllK
import Wide.FinOn
import HandS.ForMost
import HandS.IsInst
import HandS.Conv
import HandS.DictComp
import HandS.Deep
import HandS.NoneIn
import HandS.Style
import HandS.TupAny
import HandS.OwnEq
import HandS.More
import HandS.Flow
import HandS.Codes
import HandS.Walk
import HandS.StrMore
import KE.GoesMore
import KE.GoesEnum
import HandS.ExcInit
import HandS.ExcField
import HandS.WordsExc
import HandS.ExcOwn
import HandS.Small
import PyProof.ExcBaseAll.ValueError
import HandS.ExcIs
import KE.KExcIs
import HandS.ExcValue
import HandS.MakeKw
import HandS.DeepEq
import HandS.List
import PyProof.EqKinds
import PyProof.NeKinds
import HandS.Defaults
import PySem.Challenge.RW_turnsets_k22_errors_made
set_option Elab.async false
set_option linter.all false

set_option maxRecDepth 100000
set_option maxHeartbeats 4000000
namespace Ts
open PySem L2
section
variable {X : Cx} {CX : CXT} {k : Nat} {f C : Addr} {fd : FuncData} {ps : List Str} {sp : Sp} {E : XK}
/-- a def of the text run below a builtin of this body -/
theorem run_at {A : Around} {pins : List (Addr × Obj)} {σ : St} {H : Hp} {s : Shared} {Q : VK} {us : List Value} {vs : List V} (F : FnOk X.prog X.w X.K X.mg X.base CX k f fd ps sp) (hr : Room k A) (hfr : A.frames = X.A.frames) (hb : Binds X.K fd ps []) (hx : Passes CX X E)
    (I : Inv X pins σ H s) (r : Vals vs us) (h : sp vs H Q E) : wpAny (model X.prog X.w) A (call (.ref f) us) (EP X pins σ Q) X.xe s := by
  have hl : us.length = ps.length := by rw [← r.length]; exact F.len _ _ _ _ h
  have e0 : Env0 X.prog X.w X.K X.mg X.base A X.stack s H := by
    have e := I.env0
    exact ⟨by rw [hfr]; exact e.frames, e.mod, e.bs, e.bsz, e.funs, e.frf, e.hok, e.bare⟩
  refine wpAny_call (codeAny_mono (F.run A X.stack s H ⟨us, []⟩ us vs Q E hr e0 (by
    have := hb s us I.kIn (by simpa using hl)
    simpa using this) r h) fun r s' hq => ?_)
  cases r with
  | error e => exact hx pins σ H s e s' I hq
  | ok fl =>
    cases fl with
    | ret u => exact I.after hq
    | next => exact False.elim hq
    | brk => exact False.elim hq
    | cont => exact False.elim hq
/-- x in o, o of an own class with its own look -/
def rInC (C : Addr) (sp : Sp) (E : XK) : R2 := fun x y H Q => ∃ a dx fs, y = .ref a ∧ H a = some (.ins C dx fs) ∧ sp [.ref a, x] H (fun v H' => ∃ b, v = .bl b ∧ Q (.bl b) H') E
def rNotInC (C : Addr) (sp : Sp) (E : XK) : R2 := fun x y H Q => ∃ a dx fs, y = .ref a ∧ H a = some (.ins C dx fs) ∧ sp [.ref a, x] H (fun v H' => ∃ b, v = .bl b ∧ Q (.bl (!b)) H') E
theorem op_inC (F : FnOk X.prog X.w X.K X.mg X.base CX k f fd ps sp) (m : Meth X.K C "__contains__" f) (hr : Room k X.A) (hb : Binds X.K fd ps []) (hx : Passes CX X E) : OpR X (compareOp .In) (rInC C sp E) := by
  intro pins s σ H x y v u Q I rx ry hq
  obtain ⟨a, dx, fs, rfl, ha, hsp⟩ := hq
  cases ry
  obtain ⟨mA, J, _⟩ := ins_get I.hok ha
  obtain ⟨od, J, _⟩ := J.look
  obtain ⟨mm, hF⟩ := I.fr
  refine PySem.W.in_K hF I.ok.mod.kin J m.at_ m.fn ?_
  refine wpAny_mono (run_at F hr rfl hb hx I (us := [.ref a, v]) (.cons (show RelV (.ref a) (.ref a) from rfl) (.cons rx .nil)) hsp) (fun r s' hq => ?_) fun _ _ x => x
  obtain ⟨z, H', I', rz, b, rfl, q⟩ := hq
  cases rz
  exact wpAny_truthy_bool ⟨.bl b, H', I', rfl, q⟩
theorem op_notinC (F : FnOk X.prog X.w X.K X.mg X.base CX k f fd ps sp) (m : Meth X.K C "__contains__" f) (hr : Room k X.A) (hb : Binds X.K fd ps []) (hx : Passes CX X E) : OpR X (compareOp .NotIn) (rNotInC C sp E) := by
  intro pins s σ H x y v u Q I rx ry hq
  obtain ⟨a, dx, fs, rfl, ha, hsp⟩ := hq
  cases ry
  obtain ⟨mA, J, _⟩ := ins_get I.hok ha
  obtain ⟨od, J, _⟩ := J.look
  obtain ⟨mm, hF⟩ := I.fr
  refine PySem.W.notIn_K hF I.ok.mod.kin J m.at_ m.fn ?_
  refine wpAny_mono (run_at F hr rfl hb hx I (us := [.ref a, v]) (.cons (show RelV (.ref a) (.ref a) from rfl) (.cons rx .nil)) hsp) (fun r s' hq => ?_) fun _ _ x => x
  obtain ⟨z, H', I', rz, b, rfl, q⟩ := hq
  cases rz
  exact wpAny_truthy_bool ⟨.bl (!b), H', I', rfl, q⟩
/-- len(o) -/
def rLenC (C : Addr) (sp : Sp) (E : XK) : List V → Hp → VK → Prop := fun xs H Q => ∃ a dx fs, xs = [.ref a] ∧ H a = some (.ins C dx fs) ∧ sp [.ref a] H (fun v H' => ∃ n : Int, v = .int n ∧ (0 ≤ n ∧ n < 2 ^ 63) ∧ Q (.int n) H') E
theorem call_lenC (F : FnOk X.prog X.w X.K X.mg X.base CX k f fd ps sp) (m : Meth X.K C "__len__" f) (hr : Room (k + 1) X.A) (hb : Binds X.K fd ps []) (hx : Passes CX X E) : CallR X (.builtin "len") (rLenC C sp E) := by
  intro pins s σ H xs us Q I r hq
  obtain ⟨a, dx, fs, rfl, ha, hsp⟩ := hq
  obtain ⟨u, rfl, ru⟩ := vals1 r
  cases ru
  obtain ⟨mA, J, _⟩ := ins_get I.hok ha
  obtain ⟨od, J, _⟩ := J.look
  obtain ⟨mm, hF⟩ := I.fr
  refine PySem.W.len_K hF I.ok.mod.kin J m.at_ m.fn ?_
  refine wpAny_mono (run_at F hr.in1 rfl hb hx I (us := [.ref a]) (.cons (show RelV (.ref a) (.ref a) from rfl) .nil) hsp) (fun r s' hq => ?_) fun _ _ x => x
  obtain ⟨z, H', I', rz, n, rfl, hn, q⟩ := hq
  obtain ⟨t, rfl⟩ := rz
  exact ⟨hn, .int n, H', I'.tok _, ⟨_, rfl⟩, q⟩
/-- the sort of a value, as == wants to know it -/
inductive TyE (H : Hp) : V → Value → Prop where
  | non : TyE H .non (.type "NoneType")
  | bl (x : Bool) : TyE H (.bl x) (.type "bool")
  | int (i : Int) : TyE H (.int i) (.type "int")
  | str (x : Str) : TyE H (.str x) (.type "str")
  | lst {a : Addr} {xs : List V} (e : H a = some (.lst xs)) : TyE H (.ref a) (.type "list")
  | tup {a : Addr} {xs : List V} (e : H a = some (.tup xs)) : TyE H (.ref a) (.type "tuple")
  | dK {a : Addr} {kvs : List (Key × V)} (e : H a = some (.dK kvs)) : TyE H (.ref a) (.type "dict")
  | ins {a C dx : Addr} {fs : List (Str × V)} (e : H a = some (.ins C dx fs)) : TyE H (.ref a) (.ref C)
theorem ty_looks {pins : List (Addr × Obj)} {σ : St} {H : Hp} {s : Shared} {y : V} {u tb : Value} (I : Inv X pins σ H s) (r : RelV y u) (ty : TyE H y tb) : PySem.W.Looks (model X.prog X.w) s.heap (typeOf u) tb := by
  have lk : ∀ {a : Addr} {o : Obj} {c : Value}, s.heap.get? a = some o → o.cls = c → PySem.W.Looks (model X.prog X.w) s.heap (typeOf (.ref a)) c := fun {a o c} e h => h ▸ (PySem.W.Looks.ld e).andThen .now
  cases ty with
  | non => cases (show u = Value.none from r); exact PySem.W.Looks.of_pure rfl
  | bl y => cases (show u = Value.bool y from r); exact PySem.W.Looks.of_pure rfl
  | int i => obtain ⟨t, q⟩ := (show ∃ t, u = Value.int i t from r); cases q; exact PySem.W.Looks.of_pure rfl
  | str y => obtain ⟨t, q⟩ := (show ∃ t, u = Value.str y t from r); cases q; exact PySem.W.Looks.of_pure rfl
  | @lst a xs ea =>
    cases (show u = Value.ref a from r)
    obtain ⟨_, _, n, _, h1⟩ := (show ObjOk X.prog X.w H s.heap a (.lst xs) from I.hok a _ ea)
    exact lk h1 rfl
  | @tup a xs ea =>
    cases (show u = Value.ref a from r)
    obtain ⟨_, _, _, o, h1, h2, _⟩ := (show ObjOk X.prog X.w H s.heap a (.tup xs) from I.hok a _ ea)
    exact lk h1 h2
  | @dK a kvs ea =>
    cases (show u = Value.ref a from r)
    obtain ⟨_, _, vs, _, o, es, ep, h1, h2, _⟩ := (show ObjOk X.prog X.w H s.heap a (.dK kvs) from I.hok a _ ea)
    exact lk h1 h2.1
  | @ins a C dx fs ea =>
    cases (show u = Value.ref a from r)
    obtain ⟨mA, J, _⟩ := ins_get I.hok ea
    obtain ⟨od, J, _⟩ := J.look
    exact J.type
/-- o == y -/
def rEqC (K : PySem.W.Frag) (C : Addr) (sp : Sp) (E : XK) : R2 := fun x y H Q => ∃ a dx fs tb, x = .ref a ∧ H a = some (.ins C dx fs) ∧ TyE H y tb ∧ PySem.W.notFirst K C tb = true ∧ sp [.ref a, y] H (fun v H' => ∃ b, v = .bl b ∧ Q (.bl b) H') E
def rNeC (K : PySem.W.Frag) (C : Addr) (sp : Sp) (E : XK) : R2 := fun x y H Q => ∃ a dx fs tb, x = .ref a ∧ H a = some (.ins C dx fs) ∧ TyE H y tb ∧ PySem.W.notFirst K C tb = true ∧ sp [.ref a, y] H (fun v H' => ∃ b, v = .bl b ∧ Q (.bl (!b)) H') E
theorem op_eqC (F : FnOk X.prog X.w X.K X.mg X.base CX k f fd ps sp) (m : Meth X.K C "__eq__" f) (hr : Room k X.A) (hb : Binds X.K fd ps []) (hx : Passes CX X E) : OpR X (compareOp .Eq) (rEqC X.K C sp E) := by
  intro pins s σ H x y v u Q I rx ry hq
  obtain ⟨a, dx, fs, tb, rfl, ha, ty, hn, hsp⟩ := hq
  cases rx
  obtain ⟨mA, J, _⟩ := ins_get I.hok ha
  obtain ⟨od, J, _⟩ := J.look
  obtain ⟨mm, hF⟩ := I.fr
  show wpAny (model X.prog X.w) X.A (richCompare .Eq _ u) (EP X pins σ Q) X.xe s
  refine PySem.W.cmp_K (op := .Eq) (tb := tb) hr.units0 hF I.ok.mod.kin J (ty_looks I ry ty) hn m.at_ m.fn ?_
  refine wpAny_mono (run_at F hr rfl hb hx I (us := [.ref a, u]) (.cons (show RelV (.ref a) (.ref a) from rfl) (.cons ry .nil)) hsp) (fun r s' hq => ?_) fun _ _ x => x
  obtain ⟨z, H', I', rz, b, rfl, q⟩ := hq
  cases rz
  exact ⟨.bl b, H', I', rfl, q⟩
section
open PySem.W
open PyProof.Rows (Fr)
variable {prog : Program} {w : World} {A : Around} {E : Value → Shared → Prop} {s : Shared} {K : Frag} {h₀ : Heap} {L : Addr} {m : Str → Option Value} {x f C : Addr} {ox : Obj} {od : Option Obj} {b tb : Value}
theorem ne_own_K {Q : Value → Shared → Prop} (hu : A.units + 1 < cLine) (F : Fr h₀ L s.heap m) (X₀ : K.In h₀) (I : InstAt s.heap x ox C od) (hb : Looks (model prog w) s.heap (typeOf b) tb) (hn : notFirst K C tb = true)
    (hne : findIn K (.ref C) "__ne__" = some (some (.builtin "object.__ne__"))) (hs : findIn K (.ref C) "__eq__" = some (some (.ref f))) (hf : isFn K (.ref f) = true) (ho : subIn K (.ref C) (.type "object") = some true)
    (h : wpAny (model prog w) A.in1 (call (.ref f) [.ref x, b]) (fun v s' => ∃ r, v = .bool r ∧ Q (.bool (!r)) s') E s) : wpAny (model prog w) A (richCompare .NotEq (.ref x) b) Q E s := by
  have X := X₀.keeps F.keep
  have body : wpAny (model prog w) A.in1 (Builtin.«object.__ne__» ⟨[.ref x, b], []⟩) (GQ.FinOf prog w A (wants (fun v s' => ∃ r, v = .bool r ∧ Q v s') E)) (fun e s' => wants (fun v s' => ∃ r, v = .bool r ∧ Q v s') E (.error e) s') s := by
    unfold Builtin.«object.__ne__»
    repeat (first
      | with_reducible refine wpAny_cRoomFor hu ?_
      | (refine wpAny_bind (m := callSpecialIfBound? (.ref x) (Str.ofString "__eq__") [b]) (ifBound_K X I hs hf (wpAny_mono h (fun r s' hr => by
          obtain ⟨r, rfl, hq⟩ := hr
          repeat (first | exact ⟨_, rfl, hq⟩ | exact wpAny_pure ⟨_, rfl, hq⟩ | (refine wpAny_bind (m := truthy (.bool _)) (wpAny_truthy_bool ?_)) | wp_step)) fun _ _ e => e)))
      | wp_step)
  have bind : bindSpecial (.builtin "object.__ne__") (.ref x) = pure (.builtin "object.__ne__", [.ref x]) := PySem.F.cmp_object.ne.bind (.ref x)
  have one : wpAny (model prog w) A (tryCompare (.ref x) "__ne__" b) (fun r s' => ∃ v, r = some v ∧ Q v s') E s := by
    unfold tryCompare
    refine wpAny_bind ?_
    simp only [callSpecialIfBound?, bindSpecialIfBound?]
    refine wpAny_holding (wpAny_bind (wpAny_bind (wpAny_bind (I.type.here ((looks_findIn X hne).here ?_)))))
    have fin : wpAny (model prog w) A (call (.builtin "object.__ne__") ([.ref x] ++ [b])) (fun v s' => ∃ r, v = .bool r ∧ Q v s') E s :=
      wpAny_call (codeAny_call_builtin PySem.F.cmp_object.ne.plain PySem.F.cmpEntry_ne (check_slot PySem.F.cmpKind_ne PySem.F.cmpSplit_ne (I.type.andThen (looks_subIn X ho)) (PySem.F.cmpArgs_ne _ _) body))
    simp only [bind]
    refine wpAny_bind (wpAny_askSetting (wpAny_ite ?_))
    split
    · refine wpAny_bind (wpAny_pure (wpAny_pure ?_))
      refine wpAny_bind (wpAny_mono fin (fun v s' z => ?_) fun _ _ e => e)
      obtain ⟨r, rfl, q⟩ := z
      refine wpAny_pure ?_
      exact wpAny_pure ⟨_, rfl, q⟩
    · refine wpAny_tryCatch (wpAny_bind (wpAny_pure (wpAny_pure ?_)))
      refine wpAny_bind (wpAny_mono fin (fun v s' z => ?_) fun _ _ e => e)
      obtain ⟨r, rfl, q⟩ := z
      refine wpAny_pure ?_
      exact wpAny_pure ⟨_, rfl, q⟩
  unfold richCompare
  simp only [oneThing_ref]
  refine wpAny_holding (wpAny_bind (wpAny_cRoomFor (Nat.lt_of_succ_lt hu) ?_))
  refine wpAny_bind (I.type.here (wpAny_bind (hb.here ?_)))
  split
  · rename_i q
    have e : subIn K tb (.ref C) = some false := by
      rcases Bool.or_eq_true_iff.mp hn with e | e
      · rw [beq_iff_eq.mp e] at q; simp at q
      · exact beq_iff_eq.mp e
    refine wpAny_bind ((looks_subIn X e).here ?_)
    simp only [Bool.false_eq_true, if_false]
    refine wpAny_bind (wpAny_mono one (fun r s' z => ?_) fun _ _ e => e)
    obtain ⟨v, rfl, hq⟩ := z
    exact wpAny_pure hq
  · refine wpAny_bind (wpAny_pure ?_)
    simp only [Bool.false_eq_true, if_false]
    refine wpAny_bind (wpAny_mono one (fun r s' z => ?_) fun _ _ e => e)
    obtain ⟨v, rfl, hq⟩ := z
    exact wpAny_pure hq
end
section
variable {X : Cx} {CX : CXT} {k : Nat} {f C : Addr} {fd : FuncData} {ps : List Str} {sp : Sp} {E : XK}
theorem op_neC (F : FnOk X.prog X.w X.K X.mg X.base CX k f fd ps sp) (m : Meth X.K C "__eq__" f) (hne : PySem.W.findIn X.K (.ref C) "__ne__" = some (some (.builtin "object.__ne__"))) (ho : PySem.W.subIn X.K (.ref C) (.type "object") = some true) (hr : Room (k + 1) X.A) (hb : Binds X.K fd ps []) (hx : Passes CX X E) : OpR X (compareOp .NotEq) (rNeC X.K C sp E) := by
  intro pins s σ H x y v u Q I rx ry hq
  obtain ⟨a, dx, fs, tb, rfl, ha, ty, hn, hsp⟩ := hq
  cases rx
  obtain ⟨mA, J, _⟩ := ins_get I.hok ha
  obtain ⟨od, J, _⟩ := J.look
  obtain ⟨mm, hF⟩ := I.fr
  show wpAny (model X.prog X.w) X.A (richCompare .NotEq _ u) (EP X pins σ Q) X.xe s
  refine ne_own_K (tb := tb) (by have := hr.un; omega) hF I.ok.mod.kin J (ty_looks I ry ty) hn hne m.at_ m.fn ho ?_
  refine wpAny_mono (run_at F hr.in1 rfl hb hx I (us := [.ref a, u]) (.cons (show RelV (.ref a) (.ref a) from rfl) (.cons ry .nil)) hsp) (fun r s' hq => ?_) fun _ _ x => x
  obtain ⟨z, H', I', rz, b, rfl, q⟩ := hq
  cases rz
  exact ⟨b, rfl, .bl (!b), H', I', rfl, q⟩
end
end
end Ts

set_option maxRecDepth 100000
set_option maxHeartbeats 4000000
namespace Ts
open PySem L2
/-! ### enumerate(tuple) -/
set_option maxHeartbeats 4000000 in
theorem meets_enum_T (t : Addr) (its : Array Value) :
    Meets (Builtin.«enumerate.__new__» ⟨[.type "enumerate", .ref t], []⟩) (fun _ R s => s.heap.IsTuple t its ∧
      R (.ok (.ret (.ref (s.heap.push { cls := .type "tuple_iterator", data := .fields #[.ref t, .int 0 0] }).objs.size)))
        { s with heap := (s.heap.push { cls := .type "tuple_iterator", data := .fields #[.ref t, .int 0 0] }).push { cls := .type "enumerate", data := .fields #[.none, .bool false, .ref s.heap.objs.size, rawInt 0, .none, .none] } }) :=
  .of_wp fun prog w A R s h => by
    obtain ⟨hp, g, d, tk, os⟩ := s
    obtain ⟨hT, h⟩ := h
    have hsub := sub_enumerate
    wp_walk
    refine wpAny_stack_any fun st => wpAny_pure ?_
    split
    · rename_i c _ _ _ _ _
      cases (c == Value.type "enumerate")
      · wp_walk using wpAny_pyIter_tuple hT
        exact ⟨_, rfl, h⟩
      · wp_walk using wpAny_pyIter_tuple hT
        exact ⟨_, rfl, h⟩
    · wp_walk using wpAny_pyIter_tuple hT
      exact ⟨_, rfl, h⟩

section
variable {prog : Program} {w : World} {A : Around} {E : Value → Shared → Prop} {s : Shared}
theorem call_enum_T {t : Addr} {its : Array Value} {Q : Value → Shared → Prop} (hT : s.heap.IsTuple t its)
    (k : ∀ g, IsEnum g (s.heap.objs.size + 1) s.heap.objs.size 0 .none → g.IsTupleIter s.heap.objs.size t 0 → (∀ b o, s.heap.get? b = some o → g.get? b = some o) → Q (.ref (s.heap.objs.size + 1)) { s with heap := g }) :
    wpAny (model prog w) A (call (.type "enumerate") [.ref t]) Q E s := by
  refine callType_new F.called_enumerate (by decide) (F.typeCall_enumerate_1 _) (F.newCall_enumerate_1 _) (fun o => F.args_object_init_2 o _) F.entry_enumerate_new (meets_enum_T t its) ⟨hT, ?_⟩
  have z : (s.heap.push { cls := .type "tuple_iterator", data := .fields #[.ref t, .int 0 0] }).objs.size = s.heap.objs.size + 1 := Heap.size_push ..
  show _ ∧ _
  rw [z]
  have en : IsEnum ((s.heap.push { cls := .type "tuple_iterator", data := .fields #[.ref t, .int 0 0] }).push { cls := .type "enumerate", data := .fields #[.none, .bool false, .ref s.heap.objs.size, rawInt 0, .none, .none] }) (s.heap.objs.size + 1) s.heap.objs.size 0 .none := by
    have q := Heap.get?_push_size (s.heap.push { cls := .type "tuple_iterator", data := .fields #[.ref t, .int 0 0] }) (o := { cls := .type "enumerate", data := .fields #[.none, .bool false, .ref s.heap.objs.size, rawInt 0, .none, .none] }) rfl
    rw [z] at q
    exact q
  exact ⟨⟨_, en, rfl⟩, k _ en ⟨_, Heap.get?_push_of_some _ (Heap.get?_push_size _ rfl), rfl, rfl⟩ fun b o y => Heap.get?_push_of_some _ (Heap.get?_push_of_some _ y)⟩
end
/-- the tuple at a as it stands at each turn, each item in a new pair -/
def IteT (K : PySem.W.Frag) (a : Addr) : It :=
  ⟨fun i H => ∃ (xs : List V) (x : V), SqT K H a xs ∧ xs[i]? = some x, fun i H v H' => ∃ T x, v = .ref T ∧ H T = none ∧ H' = upd H T (.tup [.int (i : Nat), x]) ∧ ∀ xs, SqT K H a xs → xs[i]? = some x, fun i H => ∃ xs : List V, SqT K H a xs ∧ xs.length = i⟩
theorem turn_enumT {P : Program} {w : World} {K : PySem.W.Frag} {elts : List Expr} {kk : Nat} {tpos : Pos} (a e it : Addr) :
    Turn P w K (.Tuple elts kk tpos) (IteT K a) [e, it] e (fun i h => (∃ old, IsEnum h e it ((i : Nat) : Int) old) ∧ h.IsTupleIter it a i ∧ e ≠ it ∧ a ≠ it ∧ e ≠ a) where
  mem := by simp
  obj := fun i h st b hb => by
    obtain ⟨⟨old, en⟩, ⟨o, ho, hc, hd⟩, _⟩ := st
    rcases (show b = e ∨ b = it by simpa using hb) with z | z
    · rw [z]; exact ⟨_, en, fun v q => nomatch q⟩
    · rw [z]; exact ⟨o, ho, fun v q => by rw [hd] at q; cases q⟩
  keep := fun i h h' st k => let ⟨⟨old, en⟩, hi, r⟩ := st; ⟨⟨old, k e (by simp) _ en⟩, hi.at fun o y => k it (by simp) o y, r⟩
  item := by
    intro X hP hw hK hc i pins s σ H E I hf st hg
    subst hP hw hK
    obtain ⟨⟨old, en⟩, hit, hne, hai, hea⟩ := st
    obtain ⟨xs, x, hq, hx⟩ := hg
    obtain ⟨its, rv, p, hz⟩ := I.tuple hq
    obtain ⟨u, hu, ru⟩ := rv.get hx
    have pT : s.heap.IsTuple a its.toArray := p
    have hil : i < its.toArray.size := by
      have q := (List.getElem?_eq_some_iff.mp hu).1
      simpa using q
    have l1 : e < s.heap.objs.size := Heap.lt_size en
    have l2 : it < s.heap.objs.size := by obtain ⟨_, q, _⟩ := hit; exact Heap.lt_size q
    have hh1 : X.A.in1.handled = none := I.ok.hd hc
    refine wpAny_pyNext_enum_itemD (Draws.tuple hh1 it a hai its.toArray) en ⟨hit, pT⟩ hil hne (by simp [hne, hea]) fun x' g tk hx' ho st' hT hsz hk => ?_
    have ex : x' = u := by
      have q : its.toArray[i]? = some u := by simpa using hu
      rw [q] at hx'
      exact (Option.some.inj hx').symm
    subst ex
    refine ⟨_, rfl, wpAny_letOwnedTupleGo_enum (s := { s with heap := g, toks := tk + 1 }) ho fun g2 he' sb => ?_⟩
    have hT2 : g2.get? s.heap.objs.size = some { cls := .type "tuple", data := .seq #[.int i tk, x'] } := (sb.2 _ (Nat.ne_of_gt l1)).trans hT
    have new : ObjOk X.prog X.w (upd H s.heap.objs.size (.tup [.int (i : Nat), x])) g2 s.heap.objs.size (.tup [.int (i : Nat), x]) :=
      ⟨by show 2 ≤ sizeLine; decide, [.int i tk, x'], .cons ⟨_, rfl⟩ (.cons ru .nil), ⟨_, hT2, rfl, _, rfl⟩⟩
    have I1 : Inv X pins σ (upd H s.heap.objs.size (.tup [.int (i : Nat), x])) { s with heap := g2, toks := tk + 1 } :=
      I.turnedNew (ch := [e, it]) (fun b o hb y => (sb.2 b (fun z => hb (by simp [z]))).trans (hk b o (fun z => hb (by simp [z])) (fun z => hb (by simp [z])) y)) hf (Nat.le_refl _) new
    refine ⟨.ref s.heap.objs.size, _, I1, rfl, ⟨_, x, rfl, I.hok.fresh (Nat.le_refl _), rfl, fun ys hy => by rw [I.tuple_inj hy hq]; exact hx⟩, ⟨⟨x', ?_⟩, st'.1.at fun o y => (sb.2 it (Ne.symm hne)).trans y, hne, hai, hea⟩, fun b hb => ?_⟩
    · rw [show ((i + 1 : Nat) : Int) = (i : Int) + 1 by omega]
      exact he'
    · have lb : b < s.heap.objs.size := by
        rcases (show b = e ∨ b = it by simpa using hb) with z | z
        · rw [z]; exact l1
        · rw [z]; exact l2
      rw [upd_ne (Nat.ne_of_lt lb)]
      exact (hf b hb).1
  done := by
    intro X hP hw hK hc i pins s σ H E I hf st hg
    subst hP hw hK
    obtain ⟨⟨old, en⟩, hit, hne, hai, hea⟩ := st
    obtain ⟨xs, hq, hx⟩ := hg
    obtain ⟨its, rv, p, hz⟩ := I.tuple hq
    have pT : s.heap.IsTuple a its.toArray := p
    have hh1 : X.A.in1.handled = none := I.ok.hd hc
    have ei : its.toArray.size = i := by rw [← hx, rv.length]; simp
    obtain ⟨f0, f1, f2, f3, f4, f5⟩ := hf it (by simp)
    refine wpAny_pyNext_enum_endD (Draws.tuple hh1 it a hai its.toArray) en (by rw [ei]; exact ⟨hit, pT⟩) fun g eb => ⟨rfl, I.turned (t' := s.toks) (fun b o hb y => eb b o hb y) f0 f1 f3 f4 f5⟩
  self := fun A i s Q E st h => let ⟨⟨_, en⟩, _⟩ := st; wpAny_pyIter_enum en h
def iEnumT (K : PySem.W.Frag) (ta : TA) : TI := fun σ H R => ta σ H fun vs H1 => ∃ a xs, vs = [.ref a] ∧ SqT K H1 a xs ∧ R (IteT K a) H1
theorem pi_enumT {X : Cx} {e : Expr} {ta : TA} {p pos tpos : Pos} {elts : List Expr} {kk : Nat} (hg : Gl X "enumerate") (hm : X.mg "enumerate" = none) (ha : PA X [e] ta) (hs : starEach [e] X.env = [(false, eval e X.env)] := by rfl) :
    PI X (.Tuple elts kk tpos) (.Call (.Name "enumerate" p) [e] [] pos) (iEnumT X.K ta) := by
  refine ⟨fun pins s σ H R I h => ?_⟩
  refine wpAny_Call_Name_kw (ld_blt I hg hm PyProof.Rows.boot_enumerate (PyProof.Rows.callWith_type1 (thn (ha.run pos pins s σ H _ I h) fun us s1 z => ?_) hs rfl))
  obtain ⟨vs, H1, I1, r1, a, xs, ex, hq, q⟩ := z
  subst ex
  obtain ⟨u, rfl, ru⟩ := vals1 r1
  cases ru
  obtain ⟨its, rv, p', hz⟩ := I1.tuple hq
  have pT : s1.heap.IsTuple a its.toArray := p'
  obtain ⟨oa, hoa, _⟩ := id pT
  have la : a < s1.heap.objs.size := Heap.lt_size hoa
  refine call_enum_T pT fun g en hit hk => wpAny_pyIter_enum en ?_
  have I2 : Inv X pins σ H1 { s1 with heap := g } := I1.kept (t' := s1.toks) hk
  refine ⟨s1.heap.objs.size + 1, [s1.heap.objs.size + 1, s1.heap.objs.size], _, _, H1, rfl, I2, turn_enumT a (s1.heap.objs.size + 1) s1.heap.objs.size, ⟨⟨.none, en⟩, hit, Nat.succ_ne_self _, Nat.ne_of_lt la, Nat.ne_of_gt (Nat.lt_succ_of_lt la)⟩, fun b hb => ?_, q⟩
  have ge : s1.heap.objs.size ≤ b := by
    rcases (show b = s1.heap.objs.size + 1 ∨ b = s1.heap.objs.size by simpa using hb) with z | z
    · rw [z]; exact Nat.le_add_right _ _
    · rw [z]; exact Nat.le_refl _
  exact I1.fpOk ge (I1.hok.fresh ge)
theorem walk_enumT {K : PySem.W.Frag} {a : Addr} {xs : List V} : Walk (IteT K a) xs.length (fun H => SqT K H a xs) (YPair (fun i => some (.int (i : Nat))) (fun i => xs[i]?)) := by
  refine ⟨fun i _ hi q => ⟨xs, xs[i], q, by simp [hi]⟩, fun _ q => ⟨xs, q, rfl⟩, fun i H v H' _ q y => ?_⟩
  obtain ⟨T, x, y1, y2, y3, y4⟩ := y
  exact ⟨T, .int (i : Nat), x, y1, y2, y3, rfl, y4 xs q⟩
/-! ### one rule or another -/
section
variable {X : Cx} {e : Expr}
theorem pe_or' {t u : TE} (a : PE X e t) (b : PE X e u) : PE X e (fun σ H Q => t σ H Q ∨ u σ H Q) := ⟨fun pins s σ H Q I h => h.elim (a.run pins s σ H Q I) (b.run pins s σ H Q I)⟩
theorem pg_or {t u : TG} (a : PG X e t) (b : PG X e u) : PG X e (fun v σ H Q => t v σ H Q ∨ u v σ H Q) := ⟨fun pins s σ H v w Q I r h => h.elim (a.run pins s σ H v w Q I r) (b.run pins s σ H v w Q I r)⟩
theorem pi_or {tg : Expr} {t u : TI} (a : PI X tg e t) (b : PI X tg e u) : PI X tg e (fun σ H R => t σ H R ∨ u σ H R) := ⟨fun pins s σ H R I h => h.elim (a.run pins s σ H R I) (b.run pins s σ H R I)⟩
theorem op_or' {f : Value → Value → Sem Value} {r q : R2} (a : OpR X f r) (b : OpR X f q) : OpR X f (fun x y H Q => r x y H Q ∨ q x y H Q) := fun pins s σ H x y v u Q I rx ry h => h.elim (a pins s σ H x y v u Q I rx ry) (b pins s σ H x y v u Q I rx ry)
theorem ps_or {st : Stmt} {t u : TS} (a : PS X st t) (b : PS X st u) : PS X st (fun D σ H => t D σ H ∨ u D σ H) := ⟨fun pins s σ H D I h => h.elim (a.run pins s σ H D I) (b.run pins s σ H D I)⟩
theorem call_or {f : Value} {r q : List V → Hp → VK → Prop} (a : CallR X f r) (b : CallR X f q) : CallR X f (fun xs H Q => r xs H Q ∨ q xs H Q) := fun pins s σ H xs us Q I rv h => h.elim (a pins s σ H xs us Q I rv) (b pins s σ H xs us Q I rv)
end
end Ts

set_option maxRecDepth 100000
set_option maxHeartbeats 4000000
namespace Ts
open PySem L2
section
variable {X : Cx}
/-- a local takes a dict comprehension on one line -/
theorem ps_setDc {i : Nat} {y : Str} {py : Pos} {kx vx tg iter : Expr} {ifs : List Expr} {scope : Scope} {own : List (Str × Nat)} {pos spos : Pos} {wi : TI} {g : TG} {tt : TT} {tk tv : TE} (hc : X.calm = true) (hN : X.N.Nodup) (hy : X.N[i]? = some y) (hyl : X.env.scope.names.lookup y = some .local)
    (hsw : swapsWith (.DictComp kx vx [⟨tg, iter, ifs, 0⟩] scope pos) (some (.Name y py)) spos.line X.env = pure true) (hi : PI X tg iter wi) (ok : BlkOk X.N X.env.scope scope own)
    (hg : ∀ (s : Shared) (H : Hp) (C : Addr) (cl : List (Str × Addr)) (fp : List Addr), PG (X.blk s H scope (compEnvC scope cl C X.env) fp) tg g) (ht : ∀ (s : Shared) (H : Hp) (C : Addr) (cl : List (Str × Addr)) (fp : List Addr), PTs (X.blk s H scope (compEnvC scope cl C X.env) fp) ifs tt)
    (hk : ∀ (s : Shared) (H : Hp) (C : Addr) (cl : List (Str × Addr)) (fp : List Addr), PE (X.blk s H scope (compEnvC scope cl C X.env) fp) kx tk)
    (he : ∀ (s : Shared) (H : Hp) (C : Addr) (cl : List (Str × Addr)) (fp : List Addr), PE (X.blk s H scope (compEnvC scope cl C X.env) fp) vx tv) (hs : ∀ x, foldedSetIterable iter X.env x = pure x := by intro _; rfl) :
    PS X (.Assign [.Name y py] (.DictComp kx vx [⟨tg, iter, ifs, 0⟩] scope pos) spos) (tAsg (tDc wi g tt tk tv (own.map (·.2))) (gName i)) := by
  refine ⟨fun pins s σ H D I h => ?_⟩
  rw [exec_Assign_Name_used _ _ _ _ hsw]
  refine wpAny_bind (wpAny_standAt (wpAny_bind ?_))
  show wpAny _ X.A (do let _ ← comprehension (.DictComp kx vx [⟨tg, iter, ifs, 0⟩] scope pos) scope X.env (firstIterPos [⟨tg, iter, ifs, 0⟩] pos) newDict false (eval iter X.env) (some (assign (.Name y py) X.env))) _ _ s
  have h' : tDc wi g tt tk tv (own.map (·.2)) σ H (fun x H1 => gName i x σ H1 D.nx) := h
  refine wpAny_bind (thn (dc_core (Qf := fun _ s' => SP X pins D .next s') hc hN I hi ok hg ht hk he hs h' fun L C s' m H' I' q hn f => ?_) fun _ s' z => wpAny_pure (wpAny_pure z))
  show wpAny _ _ (assign (.Name y py) X.env (.ref L)) _ _ _
  refine wpAny_assign_Name (store_ok2 (v := V.ref L) I' hN hy (.inl hyl) rfl (fun s2 I2 ⟨a, sb, za⟩ => ?_) (.inr hyl))
  obtain ⟨f0, f1, f2, f3, f4, f5⟩ := f
  have ca : C ≠ a := by
    rcases za with z | z
    · rw [z]; exact f1
    · exact fun e => f4 y a z e.symm
  refine ⟨m, hn.sameBut sb ca, fun h3 sb3 => ?_⟩
  exact ⟨_, H', I2.turned (t' := s2.toks) (fun b o hb e => (sb3.2 b hb).trans e) f0 f1 f3 f4 f5, q⟩
theorem swd_true {kx vx : Expr} {gs : List Comprehension} {scope : Scope} {pos py : Pos} {y : Str} {l : Nat} {env : Env} (hk : env.scope.kind = .function) (hy : env.scope.names.lookup y = some .local) (hl : (py.line == pos.line) = true)
    (ha : (scope.names.any fun (n, k) => n == y && (k == .local || k == .cell)) = false) : swapsWith (.DictComp kx vx gs scope pos) (some (.Name y py)) l env = pure true := by
  have k1 : env.kindOf y = some .local := hy
  have k2 : env.blockKind = .function := by unfold Env.blockKind; rw [hk]; rfl
  unfold swapsWith
  simp only [k1, k2, ha, Expr.pos, hl]
  rfl
/-- a dict comprehension over what walks -/
theorem dc_it {J : It} {n : Nat} {G : Hp → Prop} {Y : Nat → Hp → V → Hp → Prop} (w : Walk J n G Y) {g : TG} {tt : TT} {tk tv : TE} {vs : List Nat} {σ : St} {H1 : Hp} {D : Addr} {Qd : Hp → Prop} (Pv : Nat → Hp → Prop) (h0 : Pv 0 (upd H1 D (.dK []))) (hG : ∀ i H, i ≤ n → Pv i H → G H)
    (hs : ∀ i x H H', i < n → Pv i H → Y i H x H' → g x (wipe σ vs) H' fun σ2 H2 => wipe σ2 vs = wipe σ vs ∧ tt σ2 H2 fun b H3 =>
      if b = true then tk σ2 H3 fun y H4 => tv σ2 H4 fun z H5 => ∃ kvs k, y = kV k ∧ H5 D = some (.dK kvs) ∧ kvs.length < sizeLine ∧ Pv (i + 1) (upd H5 D (.dK (putK kvs k z))) else Pv (i + 1) H3) (hd : ∀ H, Pv n H → Qd H) :
    ∃ W : Nat → Nat → Hp → Prop, (∃ m, W 0 m (upd H1 D (.dK []))) ∧ ∀ i m H, W i m H →
      (J.stop i H ∧ Qd H) ∨ (J.go i H ∧ ∃ Nx : Hp → Prop, (∀ H', Nx H' → ∃ m', m' < m ∧ W (i + 1) m' H') ∧ ∀ x H', J.yld i H x H' → g x (wipe σ vs) H' fun σ2 H2 => wipe σ2 vs = wipe σ vs ∧ tt σ2 H2 fun b H3 =>
        if b = true then tk σ2 H3 fun y H4 => tv σ2 H4 fun z H5 => ∃ kvs k, y = kV k ∧ H5 D = some (.dK kvs) ∧ kvs.length < sizeLine ∧ Nx (upd H5 D (.dK (putK kvs k z))) else Nx H3) := by
  refine ⟨fun i m H => m = n - i ∧ i ≤ n ∧ Pv i H, ⟨n, by simp, Nat.zero_le _, h0⟩, ?_⟩
  rintro i m H ⟨rfl, le, p⟩
  have q := hG i H le p
  by_cases lt : i < n
  · exact .inr ⟨w.goes i H lt q, Pv (i + 1), fun H' p' => ⟨n - (i + 1), by omega, rfl, lt, p'⟩, fun x H' y => hs i x H H' lt p (w.yields i H x H' lt q y)⟩
  · obtain rfl : i = n := by omega
    exact .inl ⟨w.stops H q, hd H p⟩
end
end Ts

set_option maxRecDepth 100000
set_option maxHeartbeats 4000000
namespace Ts
open PySem L2
/-! ### an own error class with one field, as it stands -/
structure ErrT (K : PySem.W.Frag) (mg : Str → Option Value) (E : Addr) (nm fn : Str) : Prop where
  O : OexC K E
  X : XfC K E
  nb : PySem.W.findIn K (.ref E) fn = some none
  g : mg nm = some (.ref E)
  te : PySem.W.exmOne K (.ref E) (.ref E) = some true
theorem exm_self {K : PySem.W.Frag} {S : Addr} (h1 : PySem.W.subIn K (.ref S) (.type "BaseException") = some true) (h2 : PySem.W.isClsIn K S = true) (h3 : PySem.W.typeIn K (.ref S) = some (.type "type")) (h4 : PySem.W.subIn K (.ref S) (.ref S) = some true) :
    PySem.W.exmOne K (.ref S) (.ref S) = some true := by
  have e1 : (PySem.W.subIn K (.ref S) (.type "BaseException") == some true) = true := by rw [h1] <;> rfl
  have e2 : ((PySem.W.clsIn K S).isSome && PySem.W.typeIn K (.ref S) == some (.type "type")) = true := by
    have h2' : (PySem.W.clsIn K S).isSome = true := h2
    rw [h2', h3] <;> rfl
  show (if (PySem.W.subIn K (.ref S) (.type "BaseException") == some true) = true then (if ((PySem.W.clsIn K S).isSome && PySem.W.typeIn K (.ref S) == some (.type "type")) = true then PySem.W.subIn K (.ref S) (.ref S) else none) else none) = some true
  rw [if_pos e1, if_pos e2]
  exact h4
/-- an error of the class at S is not what «except D» names -/
theorem exm_other {K : PySem.W.Frag} {S D : Addr} (h1 : PySem.W.subIn K (.ref D) (.type "BaseException") = some true) (h2 : PySem.W.isClsIn K D = true) (h3 : PySem.W.typeIn K (.ref D) = some (.type "type")) (h4 : PySem.W.subIn K (.ref S) (.ref D) = some false) :
    PySem.W.exmOne K (.ref S) (.ref D) = some false := by
  have e1 : (PySem.W.subIn K (.ref D) (.type "BaseException") == some true) = true := by rw [h1] <;> rfl
  have e2 : ((PySem.W.clsIn K D).isSome && PySem.W.typeIn K (.ref D) == some (.type "type")) = true := by
    have h2' : (PySem.W.clsIn K D).isSome = true := h2
    rw [h2', h3] <;> rfl
  show (if (PySem.W.subIn K (.ref D) (.type "BaseException") == some true) = true then (if ((PySem.W.clsIn K D).isSome && PySem.W.typeIn K (.ref D) == some (.type "type")) = true then PySem.W.subIn K (.ref S) (.ref D) else none) else none) = some false
  rw [if_pos e1, if_pos e2]
  exact h4
theorem errAll {K : PySem.W.Frag} {h : Heap} {mg : Str → Option Value} (X : K.In h) (G : h.Ns mainGlobals mg) {E BE f : Addr} {cn fn iq : Str} {st : Stmt} {nm q : Str} {N : Addr} {bs : List Value} {sn : List Str} {sub : List Value} {ab : Bool} {col : Option Bool} {dd : Option Addr} {m0 m1 m2 m3 m5 : Option Value}
    {od an : Option Addr} {sl : Array (Option Value)} {oc kV dc pm cd ct : Value}
    (aC : PySem.W.nsIn K mainGlobals cn = some (some (.ref E)))
    (xL : K.lookup E = some (excClassObj nm q E N bs [.ref BE, .type "ValueError", .type "Exception", .type "BaseException", .type "object"] true sn sub ab col dd m0 m1 m2 m3 m5 "ValueError.__new__"))
    (sa : PySem.W.findIn K (.ref E) "__setattr__" = some (some (.builtin "object.__setattr__"))) (ga : PySem.W.findIn K (.ref E) "__getattribute__" = some (some (.builtin "BaseException.__getattribute__"))) (gg : PySem.W.findIn K (.ref E) "__getattr__" = some none) (nb : PySem.W.findIn K (.ref E) fn = some none)
    (a1 : PySem.W.findIn K (.ref E) "__init__" = some (some (.ref f))) (t1 : PySem.W.typeIn K (.ref f) = some (.type "function"))
    (l1 : K.lookup f = some ⟨oc, od, .func (PySem.W.fnOf "__init__" iq (defArgs st) (defBody st) (defScope st) .none kV dc pm an cd ct), sl⟩) (c1 : PySem.W.codeIn K cd iq = true) (k1 : PySem.W.keepIn K (.ref f) = true)
    (kC : PySem.W.keepIn K (.ref E) = true) (eC : PySem.W.subIn K (.ref E) (.type "BaseException") = some true) (tC : PySem.W.typeIn K (.ref E) = some (.type "type")) (hC : PySem.W.hasDictIn K E = true) (iC : PySem.W.isClsIn K E = true) (sC : PySem.W.subIn K (.ref E) (.ref E) = some true) :
    ErrT K mg E cn fn ∧ ∃ (f : Addr) (fd : FuncData), PySem.W.findIn K (.ref E) "__init__" = some (some (.ref f)) ∧ PySem.W.typeIn K (.ref f) = some (.type "function") ∧ Fun K "__init__" iq st f fd :=
  ⟨⟨⟨⟨nm, q, N, bs, _, sn, sub, ab, col, dd, m0, m1, m2, m3, m5, xL, rfl⟩, sa, eC, tC, kC⟩, ⟨ga, gg, eC, hC⟩, nb, PySem.W.mg_of X G aC, exm_self eC iC tC sC⟩, f, _, a1, t1, fun_mk l1 c1 k1⟩
end Ts

set_option maxRecDepth 100000
set_option maxHeartbeats 4000000
namespace Ts
open PySem L2
/-! ### an own error with one field that its own __init__ stores -/
def spErr1 (CC : Addr) (fn : Str) : Sp := fun vs H Q _ => ∃ (a : Addr) (x : V), vs = [.ref a, x] ∧ H a = some (exo a CC none) ∧ ∀ d, H d = none → d ≠ a → Q .non (upd (upd H d (exd d [(fn, x)])) a (exo a CC (some d)))
section
variable {CC : Addr}
/-- what stands behind a raise: the error's own dict, new -/
theorem rd_err1 {fn : Str} {H1 : Hp} {x : V} {Q : XK} (k : ∀ d, H1 d = none → Q (.ref CC) (some d) (upd H1 d (.xd [(fn, x)]))) : ([x] : List V).length ≤ 1000 ∧ ∀ a, H1 a = none → spErr1 CC fn (.ref a :: ([x] ++ [])) (upd H1 a (exo a CC none)) (fun v H2 => v = .non ∧ ∃ (d : Addr) (fs : List (Str × V)), H2 a = some (exo a CC (some d)) ∧ H2 d = some (exd d fs) ∧ H1 d = none ∧ Q (.ref CC) (some d) (upd (del H2 a) d (.xd fs))) (fun _ _ _ => False) := by
  refine ⟨(by show 1 ≤ 1000; decide), fun a ha => ⟨a, x, rfl, upd_same, fun d hd ne => ⟨rfl, d, [(fn, x)], upd_same, by rw [upd_ne ne]; exact upd_same, by rw [upd_ne ne] at hd; exact hd, ?_⟩⟩⟩
  have hd1 : H1 d = none := by rw [upd_ne ne] at hd; exact hd
  have e : upd (del (upd (upd (upd H1 a (exo a CC none)) d (exd d [(fn, x)])) a (exo a CC (some d))) a) d (.xd [(fn, x)]) = upd H1 d (.xd [(fn, x)]) := by
    funext b
    by_cases q : b = d
    · rw [q, upd_same, upd_same]
    · rw [upd_ne q, upd_ne q]
      unfold del
      by_cases r : b = a
      · rw [if_pos r, r]; exact ha.symm
      · rw [if_neg r, upd_ne r, upd_ne q, upd_ne r]
  rw [e]
  exact k d hd1
end
section
variable {P : Program} {w : World} {K : PySem.W.Frag} {mg : Str → Option Value} {base : Heap}
/-- where nothing is raised, a def that may raise is as one that may not -/
theorem calm {k : Nat} {f : Addr} {fd : FuncData} {ps : List Str} {sp sp' : Sp} (F : FnOk P w K mg base (L2.CX P w) k f fd ps sp) (h : ∀ vs H Q E, sp' vs H Q E → sp vs H Q E0) : FnOk P w K mg base CX0 k f fd ps sp' :=
  ⟨fun vs H Q E q => F.len vs H Q E0 (h _ _ _ _ q), fun A outer s H args us vs Q E hr he hb hv hs => codeAny_mono (F.run A outer s H args us vs Q E0 hr he hb hv (h _ _ _ _ hs)) fun r s' q => by
    cases r with
    | ok f => cases f <;> exact q
    | error e =>
      obtain ⟨_, _, _, _, _, _, _, _, _, _, _, _, z⟩ := q
      exact z.elim⟩
end
end Ts

set_option maxRecDepth 100000
set_option maxHeartbeats 4000000
namespace Ts
open PySem PySem.Spec PyProof.Rows L2
/-! ### an own error class that takes nothing -/
abbrev veBases : List Value := [.type "ValueError", .type "Exception", .type "BaseException", .type "object"]
structure Err0 (K : PySem.W.Frag) (mg : Str → Option Value) (E : Addr) (nm : Str) : Prop where
  q : PySem.W.excIn K E veBases "ValueError.__new__" = true
  k : PySem.W.keepIn K (.ref E) = true
  b : PySem.W.subIn K (.ref E) (.type "BaseException") = some true
  t : PySem.W.typeIn K (.ref E) = some (.type "type")
  g : mg nm = some (.ref E)
  te : PySem.W.exmOne K (.ref E) (.ref E) = some true
theorem pmk_err0 {X : Cx} {E : Addr} {x : Str} {p pos : Pos} (T : Err0 X.K X.mg E x) (hg : Gl X x) (hdb : (x == ("__debug__" : Str)) = false := by decide) :
    PMk X (.Call (.Name x p) [] [] pos) (fun _ H Q => Q (.ref E) none H) := by
  intro pins s σ H Q I h
  refine wpAny_Call_Name_kw (ld_glob I hg T.g ?_ hdb)
  refine PySem.W.callWith_K0 I.kIn T.k ?_
  show wpAny _ _ (call (.ref E) []) _ _ _
  obtain ⟨_, _, _, _, _, _, _, _, _, _, _, _, _, _, _, _, _, cl, mr, nin, tl⟩ := exc_obj I.kIn T.q
  refine wpAny_call_exc_subT PySem.F.excBase_ValueError tl cl mr nin (fun h' e made => ?_) (Nat.zero_le _)
  exact mk_of I made (raises_own T.b T.t) h (I.hok.gone made.new)
end Ts

set_option maxRecDepth 100000
set_option maxHeartbeats 4000000
namespace Ts
open PySem PySem.Spec PyProof.Rows L2
/-! ### errors as values: made, held, asked for their fields and their classes -/
/-- C(e, ..) as a value -/
def tMkV (C : Addr) (sp : Sp) (dvs : List V) (ta : TA) : TE := fun σ H Q => ta σ H fun vs H1 => vs.length ≤ 1000 ∧ ∀ a, H1 a = none → sp (.ref a :: (vs ++ dvs)) (upd H1 a (exo a C none)) (fun v H2 => v = .non ∧ Q (.ref a) H2) (fun _ _ _ => False)
/-- the fields of an error value, as they stand -/
def tXv (K : PySem.W.Frag) (f : Str) (te : TE) : TE := fun σ H Q => te σ H fun x H1 => ∃ (a C dd : Addr) (fs : List (Str × V)) (v : V), x = .ref a ∧ H1 a = some (exo a C (some dd)) ∧ H1 dd = some (exd dd fs) ∧ XfC K C ∧ PySem.W.findIn K (.ref C) f = some none ∧ fs.lookup f = some v ∧ Q v H1
/-- isinstance(e, c), e an error value -/
def rIsV (K : PySem.W.Frag) : List V → Hp → VK → Prop := fun xs H Q => ∃ (a C : Addr) (dd : Option Addr) (c : V) (cv : Value) (b : Bool), xs = [.ref a, c] ∧ H a = some (exo a C dd) ∧ (∀ d, dd = some d → ∃ fs, H d = some (exd d fs)) ∧ ExcC K C ∧ (∀ u, RelV c u → u = cv) ∧ PySem.W.kitOne K (.ref C) cv = some b ∧ Q (.bl b) H
section
variable {X : Cx} {e : Expr} {es : List Expr} {ta : TA} {te : TE} {p pos : Pos} {n : Str}
theorem pe_oexV {CX : CXT} {x : Str} {C fI : Addr} {k : Nat} {fd : FuncData} {ps : List Str} {sp : Sp} {ds : List Value} {dvs : List V} (T : OexC X.K C) (iC : PySem.W.findIn X.K (.ref C) "__init__" = some (some (.ref fI))) (tI : PySem.W.typeIn X.K (.ref fI) = some (.type "function"))
    (F1 : FnOk X.prog X.w X.K X.mg X.base CX k fI fd ps sp) (hr : Room (k + 1) X.A) (hb : Binds X.K fd ps ds) (hd : Vals dvs ds) (hx : Passes CX X (fun _ _ _ => False)) (hg : Gl X x) (hm : X.mg x = some (.ref C)) (ha : PA X (e :: es) ta)
    (hdb : (x == ("__debug__" : Str)) = false := by decide) (he : starEach (e :: es) X.env = (false, eval e X.env) :: starEach es X.env := by rfl) (hpl : (backTo pos (starEach es X.env)).any (·.1) = false := by rfl) :
    PE X (.Call (.Name x p) (e :: es) [] pos) (tMkV C sp dvs ta) := by
  refine ⟨fun pins s σ H Q I h => ?_⟩
  obtain ⟨nm, q, N, bs, bm, sn, sub, ab, col, dd, k0, k1, k2, k3, k5, hC, hbm⟩ := T.cls
  refine wpAny_Call_Name_kw (ld_glob I hg hm ?_ hdb)
  refine PySem.W.callWith_K (h₀ := X.base) I.ok.mod.kin T.kC (thn (ha.run pos pins s σ H _ I h) fun us s1 ⟨vs, H1, I1, r1, hz, q1⟩ => ⟨I1.kIn, ?_⟩) he hpl
  show wpAny _ _ (call (.ref C) us) _ _ _
  obtain ⟨hp, g, dr, tk, os⟩ := s1
  have hsz : hp.objs.size ≤ hp.objs.size + 1 := Nat.le_succ _
  have hn : H1 (hp.objs.size + 1) = none := I1.hok.fresh hsz
  have hq := q1 (hp.objs.size + 1) hn
  have kk : ∀ b o, hp.get? b = some o → ((hp.push (PySem.W.kdv_tup us)).push (PySem.HandSPX.excO C hp.objs.size)).get? b = some o := fun b o e => Heap.get?_push_of_some _ (Heap.get?_push_of_some _ e)
  have hget : ((hp.push (PySem.W.kdv_tup us)).push (PySem.HandSPX.excO C hp.objs.size)).get? (hp.objs.size + 1) = some (PySem.HandSPX.excO C hp.objs.size) := by heap_get
  have I2 : Inv X pins σ (upd H1 (hp.objs.size + 1) (exo (hp.objs.size + 1) C none)) ⟨(hp.push (PySem.W.kdv_tup us)).push (PySem.HandSPX.excO C hp.objs.size), g, dr, tk, os⟩ :=
    I1.laid (t' := tk) (a := hp.objs.size + 1) (o := exo (hp.objs.size + 1) C none) (h' := (hp.push (PySem.W.kdv_tup us)).push (PySem.HandSPX.excO C hp.objs.size)) kk hsz (exo_ok hget)
  have r2 : Vals (V.ref (hp.objs.size + 1) :: (vs ++ dvs)) (Value.ref (hp.objs.size + 1) :: (us ++ ds)) := .cons rfl (r1.append hd)
  have hl : (Value.ref (hp.objs.size + 1) :: us ++ ds).length = ps.length := by
    have e := r2.length
    rw [F1.len _ _ _ _ hq] at e
    exact e.symm
  have hus : us.length ≤ sizeLine := by
    rw [← Paired.length r1, sizeLine_eq]
    omega
  refine wpAny_call (PySem.HandSPX.call_own F.excBase_ValueError (fun Y => PySem.HandSPX.refsVE_contains Y bm hbm) (I1.kIn _ _ hC) (PySem.W.looks_findIn I1.kIn iC) (fun self => PySem.W.bind_fn I1.kIn self tI) hus
    (codeAny_mono (F1.run _ X.stack _ _ ⟨Value.ref (hp.objs.size + 1) :: us, []⟩ (Value.ref (hp.objs.size + 1) :: (us ++ ds)) _ _ (fun _ _ _ => False) (hr.make C us []) (I2.env0.make C us []) (hb _ (Value.ref (hp.objs.size + 1) :: us) I2.kIn hl) r2 hq) fun r s' hq' => ?_))
  cases r with
  | error er => exact hx pins σ _ _ er s' I2 hq'
  | ok fl =>
    cases fl with
    | ret u =>
      obtain ⟨v, H', I3, rv, ev, q3⟩ := I2.after hq'
      subst ev
      exact ⟨rv, ⟨V.ref (hp.objs.size + 1), H', I3, rfl, q3⟩⟩
    | next => exact False.elim hq'
    | brk => exact False.elim hq'
    | cont => exact False.elim hq'
theorem pe_xv (he : PE X e te) (hb : attributeBase e n X.env (eval e X.env) = eval e X.env := by rfl) : PE X (.Attribute e n pos) (tXv X.K n te) := by
  refine ⟨fun pins s σ H Q I h => ?_⟩
  refine attr_of hb (thn (he.run pins s σ H _ I h) fun u s1 hh => ?_)
  obtain ⟨x, H1, I1, rx, a, C, dd, fs, v, ex, ea, ed, T, hno, l, q⟩ := hh
  subst ex
  obtain rfl : u = Value.ref a := rx
  obtain ⟨t1, ho⟩ := exo_at I1.hok ea
  obtain ⟨mA, hns, hr⟩ := exd_at I1.hok ed
  obtain ⟨od, hod, hl⟩ := lookIn_ns hns
  obtain ⟨u, hu, ru⟩ := RelO.some_of (v := v) (o := mA n) (by rw [← l]; exact hr n)
  have J : PySem.W.InstAt s1.heap a { cls := .ref C, dict := some dd, data := .fields #[.ref t1, .none, .none, .none, .bool false, .none] } C (some od) := ⟨ho, rfl, rfl, hod⟩
  exact HandSPX.exc_get I1.kIn J T.ga T.gg T.exC (PySem.W.findObj_own T.hdC hno rfl (by rw [hl, hu])) (handed_of ru) ⟨v, H1, I1.tok _, ru, q⟩
theorem call_isV : CallR X (.builtin "isinstance") (rIsV X.K) := by
  intro pins s σ H xs us Q I r h
  obtain ⟨a, C, dd, c, cv, b, rfl, ea, ed, T, hcv, e, q⟩ := h
  cases r with
  | cons rx rr =>
    cases rr with
    | cons rt rr =>
      cases rr
      cases rx
      have ec := hcv _ rt
      subst ec
      obtain ⟨t1, ho⟩ := exo_at I.hok ea
      have hcl : (PySem.W.clsIn X.K C).isSome = true := by
        obtain ⟨cd, hc, _⟩ := PySem.W.any_some T.hd
        rw [hc]; rfl
      have Z : ∀ od, PySem.W.KitX X.K (.ref a) (.ref C) (fun h => PySem.W.InstAt h a { cls := .ref C, dict := dd, data := .fields #[.ref t1, .none, .none, .none, .bool false, .none] } C od) := fun od => PySem.W.kitx_exc hcl T.hg T.hk T.hs T.ha T.hn T.ht T.hm
      cases dd with
      | none =>
        exact PySem.W.kia_one (Z none) I.kIn ⟨ho, rfl, rfl, trivial⟩ e (fun z => nomatch z) fun tk => ⟨.bl b, H, I.kept (t' := tk) fun _ _ z => z, rfl, q⟩
      | some d =>
        obtain ⟨fs, ed⟩ := ed d rfl
        obtain ⟨mA, hns, hr⟩ := exd_at I.hok ed
        obtain ⟨od, hod, _⟩ := lookIn_ns hns
        exact PySem.W.kia_one (Z (some od)) I.kIn ⟨ho, rfl, rfl, hod⟩ e (fun z => nomatch z) fun tk => ⟨.bl b, H, I.kept (t' := tk) fun _ _ z => z, rfl, q⟩
/-- C(), an own error class that takes nothing, as a value -/
theorem pe_err0V {C : Addr} {x : Str} (q : PySem.W.excIn X.K C veBases "ValueError.__new__" = true) (gC : X.mg x = some (.ref C)) (kC : PySem.W.keepIn X.K (.ref C) = true) (hg : Gl X x) (hdb : (x == ("__debug__" : Str)) = false := by decide) :
    PE X (.Call (.Name x p) [] [] pos) (fun _ H Q => ∀ a, H a = none → Q (.ref a) (upd H a (exo a C none))) := by
  refine ⟨fun pins s σ H Q I h => ?_⟩
  refine wpAny_Call_Name_kw (ld_glob I hg gC ?_ hdb)
  refine PySem.W.callWith_K0 I.kIn kC ?_
  show wpAny _ _ (call (.ref C) []) _ _ _
  obtain ⟨_, _, _, _, _, _, _, _, _, _, _, _, _, _, _, _, _, cl, mr, nin, tl⟩ := exc_obj I.kIn q
  refine wpAny_call_exc_subT PySem.F.excBase_ValueError tl cl mr nin (fun h' a made => ?_) (Nat.zero_le _)
  have hn : H a = none := I.hok.gone made.new
  obtain ⟨t, ht, _, _⟩ := made.there
  exact ⟨.ref a, upd H a (exo a C none), I.laidN made.keeps made.new hn (exo_ok ht), rfl, h a hn⟩
end
/-! ### made with keywords -/
section
open PySem.HandSPX
variable {M : Model} {A : Around} {E : Value → Shared → Prop} {h : Heap} {g : Array GenState} {d : PySem.Drawn} {t : Nat} {os : OsState}
variable {nm q : Str} {C N : Addr} {bs bm bmB : List Value} {hdct : Bool} {sn : List Str} {sub : List Value} {ab : Bool} {col : Option Bool} {dd : Option Addr} {k0 k1 k2 k3 k5 : Option Value} {B newId initId : String}
theorem checkNewK (F : ExcBaseFacts B newId initId bmB) (hT : ∀ X : String, bm.contains (.type X) = bmB.contains (.type X)) {rest : List Value} {kw : List (Str × Value)} {Q : Unit → Shared → Prop}
    (hC : h.get? C = some (excClassObj nm q C N bs bm hdct sn sub ab col dd k0 k1 k2 k3 k5 newId)) (hq : Q () ⟨h, g, d, t, os⟩) : wpAny M A (checkBuiltinCall newId ⟨.ref C :: rest, kw⟩) Q E ⟨h, g, d, t, os⟩ := by
  have hcont : (Value.ref C :: bm).contains (.type B) = true := by rw [List.contains_cons, hT, F.hasB, Bool.or_true]
  have hstar := F.noStar
  simp only [checkBuiltinCall, F.newKind, F.newSplit, F.newRow]
  repeat (first | refine wpAny_loadPart_at hC ?_ | (refine wpAny_isSubtype_exc hC ?_; rw [hcont]) | refine wpAny_staticBase_exc hC ?_ | refine wpAny_madeBy_exc hC ?_ | simp only [bne_self_eq_false, Bool.false_eq_true, if_false] | wp_step)
  exact hq
end
section
open PySem.HandSPX
variable {prog : Program} {w : World} {A : Around} {E : Value → Shared → Prop} {R : Result → Shared → Prop} {h : Heap} {g : Array GenState} {d : PySem.Drawn} {t : Nat} {os : OsState}
variable {nm q : Str} {C N : Addr} {bs bm bmB : List Value} {hdct : Bool} {sn : List Str} {sub : List Value} {ab : Bool} {col : Option Bool} {dd : Option Addr} {k0 k1 k2 k3 k5 : Option Value} {B newId initId : String}
theorem newK (F : ExcBaseFacts B newId initId bmB) (hT : ∀ X : String, bm.contains (.type X) = bmB.contains (.type X)) {rest : List Value} {kw : List (Str × Value)}
    (hC : h.get? C = some (excClassObj nm q C N bs bm hdct sn sub ab col dd k0 k1 k2 k3 k5 newId))
    (hq : R (.ok (.ret (.ref (h.objs.size + 1)))) ⟨(h.push { cls := .type "tuple", data := .seq rest.toArray }).push
      { cls := .ref C, data := .fields #[.ref h.objs.size, .none, .none, .none, .bool false, .none] }, g, d, t, os⟩) (hrest : rest.length ≤ sizeLine) :
    codeAny (model prog w) A (.builtin newId ⟨.ref C :: rest, kw⟩) R ⟨h, g, d, t, os⟩ := by
  have hends := F.ends
  have hcB : (Value.ref C :: bm).contains (.type B) = true := by rw [List.contains_cons, hT, F.hasB, Bool.or_true]
  have hcA : (Value.ref C :: bm).contains (.type "AttributeError") = false := by rw [List.contains_cons, hT, F.noAttr]; rfl
  have hcN : (Value.ref C :: bm).contains (.type "NameError") = false := by rw [List.contains_cons, hT, F.noName]; rfl
  refine codeAny_builtinAt F.entry ?_
  unfold Builtin.«BaseException.__new__»
  refine PySem.wpAt_bind ?_
  show PySem.wpAt _ _ _ (stack >>= _) _ _ _
  refine PySem.wpAt_bind (PySem.wpAt_stack fun p below => PySem.wpAt_of_wpAny ?_)
  wp_walk
  refine PySem.wpAt_of_wpAny ?_
  rw [F.owner]
  repeat (first | with_reducible refine wpAny_madeHere_exc F.canon hC ?_ | with_reducible refine wpAny_loadPart_at hC ?_ | (with_reducible refine wpAny_isSubtype_exc hC ?_; first | rw [hcB] | rw [hcA] | rw [hcN]) | wp_step)
  show R _ _
  rw [Heap.size_push]
  exact hq
theorem typeCallK (F : ExcBaseFacts B newId initId bmB) (hT : ∀ X : String, bm.contains (.type X) = bmB.contains (.type X)) {rest : List Value} {kw : List (Str × Value)} {fI : Addr} {Q : Fin → Shared → Prop}
    (hC : h.get? C = some (excClassObj nm q C N bs bm hdct sn sub ab col dd k0 k1 k2 k3 k5 newId))
    (hi : W.Looks (model prog w) h (typeLookup (.ref C) "__init__") (some (.ref fI))) (hb : ∀ self, W.Looks (model prog w) h (bindSpecial (.ref fI) self) (.ref fI, [self])) (hrest : rest.length ≤ sizeLine)
    (hq : codeAny (model prog w) A (.call (.ref fI) ⟨.ref (h.objs.size + 1) :: rest, kw⟩)
      (fun r s' => match r with | .ok (.ret v) => v = .none ∧ Q (.done (.ret (.ref (h.objs.size + 1)))) s' | .ok _ => False | .error e => E e s')
      ⟨(h.push (W.kdv_tup rest)).push (excO C h.objs.size), g, d, t, os⟩) :
    wpAny (model prog w) A (Builtin.«type.__call__» ⟨.ref C :: rest, kw⟩) Q E ⟨h, g, d, t, os⟩ := by
  repeat (first | with_reducible refine wpAny_loadPart_at hC ?_ | with_reducible refine wpAny_madeBy_exc hC ?_ | wp_step)
  refine codeAny_call_builtin_code (Code.quiet_builtin _ F.quiet) (checkNewK F hT hC ?_)
  refine newK F hT hC ?_ hrest
  show wpAny _ _ _ _ _ _
  have k : ∀ b o, h.get? b = some o → ((h.push (W.kdv_tup rest)).push (excO C h.objs.size)).get? b = some o := fun b o e => Heap.get?_push_of_some _ (Heap.get?_push_of_some _ e)
  have hC₁ := k _ _ hC
  have hget : ((h.push (W.kdv_tup rest)).push (excO C h.objs.size)).get? (h.objs.size + 1) = some (excO C h.objs.size) := by heap_get
  have hcC : (Value.ref C :: bm).contains (.ref C) = true := by simp
  have i1 := hi.keeps k
  have b1 := (hb (.ref (h.objs.size + 1))).keeps k
  unfold isInstance
  repeat (first | with_reducible refine wpAny_loadPart_at hget ?_ | (with_reducible refine wpAny_isSubtype_exc hC₁ ?_; rw [hcC]) | wp_step)
  show wpAny _ _ (typeLookup (.ref C) _) _ _ _
  refine i1.at ?_
  refine wpAny_holding (wpAny_bind (b1.at ?_))
  refine wpAny_bind (wpAny_call (codeAny_mono hq fun r s' z => ?_))
  rcases r with e | (v | _ | _ | _) <;> first | exact z | exact z.elim | skip
  obtain ⟨rfl, z⟩ := z
  first
    | exact wpAny_pure (wpAny_pure z)
    | (wp_walk; exact z)
theorem callOwnK (F : ExcBaseFacts B newId initId bmB) (hT : ∀ X : String, bm.contains (.type X) = bmB.contains (.type X)) {rest : List Value} {kw : List (Str × Value)} {fI : Addr}
    (hC : h.get? C = some (excClassObj nm q C N bs bm hdct sn sub ab col dd k0 k1 k2 k3 k5 newId))
    (hi : W.Looks (model prog w) h (typeLookup (.ref C) "__init__") (some (.ref fI))) (hb : ∀ self, W.Looks (model prog w) h (bindSpecial (.ref fI) self) (.ref fI, [self])) (hrest : rest.length ≤ sizeLine)
    (hq : codeAny (model prog w) (A.under (.builtin "type.__call__" ⟨.ref C :: rest, kw⟩)) (.call (.ref fI) ⟨.ref (h.objs.size + 1) :: rest, kw⟩) (W.InitBack (h.objs.size + 1) R)
      ⟨(h.push (W.kdv_tup rest)).push (excO C h.objs.size), g, d, t, os⟩) :
    codeAny (model prog w) A (.call (.ref C) ⟨rest, kw⟩) R ⟨h, g, d, t, os⟩ := by
  have f1 := tc_lookup
  have f2 := tc_bind (.ref C)
  have hTy : (⟨h, g, d, t, os⟩ : Shared).TypeIs (.ref C) "type" := ⟨_, hC, rfl⟩
  refine codeAny_of_tree ?_
  show wpAny _ _ (callAny (.ref C) _) _ _ _
  repeat (any_goals (first | assumption | with_reducible refine wpAny_loadPart_at hC ?_ | wp_step))
  refine ⟨rfl, ?_⟩
  refine codeAny_call_builtin_at (Code.quiet_builtin _ (by decide +kernel)) entry_typeCall (wpAny_check_type_call_sub hC (typeCallK F hT hC hi hb hrest ?_))
  refine codeAny_mono hq fun r s' z => ?_
  rcases r with e | (v | _ | _ | _) <;> exact z
end
/-- C(k = v, ..) as a value -/
def tMkK (C : Addr) (m : Nat) (sp : Sp) (gV : List V → List V → List V) (tk : TA) : TE := fun σ H Q => tk σ H fun zs H1 => zs.length = m ∧ ∀ a, H1 a = none → sp (gV [.ref a] zs) (upd H1 a (exo a C none)) (fun v H2 => v = .non ∧ Q (.ref a) H2) (fun _ _ _ => False)
section
variable {X : Cx} {tk : TA} {p pos : Pos}
theorem pe_oexK {CX : CXT} {x : Str} {C fI : Addr} {k : Nat} {fd : FuncData} {ps ks : List Str} {sp : Sp} {kws : List Keyword} {g : List Value → List Value → List Value} {gV : List V → List V → List V} (T : OexC X.K C) (iC : PySem.W.findIn X.K (.ref C) "__init__" = some (some (.ref fI))) (tI : PySem.W.typeIn X.K (.ref fI) = some (.type "function"))
    (F1 : FnOk X.prog X.w X.K X.mg X.base CX k fI fd ps sp) (hr : Room (k + 1) X.A) (hb : KBn X.K fd ps 1 ks g gV) (hx : Passes CX X (fun _ _ _ => False)) (hg : Gl X x) (hm : X.mg x = some (.ref C)) (hkw : PK X kws tk)
    (hall : (backToKw pos (keywordEach kws X.env)).all (·.1.isSome) = true := by rfl) (hks : (backToKw pos (keywordEach kws X.env)).filterMap (·.1) = ks := by rfl) (hdb : (x == ("__debug__" : Str)) = false := by decide)
    (hpl : ((backTo pos (starEach [] X.env)).any (·.1) || (backToKw pos (keywordEach kws X.env)).any (·.1.isNone)) = false := by rfl) :
    PE X (.Call (.Name x p) [] kws pos) (tMkK C ks.length sp gV tk) := by
  refine ⟨fun pins s σ H Q I h => ?_⟩
  obtain ⟨nm, q, N, bs, bm, sn, sub, ab, col, dd, k0, k1, k2, k3, k5, hC, hbm⟩ := T.cls
  refine wpAny_Call_Name_kw (ld_glob I hg hm ?_ hdb)
  refine PySem.W.callWith_KW0 (h₀ := X.base) I.ok.mod.kin T.kC hall ?_ hpl
  refine thn (hkw.run pos pins s σ H _ I h) fun ws s2 ⟨zs, H1, I1, rz, l1, q1⟩ => ⟨I1.kIn, ?_⟩
  rw [hks]
  obtain ⟨hp, gs, dr, tk', os⟩ := s2
  have hsz : hp.objs.size ≤ hp.objs.size + 1 := Nat.le_succ _
  have hn : H1 (hp.objs.size + 1) = none := I1.hok.fresh hsz
  have hq := q1 (hp.objs.size + 1) hn
  have kk : ∀ b o, hp.get? b = some o → ((hp.push (PySem.W.kdv_tup [])).push (PySem.HandSPX.excO C hp.objs.size)).get? b = some o := fun b o e => Heap.get?_push_of_some _ (Heap.get?_push_of_some _ e)
  have hget : ((hp.push (PySem.W.kdv_tup [])).push (PySem.HandSPX.excO C hp.objs.size)).get? (hp.objs.size + 1) = some (PySem.HandSPX.excO C hp.objs.size) := by heap_get
  have I2 : Inv X pins σ (upd H1 (hp.objs.size + 1) (exo (hp.objs.size + 1) C none)) ⟨(hp.push (PySem.W.kdv_tup [])).push (PySem.HandSPX.excO C hp.objs.size), gs, dr, tk', os⟩ :=
    I1.laid (t' := tk') (a := hp.objs.size + 1) (o := exo (hp.objs.size + 1) C none) (h' := (hp.push (PySem.W.kdv_tup [])).push (PySem.HandSPX.excO C hp.objs.size)) kk hsz (exo_ok hget)
  have r1 : Vals [V.ref (hp.objs.size + 1)] [Value.ref (hp.objs.size + 1)] := .cons rfl .nil
  have r2 := hb.rel r1 rz
  have e2 : ws.length = ks.length := rz.length.symm.trans l1
  refine wpAny_call (callOwnK (kw := ks.zip ws) F.excBase_ValueError (fun Y => PySem.HandSPX.refsVE_contains Y bm hbm) (I1.kIn _ _ hC) (PySem.W.looks_findIn I1.kIn iC) (fun self => PySem.W.bind_fn I1.kIn self tI) (Nat.zero_le _)
    (codeAny_mono (F1.run _ X.stack _ _ ⟨[Value.ref (hp.objs.size + 1)], ks.zip ws⟩ (g [Value.ref (hp.objs.size + 1)] ws) _ _ (fun _ _ _ => False) (hr.make C [] (ks.zip ws)) (I2.env0.make C [] (ks.zip ws)) (hb.to _ [Value.ref (hp.objs.size + 1)] ws I2.kIn rfl e2) r2 hq) fun r s' hq' => ?_))
  cases r with
  | error er => exact hx pins σ _ _ er s' I2 hq'
  | ok fl =>
    cases fl with
    | ret u =>
      obtain ⟨v, H', I3, rv, ev, q3⟩ := I2.after hq'
      subst ev
      exact ⟨rv, ⟨V.ref (hp.objs.size + 1), H', I3, rfl, q3⟩⟩
    | next => exact False.elim hq'
    | brk => exact False.elim hq'
    | cont => exact False.elim hq'
end
end Ts

set_option maxRecDepth 100000
set_option maxHeartbeats 4000000
namespace Ts
open PySem L2
/-! ### == and != of dicts of one and the same keys, with flat values -/
def kvX (f : Str → V) (l : List Str) : List (Key × V) := l.map fun z => ((.inr z : Key), f z)
theorem valV_kvX (f : Str → V) {z : Str} : ∀ {l : List Str}, z ∈ l → valV (kvX f l) (.inr z : Key) = some (f z)
  | x :: l, hz => by
    show ((((((.inr x : Key), f x) :: kvX f l).find? fun kv => decide (kv.1 = (.inr z : Key))).map (·.2)) : Option V) = some (f z)
    by_cases e : x = z
    · subst e
      rw [List.find?_cons_of_pos (by simp)]; rfl
    · rw [List.find?_cons_of_neg (by simpa using e)]
      exact valV_kvX f ((List.mem_cons.mp hz).resolve_left fun q => e q.symm)
def allE (f g : Str → V) (l : List Str) : Bool := l.all fun z => eqV (f z) (g z)
theorem hitsX {A : Around} {s : Shared} {f g : Str → V} {L : List Str} {vb : List (Key × Value)} (rb : KV (kvX g L) vb) : ∀ {l : List Str} {va : List (Key × Value)}, KV (kvX f l) va → (∀ z ∈ l, z ∈ L ∧ flatV (f z) = true ∧ flatV (g z) = true) → PySem.W.KeqHits A s vb va (allE f g l)
  | [], va, ra, _ => by
    unfold KV kvX at ra
    cases ra
    exact .nil
  | z :: l, va, ra, h => by
    have ra' : Paired _ (((.inr z : Key), f z) :: kvX f l) va := ra
    cases ra' with
    | cons h1 t =>
      rename_i q qs
      obtain ⟨e1, e2⟩ := h1
      obtain ⟨hz, f1, f2⟩ := h z (List.mem_cons_self ..)
      have rr : RelO (some (g z)) (valueAt vb (.inr z : Key)) := by rw [← valV_kvX g hz]; exact rb.val _
      obtain ⟨y, hy, ry⟩ := rr.some_of
      obtain ⟨key, v⟩ := q
      have e1' : (Sum.inr z : Key) = key := e1
      rw [e1'] at hy
      exact .hit hy (eqAt_V e2 ry f1 f2) (hitsX rb t fun x hx => h x (List.mem_cons_of_mem _ hx))
section
variable {X : Cx}
def rEqX : R2 := fun x y H Q => ∃ (a b : Addr) (f g : Str → V) (l : List Str), x = .ref a ∧ y = .ref b ∧ H a = some (.dK (kvX f l)) ∧ H b = some (.dK (kvX g l)) ∧ (∀ z ∈ l, flatV (f z) = true ∧ flatV (g z) = true) ∧ Q (.bl (allE f g l)) H
def rNeX : R2 := fun x y H Q => ∃ (a b : Addr) (f g : Str → V) (l : List Str), x = .ref a ∧ y = .ref b ∧ H a = some (.dK (kvX f l)) ∧ H b = some (.dK (kvX g l)) ∧ (∀ z ∈ l, flatV (f z) = true ∧ flatV (g z) = true) ∧ Q (.bl (!allE f g l)) H
theorem op_eqX (hu : X.A.units < cLine) : OpR X (compareOp .Eq) rEqX := by
  intro pins s σ H x y v u Q I rx ry h
  obtain ⟨a, b, f, g, l, rfl, rfl, ea, eb, hf, q⟩ := h
  obtain rfl : v = Value.ref a := rx
  obtain rfl : u = Value.ref b := ry
  obtain ⟨_, ya, va, ra, da⟩ := (show ObjOk X.prog X.w H s.heap a (.dK (kvX f l)) from I.hok a _ ea)
  obtain ⟨_, yb, vb, rb, db⟩ := (show ObjOk X.prog X.w H s.heap b (.dK (kvX g l)) from I.hok b _ eb)
  have hl : va.length = vb.length := by rw [← ra.length, ← rb.length]; unfold kvX; rw [List.length_map, List.length_map]
  refine PySem.W.keq_eq (knd := mixKind X.prog X.w) (r := allE f g l) ya yb da db hu (fun _ => hitsX rb ra fun z hz => ⟨hz, hf z hz⟩) ?_
  rw [show (va.length == vb.length && allE f g l) = allE f g l from by rw [hl]; simp]
  exact ⟨.bl _, H, I, rfl, q⟩
theorem op_neX (hu : X.A.units < cLine) : OpR X (compareOp .NotEq) rNeX := by
  intro pins s σ H x y v u Q I rx ry h
  obtain ⟨a, b, f, g, l, rfl, rfl, ea, eb, hf, q⟩ := h
  obtain rfl : v = Value.ref a := rx
  obtain rfl : u = Value.ref b := ry
  obtain ⟨_, ya, va, ra, da⟩ := (show ObjOk X.prog X.w H s.heap a (.dK (kvX f l)) from I.hok a _ ea)
  obtain ⟨_, yb, vb, rb, db⟩ := (show ObjOk X.prog X.w H s.heap b (.dK (kvX g l)) from I.hok b _ eb)
  have hl : va.length = vb.length := by rw [← ra.length, ← rb.length]; unfold kvX; rw [List.length_map, List.length_map]
  refine PySem.W.keq_ne (knd := mixKind X.prog X.w) (r := allE f g l) ya yb da db hu (fun _ => hitsX rb ra fun z hz => ⟨hz, hf z hz⟩) ?_
  rw [show (va.length == vb.length && allE f g l) = allE f g l from by rw [hl]; simp]
  exact ⟨.bl _, H, I, rfl, q⟩
theorem hitsP {P : Program} {w : World} {A : Around} {s : Shared} {vb : List (Key × Value)} : ∀ {va : List (Key × Value)} {r : Bool}, PySem.W.KeqHits A s vb va r → PySem.W.KeqHitsP P w A s vb va r := fun h => by
  induction h with
  | nil => exact .nil
  | miss h => exact .miss h
  | hit h e _ k => exact .hit h e.eqP k
theorem eqP_dicts {pins : List (Addr × Obj)} {σ : St} {H : Hp} {s : Shared} (I : Inv X pins σ H s) {A : Around} (hu : A.units < cLine) {a b : Addr} {f g : Str → V} {l : List Str} (ea : H a = some (.dK (kvX f l))) (eb : H b = some (.dK (kvX g l))) (hf : ∀ z ∈ l, flatV (f z) = true ∧ flatV (g z) = true)
    (same : a = b → allE f g l = true) : SeqAt.EqP X.prog X.w A s (.ref a) (.ref b) (allE f g l) := by
  by_cases e : a = b
  · rw [same e]
    subst e
    exact (SeqAt.EqAt.same _).eqP
  · refine SeqAt.eqP_refs e fun E Q q => ?_
    obtain ⟨_, ya, va, ra, da⟩ := (show ObjOk X.prog X.w H s.heap a (.dK (kvX f l)) from I.hok a _ ea)
    obtain ⟨_, yb, vb, rb, db⟩ := (show ObjOk X.prog X.w H s.heap b (.dK (kvX g l)) from I.hok b _ eb)
    have hl : va.length = vb.length := by rw [← ra.length, ← rb.length]; unfold kvX; rw [List.length_map, List.length_map]
    refine PySem.W.rcP_dicts (knd := mixKind X.prog X.w) (r := allE f g l) ya yb da db hu (fun _ => hitsP (hitsX rb ra fun z hz => ⟨hz, hf z hz⟩)) E Q ?_
    rw [show (va.length == vb.length && allE f g l) = allE f g l from by rw [hl]; simp]
    exact q
/-- two lists of two such dicts each -/
def rEq2X : R2 := fun x y H Q => ∃ (a b d1 d2 e1 e2 : Addr) (f1 f2 g1 g2 : Str → V) (l : List Str), x = .ref a ∧ y = .ref b ∧ H a = some (.lst [.ref d1, .ref d2]) ∧ H b = some (.lst [.ref e1, .ref e2]) ∧ H d1 = some (.dK (kvX f1 l)) ∧ H d2 = some (.dK (kvX f2 l)) ∧ H e1 = some (.dK (kvX g1 l)) ∧ H e2 = some (.dK (kvX g2 l)) ∧
  (∀ z ∈ l, flatV (f1 z) = true ∧ flatV (g1 z) = true) ∧ (∀ z ∈ l, flatV (f2 z) = true ∧ flatV (g2 z) = true) ∧ d1 ≠ e1 ∧ d2 ≠ e2 ∧ Q (.bl (allE f1 g1 l && allE f2 g2 l)) H
theorem op_eq2X (hu : X.A.units + 64 < cLine) : OpR X (compareOp .Eq) rEq2X := by
  intro pins s σ H x y v u Q I rx ry h
  obtain ⟨a, b, d1, d2, e1, e2, f1, f2, g1, g2, l, rfl, rfl, ha, hb, hd1, hd2, he1, he2, hf1, hf2, n1, n2, q⟩ := h
  obtain rfl : v = Value.ref a := rx
  obtain rfl : u = Value.ref b := ry
  obtain ⟨us, r1, p1, _⟩ := I.list (show SqL X.K H a _ from SqL.of ha)
  obtain ⟨ws, r2, p2, _⟩ := I.list (show SqL X.K H b _ from SqL.of hb)
  have hin : X.A.in1.units < cLine := by show X.A.units + 1 < cLine; omega
  obtain rfl : us = [.ref d1, .ref d2] := by
    cases r1 with
    | cons x1 t => cases t with
      | cons x2 t => cases t; cases x1; cases x2; rfl
  obtain rfl : ws = [.ref e1, .ref e2] := by
    cases r2 with
    | cons x1 t => cases t with
      | cons x2 t => cases t; cases x1; cases x2; rfl
  refine SeqAt.rcP_lists (e := fun j => if j = 0 then allE f1 g1 l else allE f2 g2 l) p1.isList p2.isList rfl (by omega) (fun j h1 h2 => ?_) _ _ ?_
  · match j, h1 with
    | 0, _ => exact eqP_dicts I hin hd1 he1 hf1 fun e => absurd e n1
    | 1, _ => exact eqP_dicts I hin hd2 he2 hf2 fun e => absurd e n2
  · refine ⟨.bl _, H, I, rfl, ?_⟩
    have e : ((List.range #[Value.ref d1, Value.ref d2].size).all fun j => if j = 0 then allE f1 g1 l else allE f2 g2 l) = (allE f1 g1 l && allE f2 g2 l) := by
      show ((List.range 2).all fun j => if j = 0 then allE f1 g1 l else allE f2 g2 l) = _
      simp [List.range, List.range.loop]
    show Q (.bl ((List.range #[Value.ref d1, Value.ref d2].size).all fun j => if j = 0 then allE f1 g1 l else allE f2 g2 l)) H
    rw [e]
    exact q
theorem pt_weak {e : Expr} {t : TT} (h : PT X e t) : PT X e (fun σ H Q => ∃ R : Bool → Hp → Prop, t σ H R ∧ ∀ b H', R b H' → Q b H') := ⟨fun pins s σ H Q I ⟨R, h1, h2⟩ => thn (h.run pins s σ H R I h1) fun u s1 ⟨H1, I1, q⟩ => ⟨H1, I1, h2 _ _ q⟩⟩
theorem pe_weak {e : Expr} {te : TE} (h : PE X e te) : PE X e (fun σ H Q => ∃ R : VK, te σ H R ∧ ∀ v H', R v H' → Q v H') := ⟨fun pins s σ H Q I ⟨R, h1, h2⟩ => thn (h.run pins s σ H R I h1) fun u s1 ⟨x, H1, I1, rx, q⟩ => ⟨x, H1, I1, rx, h2 _ _ q⟩⟩
end
end Ts

set_option maxRecDepth 100000
set_option maxHeartbeats 4000000
namespace L2
open PySem PySem.Spec PyProof.Rows
/-! ### things made alike: lists and tuples, nested, of the same things -/
def Al (K : PySem.W.Frag) (H : Hp) : Nat → V → V → Prop
  | 0, x, y => x = y ∧ (flatB x = true ∨ ∃ c, x = .ref c)
  | n + 1, x, y => Al K H n x y ∨ ∃ (a b : Addr) (xs ys : List V), x = .ref a ∧ y = .ref b ∧ ((SqL K H a xs ∧ SqL K H b ys) ∨ (SqT K H a xs ∧ SqT K H b ys)) ∧ xs.length = ys.length ∧ ∀ (i : Nat) (u v : V), xs[i]? = some u → ys[i]? = some v → Al K H n u v
theorem vals_at {xs : List V} {us : List Value} (r : Vals xs us) {j : Nat} (h : j < us.length) : ∃ x, xs[j]? = some x ∧ RelV x us[j] := by
  have l := r.length
  have hj : j < xs.length := by omega
  obtain ⟨z, hz, rz⟩ := Vals.get (i := j) (x := xs[j]) r (List.getElem?_eq_getElem hj)
  rw [List.getElem?_eq_getElem h] at hz
  cases hz
  exact ⟨_, List.getElem?_eq_getElem hj, rz⟩
section
variable {X : Cx} {pins : List (Addr × Obj)} {σ : St} {H : Hp} {s : Shared}
theorem al_eq (I : Inv X pins σ H s) : ∀ (n : Nat) {A : Around} {x y : V} {u v : Value}, Al X.K H n x y → RelV x u → RelV y v → A.units + n < cLine + 1 → SeqAt.EqAt A s u v true
  | 0, A, x, y, u, v, h, rx, ry, hu => by
    obtain ⟨rfl, f | ⟨c, rfl⟩⟩ := h
    · exact eqAt_same rx ry f
    · cases (show u = Value.ref c from rx)
      cases (show v = Value.ref c from ry)
      exact SeqAt.EqAt.same _
  | n + 1, A, x, y, u, v, h, rx, ry, hu => by
    rcases h with h | ⟨a, b, xs, ys, rfl, rfl, hs, hl, he⟩
    · exact al_eq I n h rx ry (by omega)
    · cases (show u = Value.ref a from rx)
      cases (show v = Value.ref b from ry)
      by_cases e : a = b
      · rw [e]; exact SeqAt.EqAt.same _
      refine SeqAt.EqAt.of_refs e ?_
      have hu1 : A.in1.units + n < cLine + 1 := by show A.units + 1 + n < cLine + 1; omega
      rcases hs with ⟨h1, h2⟩ | ⟨h1, h2⟩
      · obtain ⟨us, r1, p1, _⟩ := I.list h1
        obtain ⟨ws, r2, p2, _⟩ := I.list h2
        have l1 := r1.length
        have l2 := r2.length
        have := SeqAt.RcAt.lists (A := A) (e := fun _ => true) p1.isList p2.isList (by rw [List.size_toArray, List.size_toArray]; omega) (by omega) (fun j h3 h4 => by
          have h3' : j < us.length := by simpa using h3
          have h4' : j < ws.length := by simpa using h4
          obtain ⟨x1, e1, q1⟩ := vals_at r1 h3'
          obtain ⟨x2, e2, q2⟩ := vals_at r2 h4'
          exact al_eq I n (he j x1 x2 e1 e2) (by simpa using q1) (by simpa using q2) hu1)
        rw [show ((List.range us.toArray.size).all fun _ => true) = true from List.all_eq_true.mpr fun _ _ => rfl] at this
        exact this
      · obtain ⟨us, r1, p1, _⟩ := I.tuple h1
        obtain ⟨ws, r2, p2, _⟩ := I.tuple h2
        have l1 := r1.length
        have l2 := r2.length
        have := SeqAt.RcAt.tuples (A := A) (e := fun _ => true) p1 p2 (by omega) (fun j h3 h4 => by
          have h3' : j < us.length := by simpa using h3
          have h4' : j < ws.length := by simpa using h4
          obtain ⟨x1, e1, q1⟩ := vals_at r1 h3'
          obtain ⟨x2, e2, q2⟩ := vals_at r2 h4'
          exact al_eq I n (he j x1 x2 e1 e2) (by simpa using q1) (by simpa using q2) hu1)
        have e : (us.toArray.size == ws.toArray.size) = true := by
          rw [List.size_toArray, List.size_toArray]
          simp; omega
        rw [show ((List.range (min us.toArray.size ws.toArray.size)).all fun _ => true) = true from List.all_eq_true.mpr fun _ _ => rfl, e] at this
        exact this
/-- != of two things made alike: None, texts, numbers, lists or tuples -/
def rNeAl (K : PySem.W.Frag) : R2 := fun x y H Q => ((∃ z : Str, x = .str z ∧ y = .str z) ∨ (∃ i : Int, x = .int i ∧ y = .int i) ∨ (x = .non ∧ y = .non) ∨ (∃ b : Bool, x = .bl b ∧ y = .bl b) ∨
  ∃ (a b : Addr) (xs ys : List V), x = .ref a ∧ y = .ref b ∧ ((SqL K H a xs ∧ SqL K H b ys) ∨ (SqT K H a xs ∧ SqT K H b ys)) ∧ xs.length = ys.length ∧ ∀ (i : Nat) (u v : V), xs[i]? = some u → ys[i]? = some v → Al K H 8 u v) ∧ Q (.bl false) H
end
section
variable {X : Cx}
theorem op_neAl (hu : X.A.units + 64 < cLine) : OpR X (compareOp .NotEq) (rNeAl X.K) := by
  intro pins s σ H x y v w Q I rx ry h
  obtain ⟨h, q⟩ := h
  rcases h with ⟨z, rfl, rfl⟩ | ⟨i, rfl, rfl⟩ | ⟨rfl, rfl⟩ | ⟨b, rfl, rfl⟩ | ⟨a, b, xs, ys, rfl, rfl, hs, hl, he⟩
  · obtain ⟨t1, rfl⟩ := rx
    obtain ⟨t2, rfl⟩ := ry
    refine SeqAt.RcNeAt.str_str z t1 z t2 _ _ _ _ ⟨.bl false, H, I, ?_, q⟩
    show Value.bool (!(z == z)) = Value.bool false
    simp
  · obtain ⟨t1, rfl⟩ := rx
    obtain ⟨t2, rfl⟩ := ry
    refine SeqAt.RcNeAt.int_int i t1 i t2 _ _ _ _ ⟨.bl false, H, I, ?_, q⟩
    show Value.bool (!(i == i)) = Value.bool false
    simp
  · cases (show v = Value.none from rx)
    cases (show w = Value.none from ry)
    exact SeqAt.RcNeAt.none_none _ _ _ _ ⟨.bl false, H, I, rfl, q⟩
  · cases (show v = Value.bool b from rx)
    cases (show w = Value.bool b from ry)
    refine SeqAt.RcNeAt.bool_bool b b _ _ _ _ ⟨.bl false, H, I, ?_, q⟩
    show Value.bool (!(b == b)) = Value.bool false
    simp
  · cases (show v = Value.ref a from rx)
    cases (show w = Value.ref b from ry)
    have hu1 : X.A.in1.units + 8 < cLine + 1 := by show X.A.units + 1 + 8 < cLine + 1; omega
    rcases hs with ⟨h1, h2⟩ | ⟨h1, h2⟩
    · obtain ⟨us, r1, p1, _⟩ := I.list h1
      obtain ⟨ws, r2, p2, _⟩ := I.list h2
      have l1 := r1.length
      have l2 := r2.length
      refine SeqAt.RcNeAt.lists p1.isList p2.isList (by rw [List.size_toArray, List.size_toArray]; omega) (by omega) (e := fun _ => true) (fun j h3 h4 => ?_) _ _ _ _ ?_
      · obtain ⟨x1, e1, q1⟩ := vals_at r1 (show j < us.length by simpa using h3)
        obtain ⟨x2, e2, q2⟩ := vals_at r2 (show j < ws.length by simpa using h4)
        exact al_eq I 8 (he j x1 x2 e1 e2) (by simpa using q1) (by simpa using q2) hu1
      · rw [show ((List.range us.toArray.size).all fun _ => true) = true from List.all_eq_true.mpr fun _ _ => rfl]
        exact ⟨.bl false, H, I, rfl, q⟩
    · obtain ⟨us, r1, p1, _⟩ := I.tuple h1
      obtain ⟨ws, r2, p2, _⟩ := I.tuple h2
      have l1 := r1.length
      have l2 := r2.length
      refine SeqAt.RcNeAt.tuples p1 p2 (by omega) (e := fun _ => true) (fun j h3 h4 => ?_) _ _ _ _ ?_
      · obtain ⟨x1, e1, q1⟩ := vals_at r1 (show j < us.length by simpa using h3)
        obtain ⟨x2, e2, q2⟩ := vals_at r2 (show j < ws.length by simpa using h4)
        exact al_eq I 8 (he j x1 x2 e1 e2) (by simpa using q1) (by simpa using q2) hu1
      · rw [show ((List.range (min us.toArray.size ws.toArray.size)).all fun _ => true) = true from List.all_eq_true.mpr fun _ _ => rfl, show (us.toArray.size == ws.toArray.size) = true from by rw [List.size_toArray, List.size_toArray]; simp; omega]
        exact ⟨.bl false, H, I, rfl, q⟩
end
end L2

set_option maxRecDepth 100000
set_option maxHeartbeats 4000000
namespace L2
open PySem PySem.Spec PyProof.Rows
/-- == of two lists or tuples made alike -/
def rEqAl (K : PySem.W.Frag) : R2 := fun x y H Q => ∃ (a b : Addr) (xs ys : List V), x = .ref a ∧ y = .ref b ∧ ((SqL K H a xs ∧ SqL K H b ys) ∨ (SqT K H a xs ∧ SqT K H b ys)) ∧ xs.length = ys.length ∧ (∀ (i : Nat) (u v : V), xs[i]? = some u → ys[i]? = some v → Al K H 8 u v) ∧ Q (.bl true) H
section
variable {X : Cx}
theorem op_eqAl (hu : X.A.units + 64 < cLine) : OpR X (compareOp .Eq) (rEqAl X.K) := by
  intro pins s σ H x y v w Q I rx ry h
  obtain ⟨a, b, xs, ys, rfl, rfl, hs, hl, he, q⟩ := h
  cases (show v = Value.ref a from rx)
  cases (show w = Value.ref b from ry)
  have hu1 : X.A.in1.units + 8 < cLine + 1 := by show X.A.units + 1 + 8 < cLine + 1; omega
  rcases hs with ⟨h1, h2⟩ | ⟨h1, h2⟩
  · obtain ⟨us, r1, p1, _⟩ := I.list h1
    obtain ⟨ws, r2, p2, _⟩ := I.list h2
    have l1 := r1.length
    have l2 := r2.length
    refine SeqAt.RcAt.lists p1.isList p2.isList (by rw [List.size_toArray, List.size_toArray]; omega) (by omega) (e := fun _ => true) (fun j h3 h4 => ?_) _ _ _ _ ?_
    · obtain ⟨x1, e1, q1⟩ := vals_at r1 (show j < us.length by simpa using h3)
      obtain ⟨x2, e2, q2⟩ := vals_at r2 (show j < ws.length by simpa using h4)
      exact al_eq I 8 (he j x1 x2 e1 e2) (by simpa using q1) (by simpa using q2) hu1
    · rw [show ((List.range us.toArray.size).all fun _ => true) = true from List.all_eq_true.mpr fun _ _ => rfl]
      exact ⟨.bl true, H, I, rfl, q⟩
  · obtain ⟨us, r1, p1, _⟩ := I.tuple h1
    obtain ⟨ws, r2, p2, _⟩ := I.tuple h2
    have l1 := r1.length
    have l2 := r2.length
    refine SeqAt.RcAt.tuples p1 p2 (by omega) (e := fun _ => true) (fun j h3 h4 => ?_) _ _ _ _ ?_
    · obtain ⟨x1, e1, q1⟩ := vals_at r1 (show j < us.length by simpa using h3)
      obtain ⟨x2, e2, q2⟩ := vals_at r2 (show j < ws.length by simpa using h4)
      exact al_eq I 8 (he j x1 x2 e1 e2) (by simpa using q1) (by simpa using q2) hu1
    · rw [show ((List.range (min us.toArray.size ws.toArray.size)).all fun _ => true) = true from List.all_eq_true.mpr fun _ _ => rfl, show (us.toArray.size == ws.toArray.size) = true from by rw [List.size_toArray, List.size_toArray]; simp; omega]
      exact ⟨.bl true, H, I, rfl, q⟩
end
end L2

set_option maxRecDepth 100000
namespace Ts
open PySem L2
def top (i : Nat) : Stmt := PySem.Challenge.pw_turnsets_k22_errors_made.main.body.getD i (.Pass ⟨0, 0, 0, 0⟩)
abbrev s_BadRow_init : Stmt := inClass (top 2) 0
abbrev s_NoBox_init : Stmt := inClass (top 3) 0
abbrev s_BadMove_init : Stmt := inClass (top 4) 0
abbrev s_NotShut_init : Stmt := inClass (top 5) 0
abbrev s_Locked_init : Stmt := inClass (top 7) 0
abbrev s_BadDeed_init : Stmt := inClass (top 10) 0
abbrev s_Clash_init : Stmt := inClass (top 11) 0
abbrev s_BadRule_init : Stmt := inClass (top 12) 0
abbrev s_BadWish_init : Stmt := inClass (top 13) 0
abbrev s_Barred_init : Stmt := inClass (top 14) 0
abbrev s_BadNumber_init : Stmt := inClass (top 15) 0
abbrev s_TooDear_init : Stmt := inClass (top 16) 0
abbrev s_BadRange_init : Stmt := inClass (top 17) 0
abbrev s_BadTable_init : Stmt := inClass (top 18) 0
abbrev s_NotSure_init : Stmt := inClass (top 19) 0
abbrev s_BadLine_init : Stmt := inClass (top 20) 0
abbrev s_L_stream : Stmt := top 22
abbrev s_L_draw : Stmt := top 23
abbrev s_L_pick : Stmt := top 24
abbrev s_L_made : Stmt := top 25
abbrev s_L_fields : Stmt := top 26
abbrev s_L_kinds : Stmt := top 27
abbrev s_law : Stmt := top 28
end Ts

set_option maxRecDepth 100000
set_option maxHeartbeats 4000000
namespace Ts
open PySem L2
/-! ### how a def stands -/
structure DefAt (K : PySem.W.Frag) (mg : Str → Option Value) (x : Str) (st : Stmt) (ps : List Str) where
  f : Addr
  fd : FuncData
  F : Fun K x x st f fd
  b : Binds K fd ps []
  g : mg x = some (.ref f)
structure MethAt (K : PySem.W.Frag) (C : Addr) (x q : Str) (st : Stmt) (ps : List Str) where
  f : Addr
  fd : FuncData
  F : Fun K x q st f fd
  b : Binds K fd ps []
  m : Meth K C x f
structure TxB (mg : Str → Option Value) : Prop where
  len : mg "len" = none
  abs : mg "abs" = none
  int : mg "int" = none
  str : mg "str" = none
  bool : mg "bool" = none
  list : mg "list" = none
  tuple : mg "tuple" = none
  dict : mg "dict" = none
  range : mg "range" = none
  enumerate : mg "enumerate" = none
  isinstance : mg "isinstance" = none
  all : mg "all" = none
theorem lk {l : List (Option V)} {i : Nat} {v : V} (h : l[i]? = some (some v)) : l[i]? = some (some v) := h
/-! ### the draws -/
/-- all but a is kept -/
def SB (a : Addr) (H H' : Hp) : Prop := ∀ b o, b ≠ a → H b = some o → H' b = some o
theorem SB.refl (a : Addr) (H : Hp) : SB a H H := fun _ _ _ h => h
theorem SB.trans {a : Addr} {H H1 H2 : Hp} (x : SB a H H1) (y : SB a H1 H2) : SB a H H2 := fun b o n h => y b o n (x b o n h)
theorem SB.of {a : Addr} {H H' : Hp} (x : Same H H') : SB a H H' := fun b o _ h => x b o h
theorem Same.new {H : Hp} {p : Addr} {o : HO} (h : H p = none) : Same H (upd H p o) := fun b u e => by rw [upd_ne (ne_of_none e h)]; exact e
theorem SB.upd {a p : Addr} {H : Hp} {o : HO} (h : H p = none) : SB a H (L2.upd H p o) := SB.of (Same.new h)
theorem SB.seqL {K : PySem.W.Frag} {a l : Addr} {H H' : Hp} {xs : List V} (x : SB a H H') (n : l ≠ a) (h : SqL K H l xs) : SqL K H' l xs := by
  rcases h with (h | ⟨o, h⟩) | h
  · exact .inl (.inl (x _ _ n h))
  · exact .inl (.inr ⟨o, x _ _ n h⟩)
  · exact .inr h
theorem SB.free {a b : Addr} {H H' : Hp} (x : SB a H H') (n : b ≠ a) (h : H' b = none) : H b = none := by
  cases q : H b with
  | none => rfl
  | some o =>
    rw [x b o n q] at h
    cases h
/-- at a a stream of draws of which at most n are mixed numbers -/
def Stm (H : Hp) (a : Addr) (n : Int) : Prop := ∃ x y z : Int, H a = some (.lst [.int x, .int y, .int z]) ∧ 0 ≤ x ∧ 0 ≤ y ∧ y < 1099511627776 ∧ 0 ≤ z ∧ z ≤ n
theorem Stm.mono {H : Hp} {a : Addr} {n m : Int} (h : Stm H a n) (k : n ≤ m) : Stm H a m := by
  obtain ⟨x, y, z, e, h1, h2, h3, h4, h5⟩ := h
  exact ⟨x, y, z, e, h1, h2, h3, h4, Int.le_trans h5 k⟩
theorem Stm.ne {H : Hp} {a p : Addr} {n : Int} (h : Stm H a n) (hp : H p = none) : a ≠ p := by
  obtain ⟨x, y, z, e, _⟩ := h
  exact ne_of_none e hp
theorem Stm.same {H H' : Hp} {a : Addr} {n : Int} (h : Stm H a n) (s : Same H H') : Stm H' a n := by
  obtain ⟨x, y, z, e, r⟩ := h
  exact ⟨x, y, z, s _ _ e, r⟩
theorem Stm.upd {H : Hp} {a p : Addr} {o : HO} {n : Int} (h : Stm H a n) (hp : H p = none) : Stm (upd H p o) a n := h.same (Same.new hp)
theorem ne_lit {i : Int} (h : i ≠ 0) : i ≠ 0 := h
theorem fm_in (q : Int) {m : Int} (h : 1 ≤ m) : 0 ≤ q.fmod m ∧ q.fmod m < m := by
  rw [Int.fmod_eq_emod_of_nonneg q (by omega)]
  exact ⟨Int.emod_nonneg _ (by omega), Int.emod_lt_of_pos _ (by omega)⟩
def spStream (K : PySem.W.Frag) : Sp := fun vs H Q _ => ∃ (a : Addr) (ns : List Int) (k : Int), vs = [.ref a, .int k] ∧ SqL K H a (ns.map V.int) ∧ 0 ≤ k ∧ k ≤ 1000 ∧
  ∀ (p : Addr) (x y : Int), H p = none → 0 ≤ x → 0 ≤ y → y < 1099511627776 → Q (.ref p) (upd H p (.lst [.int x, .int y, .int 0]))
def spDraw : Sp := fun vs H Q _ => ∃ (a : Addr) (m n : Int), vs = [.ref a, .int m] ∧ Stm H a n ∧ n ≤ 1099511627776 ∧ 1 ≤ m ∧ m ≤ 1000000 ∧
  ∀ (r : Int) (H' : Hp), 0 ≤ r → r < m → Stm H' a (n + 1) → (∀ b, b ≠ a → H' b = H b) → Q (.int r) H'
section
variable {P : Program} {w : World} {K : PySem.W.Frag} {mg : Str → Option Value} {base : Heap}
theorem sc_stream : FnScope ["_law_script", "_law_k", "_law_cell"] ["_law_script", "_law_k"] (defScope s_L_stream) := ⟨rfl, rfl, rfl, by decide +kernel, rfl, by decide +kernel, by decide +kernel⟩
theorem ok_stream (D : DefAt K mg "_law_stream" s_L_stream ["_law_script", "_law_k"]) (B : TxB mg) : FnOk P w K mg base CX0 2 D.f D.fd ["_law_script", "_law_k"] (spStream K) := by
  refine D.F.ok sc_stream (fun vs H Q E h => ?_) (fun cdv A outer s H vs Q E hr h => ?_)
  · obtain ⟨a, ns, k, rfl, _⟩ := h
    rfl
  · obtain ⟨a, ns, k, rfl, hS, h0, h1, hq⟩ := h
    refine ⟨_, pss_cons (ps_set (i := 2) sc_stream.nd rfl (.inl rfl) (pe_ifExp (pt_cmpR op_lt (pv 1) (pe_callB call_len_seq (by rfl) B.len PySem.boot_len (pa_cons (pv 0) pa_nil)) (nomark _)) (pe_callB call_abs (by rfl) B.abs (by decide +kernel) (pa_cons (pe_ix ix_list (pv 0) (pv 1) (fun _ _ => rfl)) pa_nil)) pe_int))
      (pss_one (ps_ret (pe_lst (pa_cons (pe_ifExp (pt_cmpR op_ge (pv 2) (pe_op op_pow pe_int pe_int) (nomark _)) (pv 2) pe_int) (pa_cons (pe_op op_add (pe_op op_modN (pe_callTy call_int1 (by rfl) B.int (by decide +kernel) (pa_cons (pv 2) pa_nil)) pe_int) (pe_op op_mul pe_int (pv 1))) (pa_cons pe_int pa_nil)))))), ?_⟩
    refine ⟨_, rfl, _, rfl, a, _, rfl, .inl hS, _, _, rfl, rfl, _, rfl, ?_⟩
    have fin : ∀ c : Int, 0 ≤ c → 0 ≤ c.fmod 2147483647 + 31 * k ∧ c.fmod 2147483647 + 31 * k < 1099511627776 := fun c hc => by
      have e := Int.fmod_eq_emod_of_nonneg c (show (0 : Int) ≤ 2147483647 by decide)
      omega
    refine ite2 (fun h => ?_) (fun h => ?_)
    · have hlt := of_decide_eq_true h
      rw [List.length_map] at hlt
      obtain ⟨v, hv⟩ : ∃ v, ns[k.toNat]? = some v := ⟨ns[k.toNat]'(by omega), List.getElem?_eq_getElem (by omega)⟩
      refine ⟨_, rfl, _, rfl, a, _, _, .int v, rfl, rfl, hS, at_of (j := k.toNat) (by omega) (by rw [List.getElem?_map, hv]; rfl), _, rfl, ?_⟩
      have hc : (0 : Int) ≤ if v < 0 then -v else v := by split <;> omega
      generalize (if v < 0 then -v else v) = c at hc
      refine ⟨_, rfl, _, _, rfl, rfl, ⟨by decide, by decide, by decide⟩, _, _, rfl, rfl, _, rfl, ?_⟩
      refine ite2 (fun h => ?_) (fun h => ?_)
      · exact ⟨_, rfl, _, rfl, .inl ⟨_, rfl, _, _, rfl, rfl, ne_lit (by decide), _, rfl, _, _, rfl, rfl, .inl ⟨by decide, by decide⟩, _, _, rfl, rfl, (by show 3 ≤ sizeLine; decide), fun p hp => hq p _ _ hp hc (fin c hc).1 (fin c hc).2⟩⟩
      · exact ⟨_, rfl, .inl ⟨_, rfl, _, _, rfl, rfl, ne_lit (by decide), _, rfl, _, _, rfl, rfl, .inl ⟨by decide, by decide⟩, _, _, rfl, rfl, (by show 3 ≤ sizeLine; decide), fun p hp => hq p _ _ hp (by decide) (fin c hc).1 (fin c hc).2⟩⟩
    · have hc : (0 : Int) ≤ 0 := Int.le_refl 0
      refine ⟨_, rfl, _, _, rfl, rfl, ⟨by decide, by decide, by decide⟩, _, _, rfl, rfl, _, rfl, ?_⟩
      refine ite2 (fun h => ?_) (fun h => ?_)
      · exact ⟨_, rfl, _, rfl, .inl ⟨_, rfl, _, _, rfl, rfl, ne_lit (by decide), _, rfl, _, _, rfl, rfl, .inl ⟨by decide, by decide⟩, _, _, rfl, rfl, (by show 3 ≤ sizeLine; decide), fun p hp => hq p _ _ hp hc (fin 0 hc).1 (fin 0 hc).2⟩⟩
      · exact ⟨_, rfl, .inl ⟨_, rfl, _, _, rfl, rfl, ne_lit (by decide), _, rfl, _, _, rfl, rfl, .inl ⟨by decide, by decide⟩, _, _, rfl, rfl, (by show 3 ≤ sizeLine; decide), fun p hp => hq p _ _ hp (by decide) (fin 0 hc).1 (fin 0 hc).2⟩⟩
theorem sc_draw : FnScope ["_law_stream_here", "_law_many", "_law_digit", "_law_spread"] ["_law_stream_here", "_law_many"] (defScope s_L_draw) := ⟨rfl, rfl, rfl, by decide +kernel, rfl, by decide +kernel, by decide +kernel⟩
theorem ok_draw (D : DefAt K mg "_law_draw" s_L_draw ["_law_stream_here", "_law_many"]) (B : TxB mg) : FnOk P w K mg base CX0 2 D.f D.fd ["_law_stream_here", "_law_many"] spDraw := by
  refine D.F.ok sc_draw (fun vs H Q E h => ?_) (fun cdv A outer s H vs Q E hr h => ?_)
  · obtain ⟨a, m, n, rfl, _⟩ := h
    rfl
  · obtain ⟨a, m, n, rfl, ⟨x, y, z, e, hx, hy, hy1, hz, hzn⟩, hn, hm, hm1, hq⟩ := h
    have eS := SqL.of (K := K) e
    refine ⟨_, pss_cons (ps_if (pt_cmpR op_gt (pe_ix ix_list (pv 0) pe_int (fun _ _ => rfl)) pe_int (nomark _))
        (pss_cons (ps_set (i := 2) sc_draw.nd rfl (.inl rfl) (pe_op op_modN (pe_callTy call_int1 (by rfl) B.int (by decide +kernel) (pa_cons (pe_ix ix_list (pv 0) pe_int (fun _ _ => rfl)) pa_nil)) (pv 1)))
        (pss_cons (ps_asg (pe_op op_fdivN (pe_ix ix_list (pv 0) pe_int (fun _ _ => rfl)) (pv 1)) (pg_sub (pv 0) pe_int set_list))
        (pss_one (ps_ret (pv 2))))) pss_nil)
      (pss_cons (ps_asg (pe_op op_add (pe_ix ix_list (pv 0) pe_int (fun _ _ => rfl)) pe_int) (pg_sub (pv 0) pe_int set_list))
      (pss_cons (ps_set (i := 3) sc_draw.nd rfl (.inl rfl) (pe_op op_modN (pe_op op_pow (pe_callTy call_int1 (by rfl) B.int (by decide +kernel) (pa_cons (pe_op op_add (pe_op op_add (pe_ix ix_list (pv 0) pe_int (fun _ _ => rfl)) (pe_op op_mul pe_int (pe_ix ix_list (pv 0) pe_int (fun _ _ => rfl)))) pe_int) pa_nil)) pe_int) pe_int))
      (pss_one (ps_ret (pe_op op_modN (pe_op op_fdivN (pe_op op_modN (pe_callTy call_int1 (by rfl) B.int (by decide +kernel) (pa_cons (pe_op op_mul (pe_op op_add (pv 3) (pe_ix ix_list (pv 0) pe_int (fun _ _ => rfl))) pe_int) pa_nil)) pe_int) pe_int) (pv 1)))))), ?_⟩
    have g0 : ∀ x y z : Int, atI [V.int x, .int y, .int z] 0 = some (.int x) := fun _ _ _ => rfl
    have g1 : ∀ x y z : Int, atI [V.int x, .int y, .int z] 1 = some (.int y) := fun _ _ _ => rfl
    have g2 : ∀ x y z : Int, atI [V.int x, .int y, .int z] 2 = some (.int z) := fun _ _ _ => rfl
    refine ⟨_, rfl, a, _, _, _, rfl, rfl, eS, g0 _ _ _, _, _, rfl, rfl, _, rfl, ?_⟩
    refine ite2 (fun h => ?_) (fun h => ?_)
    · have hx0 := of_decide_eq_true h
      refine ⟨_, rfl, a, _, _, _, rfl, rfl, eS, g0 _ _ _, .inl ⟨_, rfl, _, rfl, _, _, rfl, rfl, (by omega), ?_⟩⟩
      refine ⟨_, rfl, a, _, _, _, rfl, rfl, eS, g0 _ _ _, _, rfl, _, _, rfl, rfl, ⟨by omega, by omega⟩, _, rfl, a, _, _, 0, rfl, rfl, e, rfl, _, rfl, ?_⟩
      have e2 := Int.fdiv_eq_ediv_of_nonneg x (show (0 : Int) ≤ m by omega)
      exact hq _ _ (fm_in _ hm).1 (fm_in _ hm).2 ⟨x.fdiv m, y, z, upd_same, by rw [e2]; exact Int.ediv_nonneg hx (by omega), hy, hy1, hz, by omega⟩ fun b hb => upd_ne hb
    · refine ⟨_, rfl, a, _, _, _, rfl, rfl, eS, g2 _ _ _, _, _, rfl, rfl, _, rfl, a, _, _, 2, rfl, rfl, e, rfl, ?_⟩
      have e' : (upd H a (.lst [V.int x, .int y, .int (z + 1)])) a = some (.lst [V.int x, .int y, .int (z + 1)]) := upd_same
      have eS' := SqL.of (K := K) e'
      refine ⟨_, rfl, a, _, _, _, rfl, rfl, eS', g1 _ _ _, _, rfl, a, _, _, _, rfl, rfl, eS', g2 _ _ _, _, _, rfl, rfl, .inl ⟨by decide, by decide⟩, _, _, rfl, rfl, _, _, rfl, rfl, .inl ⟨_, rfl, _, _, rfl, rfl, ⟨by decide, by decide, by omega⟩, _, _, rfl, rfl, ne_lit (by decide), ?_⟩⟩
      have e3 := Int.fmod_eq_emod_of_nonneg ((y + 7919 * (z + 1) + 104729) ^ (5 : Int).toNat) (show (0 : Int) ≤ 2147483647 by decide)
      generalize (y + 7919 * (z + 1) + 104729) ^ (5 : Int).toNat = g at e3
      have b1 := Int.emod_nonneg g (show (2147483647 : Int) ≠ 0 by decide)
      have b2 := Int.emod_lt_of_pos g (show (0 : Int) < 2147483647 by decide)
      rw [← e3] at b1 b2
      generalize g.fmod 2147483647 = u at b1 b2
      refine ⟨_, rfl, _, rfl, a, _, _, _, rfl, rfl, eS', g2 _ _ _, _, _, rfl, rfl, _, _, rfl, rfl, .inl ⟨by omega, by omega⟩, .inl ⟨_, rfl, _, _, rfl, rfl, ne_lit (by decide), _, _, rfl, rfl, ⟨by decide, by decide⟩, _, rfl, _, _, rfl, rfl, by omega, ?_⟩⟩
      exact hq _ _ (fm_in _ hm).1 (fm_in _ hm).2 ⟨x, y, z + 1, upd_same, hx, hy, hy1, by omega, by omega⟩ fun b hb => upd_ne hb
end
end Ts

set_option maxRecDepth 100000
set_option maxHeartbeats 4000000
namespace Ts
open PySem L2
/-- an item of a list, or a sign of a text, that is drawn -/
def spPick (K : PySem.W.Frag) : Sp := fun vs H Q _ =>
  (∃ (a l : Addr) (n : Int) (xs : List V), vs = [.ref a, .ref l] ∧ Stm H a n ∧ n ≤ 1099511627776 ∧ l ≠ a ∧ SqL K H l xs ∧ 1 ≤ xs.length ∧ xs.length ≤ 1000000 ∧
    ∀ (v : V) (H' : Hp), v ∈ xs → Stm H' a (n + 1) → SB a H H' → (∀ b, H b = none → H' b = none) → Q v H') ∨
  (∃ (a : Addr) (z : Str) (n : Int), vs = [.ref a, .str z] ∧ Stm H a n ∧ n ≤ 1099511627776 ∧ 1 ≤ z.length ∧ z.length ≤ 1000000 ∧
    ∀ (c : Nat) (H' : Hp), c ∈ z.cps.toList → Stm H' a (n + 1) → SB a H H' → (∀ b, H b = none → H' b = none) → Q (.str ⟨#[c]⟩) H')
theorem sb_eq {a : Addr} {H H' : Hp} (h : ∀ b, b ≠ a → H' b = H b) : SB a H H' := fun b o n e => by rw [h b n]; exact e
theorem free_eq {a : Addr} {n : Int} {H H' : Hp} (s : Stm H a n) (h : ∀ b, b ≠ a → H' b = H b) (b : Addr) (hb : H b = none) : H' b = none := by rw [h b (s.ne hb).symm]; exact hb
/-- a name as it is drawn: 1, 2, 3 or 8 letters -/
def Low (z : Str) : Prop := ∀ c ∈ z.cps.toList, 97 ≤ c ∧ c ≤ 122
def Drawn (z : Str) : Prop := (z.length = 1 ∨ z.length = 2 ∨ z.length = 3 ∨ z.length = 8) ∧ Low z
def NameShape (z : Str) : Prop := ((z.length = 1 ∨ z.length = 2 ∨ z.length = 3 ∨ z.length = 8) ∨ z.length = 4) ∧ Low z
theorem Drawn.shape {z : Str} (h : Drawn z) : NameShape z := ⟨.inl h.1, h.2⟩
def spName : Sp := fun vs H Q _ => ∃ (a : Addr) (n : Int), vs = [.ref a] ∧ Stm H a n ∧ n ≤ 549755813888 ∧
  ∀ (z : Str) (H' : Hp), Drawn z → Stm H' a (n + 9) → SB a H H' → Q (.str z) H'
theorem abc_low : ∀ c ∈ ("abcdefghijklmnopqrstuvwxyz" : Str).cps.toList, 97 ≤ c ∧ c ≤ 122 := by decide +kernel
theorem abc_len : ("abcdefghijklmnopqrstuvwxyz" : Str).length = 26 := by decide +kernel
theorem join_empty : ∀ (ys : List Str), (Str.join ("" : Str) ys).cps.toList = (ys.map fun y => y.cps.toList).flatten
  | [] => rfl
  | [x] => by simp [Str.join]
  | x :: y :: r => by
    have ih := join_empty (y :: r)
    have e : ("" : Str).cps.toList = [] := by decide +kernel
    show ((x.cps ++ ("" : Str).cps) ++ (Str.join "" (y :: r)).cps).toList = _
    rw [Array.toList_append, Array.toList_append, ih, e]
    simp
theorem tYes_if {σ : St} {H : Hp} {A B : Hp → Prop} (h : A H) : tYes σ H (fun b H3 => if b = true then A H3 else B H3) := by
  show if true = true then A H else B H
  rw [if_pos rfl]
  exact h
/-- signs put together -/
def signs (cs : List Nat) : List Str := cs.map fun c => ⟨#[c]⟩
theorem join_signs (cs : List Nat) : (Txt.join ("" : Str) (signs cs)).cps.toList = cs := by
  rw [TL.join_eq, join_empty]
  unfold signs
  induction cs with
  | nil => rfl
  | cons c r ih =>
    simp only [List.map_cons, List.flatten_cons] at ih ⊢
    rw [ih]
    rfl
theorem len_toList (z : Str) : z.length = z.cps.toList.length := by simp [Str.length]
section
variable {P : Program} {w : World} {K : PySem.W.Frag} {mg : Str → Option Value} {base : Heap}
theorem sc_pick : FnScope ["_law_stream_here", "_law_things"] ["_law_stream_here", "_law_things"] (defScope s_L_pick) := ⟨rfl, rfl, rfl, by decide +kernel, rfl, by decide +kernel, by decide +kernel⟩
theorem ok_pick (D : DefAt K mg "_law_pick" s_L_pick ["_law_stream_here", "_law_things"]) (Dd : DefAt K mg "_law_draw" s_L_draw ["_law_stream_here", "_law_many"]) (B : TxB mg) : FnOk P w K mg base CX0 3 D.f D.fd ["_law_stream_here", "_law_things"] (spPick K) := by
  have G : FnOk P w K mg base CX0 2 Dd.f Dd.fd ["_law_stream_here", "_law_many"] spDraw := ok_draw Dd B
  refine D.F.ok sc_pick (fun vs H Q E h => ?_) (fun cdv A outer s H vs Q E hr h => ?_)
  · rcases h with ⟨a, l, n, xs, rfl, _⟩ | ⟨a, z, n, rfl, _⟩ <;> rfl
  · rcases h with ⟨a, l, n, xs, rfl, hs, hn, la, hl, h1, h2, hq⟩ | ⟨a, z, n, rfl, hs, hn, h1, h2, hq⟩
    · refine ⟨_, pss_one (ps_ret (pe_ix ix_list (pv 1) (pe_call G hr rfl Dd.g Dd.F.kp Dd.b .nil pass0 (pa_cons (pv 0) (pa_cons (pe_callB call_len_seq (by rfl) B.len PySem.boot_len (pa_cons (pv 1) pa_nil)) pa_nil))) (fun _ _ => rfl))), ?_⟩
      refine ⟨_, rfl, _, rfl, _, rfl, l, xs, rfl, .inl hl, a, xs.length, n, rfl, hs, hn, by omega, by omega, fun r H' r0 r1 hs' he => ?_⟩
      have hk : r.toNat < xs.length := by omega
      exact ⟨l, xs, r, xs[r.toNat], rfl, rfl, (sb_eq he).seqL la hl, at_of (j := r.toNat) (by omega) (List.getElem?_eq_getElem hk), hq _ _ (List.getElem_mem hk) hs' (sb_eq he) (free_eq hs he)⟩
    · refine ⟨_, pss_one (ps_ret (pe_item_str (pv 1) (pe_call G hr rfl Dd.g Dd.F.kp Dd.b .nil pass0 (pa_cons (pv 0) (pa_cons (pe_callB call_len (by rfl) B.len PySem.boot_len (pa_cons (pv 1) pa_nil)) pa_nil))) (fun _ _ => rfl))), ?_⟩
      refine ⟨_, rfl, _, rfl, _, rfl, _, z.length, rfl, ⟨Nat.le_trans h2 (by decide), rfl⟩, a, z.length, n, rfl, hs, hn, by omega, by omega, fun r H' r0 r1 hs' he => ?_⟩
      have hk : r.toNat < z.cps.size := by
        have : z.length = z.cps.size := rfl
        omega
      exact ⟨z, r, z.cps[r.toNat], rfl, rfl, r0, by omega, r1, Array.getElem?_eq_getElem hk, hq _ _ (by simp) hs' (sb_eq he) (free_eq hs he)⟩
end
end Ts

set_option maxRecDepth 100000
set_option maxHeartbeats 4000000
namespace Ts
open PySem L2
/-! ### the errors of the package as values -/
def spErr2 (CC : Addr) (f1 f2 : Str) : Sp := fun vs H Q _ => ∃ (a : Addr) (x y : V), vs = [.ref a, x, y] ∧ H a = some (exo a CC none) ∧ ∀ d, H d = none → d ≠ a → Q .non (upd (upd (upd H d (exd d [(f1, x)])) a (exo a CC (some d))) d (exd d [(f2, y), (f1, x)]))
/-- an error of the class at C with these fields -/
def ErrAt (H : Hp) (a C : Addr) (fs : List (Str × V)) : Prop := (fs = [] ∧ H a = some (exo a C none)) ∨ ∃ d, H a = some (exo a C (some d)) ∧ H d = some (exd d fs)
theorem exo_lst {e C : Addr} {d : Option Addr} {xs : List V} : exo e C d ≠ .lst xs := fun z => by
  have z' : HO.ext _ = HO.lst xs := z
  cases z'
theorem exd_lst {e : Addr} {fs : List (Str × V)} {xs : List V} : exd e fs ≠ .lst xs := fun z => by
  have z' : HO.ext _ = HO.lst xs := z
  cases z'
theorem exd_exo {e a C : Addr} {d : Option Addr} {fs : List (Str × V)} {H : Hp} (h1 : H a = some (exo a C none)) (h2 : H a = none) : False := by rw [h1] at h2; cases h2
/-- what is no list stays -/
def KLs (H H' : Hp) : Prop := ∀ b o, H b = some o → (∀ xs, o ≠ .lst xs) → H' b = some o
theorem KLs.of {H H' : Hp} (s : Same H H') : KLs H H' := fun b o e _ => s _ _ e
theorem KLs.upd {H : Hp} {D : Addr} {xs ys : List V} (e : H D = some (.lst xs)) : KLs H (upd H D (.lst ys)) := fun b o eb no => by
  rw [upd_ne (fun q => by rw [q, e] at eb; exact no _ (Option.some.inj eb).symm)]
  exact eb
theorem ErrAt.kl {H H' : Hp} {a C : Addr} {fs : List (Str × V)} (h : ErrAt H a C fs) (s : KLs H H') : ErrAt H' a C fs := by
  rcases h with ⟨e, h⟩ | ⟨d, h1, h2⟩
  · exact .inl ⟨e, s _ _ h fun _ => exo_lst⟩
  · exact .inr ⟨d, s _ _ h1 fun _ => exo_lst, s _ _ h2 fun _ => exd_lst⟩
theorem ErrAt.same {H H' : Hp} {a C : Addr} {fs : List (Str × V)} (h : ErrAt H a C fs) (s : Same H H') : ErrAt H' a C fs := h.kl (KLs.of s)
theorem new2 {H : Hp} {a d : Addr} {o1 o2 o3 : HO} (ha : H a = none) (hd : (upd H a o1) d = none) (n : d ≠ a) : Same H (upd (upd (upd H a o1) d o2) a o3) := fun b o e => by
  have hd' : H d = none := by rw [upd_ne n] at hd; exact hd
  rw [upd_ne (ne_of_none e ha), upd_ne (ne_of_none e hd'), upd_ne (ne_of_none e ha)]
  exact e
theorem new3 {H : Hp} {a d : Addr} {o1 o2 o3 o4 : HO} (ha : H a = none) (hd : (upd H a o1) d = none) (n : d ≠ a) : Same H (upd (upd (upd (upd H a o1) d o2) a o3) d o4) := fun b o e => by
  have hd' : H d = none := by rw [upd_ne n] at hd; exact hd
  rw [upd_ne (ne_of_none e hd')]
  exact new2 ha hd n b o e
section
variable {C : Addr} {f f1 f2 : Str} {x y : V} {H : Hp} {Q : VK}
theorem mk1 (k : ∀ a H', Same H H' → ErrAt H' a C [(f, x)] → Q (.ref a) H') : ∀ a, H a = none → spErr1 C f [.ref a, x] (upd H a (exo a C none)) (fun v H2 => v = .non ∧ Q (.ref a) H2) (fun _ _ _ => False) := fun a ha =>
  ⟨a, x, rfl, upd_same, fun d hd n => ⟨rfl, k a _ (new2 ha hd n) (.inr ⟨d, upd_same, by rw [upd_ne n]; exact upd_same⟩)⟩⟩
theorem mk2 (k : ∀ a H', Same H H' → ErrAt H' a C [(f2, y), (f1, x)] → Q (.ref a) H') : ∀ a, H a = none → spErr2 C f1 f2 [.ref a, x, y] (upd H a (exo a C none)) (fun v H2 => v = .non ∧ Q (.ref a) H2) (fun _ _ _ => False) := fun a ha =>
  ⟨a, x, y, rfl, upd_same, fun d hd n => ⟨rfl, k a _ (fun b o e => by
    have hd' : H d = none := by rw [upd_ne n] at hd; exact hd
    rw [upd_ne (ne_of_none e hd')]
    exact new2 ha hd n b o e) (.inr ⟨d, by rw [upd_ne n.symm]; exact upd_same, upd_same⟩)⟩⟩
theorem mkP1 (k : ∀ a H', Same H H' → ErrAt H' a C [(f, x)] → Q (.ref a) H') : ([x] : List V).length ≤ 1000 ∧ ∀ a, H a = none → spErr1 C f (.ref a :: ([x] ++ [])) (upd H a (exo a C none)) (fun v H2 => v = .non ∧ Q (.ref a) H2) (fun _ _ _ => False) := ⟨(by show 1 ≤ 1000; decide), mk1 k⟩
theorem mkP2 (k : ∀ a H', Same H H' → ErrAt H' a C [(f2, y), (f1, x)] → Q (.ref a) H') : ([x, y] : List V).length ≤ 1000 ∧ ∀ a, H a = none → spErr2 C f1 f2 (.ref a :: ([x, y] ++ [])) (upd H a (exo a C none)) (fun v H2 => v = .non ∧ Q (.ref a) H2) (fun _ _ _ => False) := ⟨(by show 2 ≤ 1000; decide), mk2 k⟩
theorem mkK1 (k : ∀ a H', Same H H' → ErrAt H' a C [(f, x)] → Q (.ref a) H') : ([x] : List V).length = 1 ∧ ∀ a, H a = none → spErr1 C f ((fun vs zs => vs ++ zs.reverse) [.ref a] [x]) (upd H a (exo a C none)) (fun v H2 => v = .non ∧ Q (.ref a) H2) (fun _ _ _ => False) := ⟨rfl, mk1 k⟩
theorem mkK2 (k : ∀ a H', Same H H' → ErrAt H' a C [(f2, y), (f1, x)] → Q (.ref a) H') : ([y, x] : List V).length = 2 ∧ ∀ a, H a = none → spErr2 C f1 f2 ((fun vs zs => vs ++ zs.reverse) [.ref a] [y, x]) (upd H a (exo a C none)) (fun v H2 => v = .non ∧ Q (.ref a) H2) (fun _ _ _ => False) := ⟨rfl, mk2 k⟩
theorem mk0 (k : ∀ a H', Same H H' → ErrAt H' a C [] → Q (.ref a) H') : ∀ a, H a = none → Q (.ref a) (upd H a (exo a C none)) := fun a ha => k a _ (Same.new ha) (.inl ⟨rfl, upd_same⟩)
end
/-- an error class with an own __init__ -/
structure ErV (P : Program) (w : World) (K : PySem.W.Frag) (mg : Str → Option Value) (base : Heap) (C : Addr) (nm : Str) (ps : List Str) (sp : Sp) where
  O : OexC K C
  X : XfC K C
  E : ExcC K C
  nf : ∀ p ∈ ps, PySem.W.findIn K (.ref C) p = some none
  g : mg nm = some (.ref C)
  f : Addr
  fd : FuncData
  i : PySem.W.findIn K (.ref C) "__init__" = some (some (.ref f))
  t : PySem.W.typeIn K (.ref f) = some (.type "function")
  F : FnOk P w K mg base CX0 2 f fd ("self" :: ps) sp
  b : Binds K fd ("self" :: ps) []
  kb : KBn K fd ("self" :: ps) 1 ps.reverse (fun us ws => us ++ ws.reverse) (fun vs zs => vs ++ zs.reverse)
/-- one without -/
structure ErZ (K : PySem.W.Frag) (mg : Str → Option Value) (C : Addr) (nm : Str) : Prop where
  E : ExcC K C
  q : PySem.W.excIn K C veBases "ValueError.__new__" = true
  k : PySem.W.keepIn K (.ref C) = true
  g : mg nm = some (.ref C)
section
variable {X : Cx} {e : Expr} {es : List Expr} {ta tk : TA} {te : TE} {p pos : Pos} {n x : Str} {C : Addr} {ps : List Str} {sp : Sp} {kws : List Keyword}
theorem pe_evP (T : ErV X.prog X.w X.K X.mg X.base C x ps sp) (hr : Room 3 X.A) (hx : Passes CX0 X (fun _ _ _ => False)) (hg : Gl X x) (ha : PA X (e :: es) ta)
    (hdb : (x == ("__debug__" : Str)) = false := by decide) (he : starEach (e :: es) X.env = (false, eval e X.env) :: starEach es X.env := by rfl) (hpl : (backTo pos (starEach es X.env)).any (·.1) = false := by rfl) :
    PE X (.Call (.Name x p) (e :: es) [] pos) (tMkV C sp [] ta) := pe_oexV T.O T.i T.t T.F hr T.b .nil hx hg T.g ha hdb he hpl
theorem pe_evK (T : ErV X.prog X.w X.K X.mg X.base C x ps sp) (hr : Room 3 X.A) (hx : Passes CX0 X (fun _ _ _ => False)) (hg : Gl X x) (hkw : PK X kws tk)
    (hks : (backToKw pos (keywordEach kws X.env)).filterMap (·.1) = ps.reverse := by rfl) (hall : (backToKw pos (keywordEach kws X.env)).all (·.1.isSome) = true := by rfl) (hdb : (x == ("__debug__" : Str)) = false := by decide)
    (hpl : ((backTo pos (starEach [] X.env)).any (·.1) || (backToKw pos (keywordEach kws X.env)).any (·.1.isNone)) = false := by rfl) :
    PE X (.Call (.Name x p) [] kws pos) (tMkK C ps.reverse.length sp (fun vs zs => vs ++ zs.reverse) tk) := pe_oexK T.O T.i T.t T.F hr T.kb hx hg T.g hkw hall hks hdb hpl
theorem pe_evZ (T : ErZ X.K X.mg C x) (hg : Gl X x) (hdb : (x == ("__debug__" : Str)) = false := by decide) : PE X (.Call (.Name x p) [] [] pos) (fun _ H Q => ∀ a, H a = none → Q (.ref a) (upd H a (exo a C none))) := pe_err0V T.q T.g T.k hg hdb
end
/-- a field is read -/
theorem rd_xv {K : PySem.W.Frag} {H : Hp} {a C : Addr} {fs : List (Str × V)} {f : Str} {v : V} {Q : VK} (h : ErrAt H a C fs) (X : XfC K C) (nf : PySem.W.findIn K (.ref C) f = some none) (l : fs.lookup f = some v) (q : Q v H) :
    ∃ (a' C dd : Addr) (fs : List (Str × V)) (v : V), V.ref a = .ref a' ∧ H a' = some (exo a' C (some dd)) ∧ H dd = some (exd dd fs) ∧ XfC K C ∧ PySem.W.findIn K (.ref C) f = some none ∧ fs.lookup f = some v ∧ Q v H := by
  rcases h with ⟨e, _⟩ | ⟨d, h1, h2⟩
  · rw [e] at l; cases l
  · exact ⟨a, C, d, fs, v, rfl, h1, h2, X, nf, l, q⟩
/-- isinstance is asked -/
theorem rd_isV {K : PySem.W.Frag} {H : Hp} {a C : Addr} {fs : List (Str × V)} {c : V} {cv : Value} {b : Bool} {Q : VK} (h : ErrAt H a C fs) (E : ExcC K C) (hc : ∀ u, RelV c u → u = cv) (kb : PySem.W.kitOne K (.ref C) cv = some b) (q : Q (.bl b) H) : rIsV K [.ref a, c] H Q := by
  rcases h with ⟨_, h1⟩ | ⟨d, h1, h2⟩
  · exact ⟨a, C, none, c, cv, b, rfl, h1, (fun d e => by cases e), E, hc, kb, q⟩
  · exact ⟨a, C, some d, c, cv, b, rfl, h1, (fun d' e => by cases e; exact ⟨_, h2⟩), E, hc, kb, q⟩
end Ts

set_option maxRecDepth 100000
set_option maxHeartbeats 8000000
namespace Ts
open PySem L2
structure Tab (P : Program) (w : World) (K : PySem.W.Frag) (mg : Str → Option Value) (base : Heap) where
  c : Nat → Addr
  B : Addr
  e0 : ErV P w K mg base (c 0) "BadRow" ["index"] (spErr1 (c 0) "index")
  e1 : ErV P w K mg base (c 1) "NoBox" ["box"] (spErr1 (c 1) "box")
  e2 : ErV P w K mg base (c 2) "NotShut" ["box"] (spErr1 (c 2) "box")
  e3 : ErV P w K mg base (c 3) "Locked" ["box"] (spErr1 (c 3) "box")
  e4 : ErV P w K mg base (c 4) "BadDeed" ["index"] (spErr1 (c 4) "index")
  e5 : ErV P w K mg base (c 5) "Clash" ["box"] (spErr1 (c 5) "box")
  e6 : ErV P w K mg base (c 6) "BadRule" ["rule"] (spErr1 (c 6) "rule")
  e7 : ErV P w K mg base (c 7) "BadWish" ["box"] (spErr1 (c 7) "box")
  e8 : ErV P w K mg base (c 8) "BadNumber" ["number"] (spErr1 (c 8) "number")
  e9 : ErV P w K mg base (c 9) "TooDear" ["cost"] (spErr1 (c 9) "cost")
  e10 : ErV P w K mg base (c 10) "BadRange" ["box"] (spErr1 (c 10) "box")
  e11 : ErV P w K mg base (c 11) "BadTable" ["word"] (spErr1 (c 11) "word")
  e12 : ErV P w K mg base (c 12) "NotSure" ["box"] (spErr1 (c 12) "box")
  e13 : ErV P w K mg base (c 13) "BadLine" ["index"] (spErr1 (c 13) "index")
  e14 : ErV P w K mg base (c 14) "BadMove" ["box", "into"] (spErr2 (c 14) "box" "into")
  e15 : ErV P w K mg base (c 15) "Barred" ["one", "other"] (spErr2 (c 15) "one" "other")
  e16 : ErZ K mg (c 16) "BadDefault"
  e17 : ErZ K mg (c 17) "UnlikeTrees"
  e18 : ErZ K mg (c 18) "LockedTree"
  zB : ErZ K mg B "BoxError"
  M : ∀ i j, i < 19 → j < 19 → PySem.W.kitOne K (.ref (c i)) (.ref (c j)) = some (decide (i = j))
  MB : ∀ i, i < 19 → PySem.W.kitOne K (.ref (c i)) (.ref B) = some true
  MV : ∀ i, i < 19 → PySem.W.kitOne K (.ref (c i)) (.type "ValueError") = some true
  BV : PySem.W.kitOne K (.ref B) (.type "ValueError") = some true
  B0 : PySem.W.kitOne K (.ref B) (.ref (c 0)) = some false
  B1 : PySem.W.kitOne K (.ref B) (.ref (c 1)) = some false
  E : ∀ i, i < 19 → ExcC K (c i)
/-- what the errors hold -/
def fT (x : V) : Nat → List (Str × V)
  | 0 => [("index", x)]
  | 1 => [("box", x)]
  | 2 => [("box", x)]
  | 3 => [("box", x)]
  | 4 => [("index", x)]
  | 5 => [("box", x)]
  | 6 => [("rule", x)]
  | 7 => [("box", x)]
  | 8 => [("number", x)]
  | 9 => [("cost", x)]
  | 10 => [("box", x)]
  | 11 => [("word", x)]
  | 12 => [("box", x)]
  | 13 => [("index", x)]
  | 14 => [("into", x), ("box", x)]
  | 15 => [("other", x), ("one", x)]
  | _ => []
def ErrsAt (H : Hp) (c : Nat → Addr) (x : V) (as : List Addr) : Prop := as.length = 19 ∧ ∀ (i : Nat) (a : Addr), as[i]? = some a → ErrAt H a (c i) (fT x i)
theorem ErrsAt.kl {H H' : Hp} {c : Nat → Addr} {x : V} {as : List Addr} (h : ErrsAt H c x as) (s : KLs H H') : ErrsAt H' c x as := ⟨h.1, fun i a e => (h.2 i a e).kl s⟩
def spMade (c : Nat → Addr) : Sp := fun vs H Q _ => ∃ x : V, vs = [x] ∧ ∀ (D : Addr) (as : List Addr) (H' : Hp), Same H H' → H' D = some (.lst (as.map V.ref)) → ErrsAt H' c x as → Q (.ref D) H'
def spKinds (c : Nat → Addr) : Sp := fun vs H Q _ => ∃ (a : Addr) (i : Nat) (fs : List (Str × V)), vs = [.ref a] ∧ i < 19 ∧ ErrAt H a (c i) fs ∧ ∀ (D : Addr) (H' : Hp), Same H H' → H' D = some (.lst ((List.range 19).map fun j => V.bl (decide (i = j)))) → Q (.ref D) H'
section
variable {P : Program} {w : World} {K : PySem.W.Frag} {mg : Str → Option Value} {base : Heap}
theorem sc_made : FnScope ["_law_x", "_law_found"] ["_law_x"] (defScope s_L_made) := ⟨rfl, rfl, rfl, by decide +kernel, rfl, by decide +kernel, by decide +kernel⟩
theorem ok_made (T : Tab P w K mg base) (D : DefAt K mg "_law_made" s_L_made ["_law_x"]) : FnOk P w K mg base CX0 4 D.f D.fd ["_law_x"] (spMade T.c) := by
  refine D.F.ok sc_made (fun vs H Q E h => ?_) (fun cdv A outer s H vs Q E hr h => ?_)
  · obtain ⟨x, rfl, _⟩ := h
    rfl
  · obtain ⟨x, rfl, hq⟩ := h
    have r3 : Room 3 _ := hr.mono (by decide)
    refine ⟨_, pss_cons (ps_set (i := 1) sc_made.nd rfl (.inl rfl) (pe_lst (pa_cons (pe_evP T.e0 r3 pass0 (by rfl) (pa_cons (pv 0) pa_nil)) (pa_cons (pe_evP T.e1 r3 pass0 (by rfl) (pa_cons (pv 0) pa_nil)) (pa_cons (pe_evP T.e2 r3 pass0 (by rfl) (pa_cons (pv 0) pa_nil)) (pa_cons (pe_evP T.e3 r3 pass0 (by rfl) (pa_cons (pv 0) pa_nil)) (pa_cons (pe_evP T.e4 r3 pass0 (by rfl) (pa_cons (pv 0) pa_nil)) (pa_cons (pe_evP T.e5 r3 pass0 (by rfl) (pa_cons (pv 0) pa_nil)) (pa_cons (pe_evP T.e6 r3 pass0 (by rfl) (pa_cons (pv 0) pa_nil)) (pa_cons (pe_evP T.e7 r3 pass0 (by rfl) (pa_cons (pv 0) pa_nil)) pa_nil))))))))))
      (pss_cons (ps_expr (pe_bm PySem.F.plainAttrs_list PySem.F.slot_list_extend PySem.F.type_list_extend mt_extend (pv 1) (pa_cons (pe_lst (pa_cons (pe_evP T.e8 r3 pass0 (by rfl) (pa_cons (pv 0) pa_nil)) (pa_cons (pe_evP T.e9 r3 pass0 (by rfl) (pa_cons (pv 0) pa_nil)) (pa_cons (pe_evP T.e10 r3 pass0 (by rfl) (pa_cons (pv 0) pa_nil)) (pa_cons (pe_evP T.e11 r3 pass0 (by rfl) (pa_cons (pv 0) pa_nil)) (pa_cons (pe_evP T.e12 r3 pass0 (by rfl) (pa_cons (pv 0) pa_nil)) (pa_cons (pe_evP T.e13 r3 pass0 (by rfl) (pa_cons (pv 0) pa_nil)) (pa_cons (pe_evP T.e14 r3 pass0 (by rfl) (pa_cons (pv 0) (pa_cons (pv 0) pa_nil))) pa_nil)))))))) pa_nil)))
      (pss_one (ps_ret (pe_op op_cat (pv 1) (pe_lst (pa_cons (pe_evP T.e15 r3 pass0 (by rfl) (pa_cons (pv 0) (pa_cons (pv 0) pa_nil))) (pa_cons (pe_evZ T.e16 (by rfl)) (pa_cons (pe_evZ T.e17 (by rfl)) (pa_cons (pe_evZ T.e18 (by rfl)) pa_nil))))))))), ?_⟩
    refine ⟨_, rfl, (by show 1 ≤ 1000; decide), fun a0 ha0 => ⟨a0, x, rfl, upd_same, fun d0 hd0 n0 => ⟨rfl, ?_⟩⟩⟩
    have s0 : Same H (upd (upd (upd H a0 (exo a0 (T.c 0) none)) d0 (exd d0 [(("index" : Str), x)])) a0 (exo a0 (T.c 0) (some d0))) := new2 ha0 hd0 n0
    have e0 : ErrAt (upd (upd (upd H a0 (exo a0 (T.c 0) none)) d0 (exd d0 [(("index" : Str), x)])) a0 (exo a0 (T.c 0) (some d0))) a0 (T.c 0) [(("index" : Str), x)] := .inr ⟨d0, upd_same, by rw [upd_ne n0]; exact upd_same⟩
    generalize (upd (upd (upd H a0 (exo a0 (T.c 0) none)) d0 (exd d0 [(("index" : Str), x)])) a0 (exo a0 (T.c 0) (some d0))) = H0 at s0 e0
    refine ⟨_, rfl, (by show 1 ≤ 1000; decide), fun a1 ha1 => ⟨a1, x, rfl, upd_same, fun d1 hd1 n1 => ⟨rfl, ?_⟩⟩⟩
    have s1 : Same H0 (upd (upd (upd H0 a1 (exo a1 (T.c 1) none)) d1 (exd d1 [(("box" : Str), x)])) a1 (exo a1 (T.c 1) (some d1))) := new2 ha1 hd1 n1
    have e1 : ErrAt (upd (upd (upd H0 a1 (exo a1 (T.c 1) none)) d1 (exd d1 [(("box" : Str), x)])) a1 (exo a1 (T.c 1) (some d1))) a1 (T.c 1) [(("box" : Str), x)] := .inr ⟨d1, upd_same, by rw [upd_ne n1]; exact upd_same⟩
    generalize (upd (upd (upd H0 a1 (exo a1 (T.c 1) none)) d1 (exd d1 [(("box" : Str), x)])) a1 (exo a1 (T.c 1) (some d1))) = H1 at s1 e1
    refine ⟨_, rfl, (by show 1 ≤ 1000; decide), fun a2 ha2 => ⟨a2, x, rfl, upd_same, fun d2 hd2 n2 => ⟨rfl, ?_⟩⟩⟩
    have s2 : Same H1 (upd (upd (upd H1 a2 (exo a2 (T.c 2) none)) d2 (exd d2 [(("box" : Str), x)])) a2 (exo a2 (T.c 2) (some d2))) := new2 ha2 hd2 n2
    have e2 : ErrAt (upd (upd (upd H1 a2 (exo a2 (T.c 2) none)) d2 (exd d2 [(("box" : Str), x)])) a2 (exo a2 (T.c 2) (some d2))) a2 (T.c 2) [(("box" : Str), x)] := .inr ⟨d2, upd_same, by rw [upd_ne n2]; exact upd_same⟩
    generalize (upd (upd (upd H1 a2 (exo a2 (T.c 2) none)) d2 (exd d2 [(("box" : Str), x)])) a2 (exo a2 (T.c 2) (some d2))) = H2 at s2 e2
    refine ⟨_, rfl, (by show 1 ≤ 1000; decide), fun a3 ha3 => ⟨a3, x, rfl, upd_same, fun d3 hd3 n3 => ⟨rfl, ?_⟩⟩⟩
    have s3 : Same H2 (upd (upd (upd H2 a3 (exo a3 (T.c 3) none)) d3 (exd d3 [(("box" : Str), x)])) a3 (exo a3 (T.c 3) (some d3))) := new2 ha3 hd3 n3
    have e3 : ErrAt (upd (upd (upd H2 a3 (exo a3 (T.c 3) none)) d3 (exd d3 [(("box" : Str), x)])) a3 (exo a3 (T.c 3) (some d3))) a3 (T.c 3) [(("box" : Str), x)] := .inr ⟨d3, upd_same, by rw [upd_ne n3]; exact upd_same⟩
    generalize (upd (upd (upd H2 a3 (exo a3 (T.c 3) none)) d3 (exd d3 [(("box" : Str), x)])) a3 (exo a3 (T.c 3) (some d3))) = H3 at s3 e3
    refine ⟨_, rfl, (by show 1 ≤ 1000; decide), fun a4 ha4 => ⟨a4, x, rfl, upd_same, fun d4 hd4 n4 => ⟨rfl, ?_⟩⟩⟩
    have s4 : Same H3 (upd (upd (upd H3 a4 (exo a4 (T.c 4) none)) d4 (exd d4 [(("index" : Str), x)])) a4 (exo a4 (T.c 4) (some d4))) := new2 ha4 hd4 n4
    have e4 : ErrAt (upd (upd (upd H3 a4 (exo a4 (T.c 4) none)) d4 (exd d4 [(("index" : Str), x)])) a4 (exo a4 (T.c 4) (some d4))) a4 (T.c 4) [(("index" : Str), x)] := .inr ⟨d4, upd_same, by rw [upd_ne n4]; exact upd_same⟩
    generalize (upd (upd (upd H3 a4 (exo a4 (T.c 4) none)) d4 (exd d4 [(("index" : Str), x)])) a4 (exo a4 (T.c 4) (some d4))) = H4 at s4 e4
    refine ⟨_, rfl, (by show 1 ≤ 1000; decide), fun a5 ha5 => ⟨a5, x, rfl, upd_same, fun d5 hd5 n5 => ⟨rfl, ?_⟩⟩⟩
    have s5 : Same H4 (upd (upd (upd H4 a5 (exo a5 (T.c 5) none)) d5 (exd d5 [(("box" : Str), x)])) a5 (exo a5 (T.c 5) (some d5))) := new2 ha5 hd5 n5
    have e5 : ErrAt (upd (upd (upd H4 a5 (exo a5 (T.c 5) none)) d5 (exd d5 [(("box" : Str), x)])) a5 (exo a5 (T.c 5) (some d5))) a5 (T.c 5) [(("box" : Str), x)] := .inr ⟨d5, upd_same, by rw [upd_ne n5]; exact upd_same⟩
    generalize (upd (upd (upd H4 a5 (exo a5 (T.c 5) none)) d5 (exd d5 [(("box" : Str), x)])) a5 (exo a5 (T.c 5) (some d5))) = H5 at s5 e5
    refine ⟨_, rfl, (by show 1 ≤ 1000; decide), fun a6 ha6 => ⟨a6, x, rfl, upd_same, fun d6 hd6 n6 => ⟨rfl, ?_⟩⟩⟩
    have s6 : Same H5 (upd (upd (upd H5 a6 (exo a6 (T.c 6) none)) d6 (exd d6 [(("rule" : Str), x)])) a6 (exo a6 (T.c 6) (some d6))) := new2 ha6 hd6 n6
    have e6 : ErrAt (upd (upd (upd H5 a6 (exo a6 (T.c 6) none)) d6 (exd d6 [(("rule" : Str), x)])) a6 (exo a6 (T.c 6) (some d6))) a6 (T.c 6) [(("rule" : Str), x)] := .inr ⟨d6, upd_same, by rw [upd_ne n6]; exact upd_same⟩
    generalize (upd (upd (upd H5 a6 (exo a6 (T.c 6) none)) d6 (exd d6 [(("rule" : Str), x)])) a6 (exo a6 (T.c 6) (some d6))) = H6 at s6 e6
    refine ⟨_, rfl, (by show 1 ≤ 1000; decide), fun a7 ha7 => ⟨a7, x, rfl, upd_same, fun d7 hd7 n7 => ⟨rfl, ?_⟩⟩⟩
    have s7 : Same H6 (upd (upd (upd H6 a7 (exo a7 (T.c 7) none)) d7 (exd d7 [(("box" : Str), x)])) a7 (exo a7 (T.c 7) (some d7))) := new2 ha7 hd7 n7
    have e7 : ErrAt (upd (upd (upd H6 a7 (exo a7 (T.c 7) none)) d7 (exd d7 [(("box" : Str), x)])) a7 (exo a7 (T.c 7) (some d7))) a7 (T.c 7) [(("box" : Str), x)] := .inr ⟨d7, upd_same, by rw [upd_ne n7]; exact upd_same⟩
    generalize (upd (upd (upd H6 a7 (exo a7 (T.c 7) none)) d7 (exd d7 [(("box" : Str), x)])) a7 (exo a7 (T.c 7) (some d7))) = H7 at s7 e7
    refine ⟨(by show 8 ≤ sizeLine; decide), fun fl hfl => ?_⟩
    have sA : Same H7 (upd H7 fl (.lst [V.ref a0, V.ref a1, V.ref a2, V.ref a3, V.ref a4, V.ref a5, V.ref a6, V.ref a7])) := Same.new hfl
    have eA : (upd H7 fl (.lst [V.ref a0, V.ref a1, V.ref a2, V.ref a3, V.ref a4, V.ref a5, V.ref a6, V.ref a7])) fl = some (.lst [V.ref a0, V.ref a1, V.ref a2, V.ref a3, V.ref a4, V.ref a5, V.ref a6, V.ref a7]) := upd_same
    have nfl : ∀ b o, H b = some o → b ≠ fl := fun b o e => ne_of_none (s7 _ _ (s6 _ _ (s5 _ _ (s4 _ _ (s3 _ _ (s2 _ _ (s1 _ _ (s0 _ _ (e))))))))) hfl
    generalize upd H7 fl (.lst [V.ref a0, V.ref a1, V.ref a2, V.ref a3, V.ref a4, V.ref a5, V.ref a6, V.ref a7]) = HA at sA eA
    refine ⟨_, rfl, .inl ⟨rfl, _, SqL.of eA⟩, ?_⟩
    refine ⟨_, rfl, (by show 1 ≤ 1000; decide), fun a8 ha8 => ⟨a8, x, rfl, upd_same, fun d8 hd8 n8 => ⟨rfl, ?_⟩⟩⟩
    have s8 : Same HA (upd (upd (upd HA a8 (exo a8 (T.c 8) none)) d8 (exd d8 [(("number" : Str), x)])) a8 (exo a8 (T.c 8) (some d8))) := new2 ha8 hd8 n8
    have e8 : ErrAt (upd (upd (upd HA a8 (exo a8 (T.c 8) none)) d8 (exd d8 [(("number" : Str), x)])) a8 (exo a8 (T.c 8) (some d8))) a8 (T.c 8) [(("number" : Str), x)] := .inr ⟨d8, upd_same, by rw [upd_ne n8]; exact upd_same⟩
    generalize (upd (upd (upd HA a8 (exo a8 (T.c 8) none)) d8 (exd d8 [(("number" : Str), x)])) a8 (exo a8 (T.c 8) (some d8))) = H8 at s8 e8
    refine ⟨_, rfl, (by show 1 ≤ 1000; decide), fun a9 ha9 => ⟨a9, x, rfl, upd_same, fun d9 hd9 n9 => ⟨rfl, ?_⟩⟩⟩
    have s9 : Same H8 (upd (upd (upd H8 a9 (exo a9 (T.c 9) none)) d9 (exd d9 [(("cost" : Str), x)])) a9 (exo a9 (T.c 9) (some d9))) := new2 ha9 hd9 n9
    have e9 : ErrAt (upd (upd (upd H8 a9 (exo a9 (T.c 9) none)) d9 (exd d9 [(("cost" : Str), x)])) a9 (exo a9 (T.c 9) (some d9))) a9 (T.c 9) [(("cost" : Str), x)] := .inr ⟨d9, upd_same, by rw [upd_ne n9]; exact upd_same⟩
    generalize (upd (upd (upd H8 a9 (exo a9 (T.c 9) none)) d9 (exd d9 [(("cost" : Str), x)])) a9 (exo a9 (T.c 9) (some d9))) = H9 at s9 e9
    refine ⟨_, rfl, (by show 1 ≤ 1000; decide), fun a10 ha10 => ⟨a10, x, rfl, upd_same, fun d10 hd10 n10 => ⟨rfl, ?_⟩⟩⟩
    have s10 : Same H9 (upd (upd (upd H9 a10 (exo a10 (T.c 10) none)) d10 (exd d10 [(("box" : Str), x)])) a10 (exo a10 (T.c 10) (some d10))) := new2 ha10 hd10 n10
    have e10 : ErrAt (upd (upd (upd H9 a10 (exo a10 (T.c 10) none)) d10 (exd d10 [(("box" : Str), x)])) a10 (exo a10 (T.c 10) (some d10))) a10 (T.c 10) [(("box" : Str), x)] := .inr ⟨d10, upd_same, by rw [upd_ne n10]; exact upd_same⟩
    generalize (upd (upd (upd H9 a10 (exo a10 (T.c 10) none)) d10 (exd d10 [(("box" : Str), x)])) a10 (exo a10 (T.c 10) (some d10))) = H10 at s10 e10
    refine ⟨_, rfl, (by show 1 ≤ 1000; decide), fun a11 ha11 => ⟨a11, x, rfl, upd_same, fun d11 hd11 n11 => ⟨rfl, ?_⟩⟩⟩
    have s11 : Same H10 (upd (upd (upd H10 a11 (exo a11 (T.c 11) none)) d11 (exd d11 [(("word" : Str), x)])) a11 (exo a11 (T.c 11) (some d11))) := new2 ha11 hd11 n11
    have e11 : ErrAt (upd (upd (upd H10 a11 (exo a11 (T.c 11) none)) d11 (exd d11 [(("word" : Str), x)])) a11 (exo a11 (T.c 11) (some d11))) a11 (T.c 11) [(("word" : Str), x)] := .inr ⟨d11, upd_same, by rw [upd_ne n11]; exact upd_same⟩
    generalize (upd (upd (upd H10 a11 (exo a11 (T.c 11) none)) d11 (exd d11 [(("word" : Str), x)])) a11 (exo a11 (T.c 11) (some d11))) = H11 at s11 e11
    refine ⟨_, rfl, (by show 1 ≤ 1000; decide), fun a12 ha12 => ⟨a12, x, rfl, upd_same, fun d12 hd12 n12 => ⟨rfl, ?_⟩⟩⟩
    have s12 : Same H11 (upd (upd (upd H11 a12 (exo a12 (T.c 12) none)) d12 (exd d12 [(("box" : Str), x)])) a12 (exo a12 (T.c 12) (some d12))) := new2 ha12 hd12 n12
    have e12 : ErrAt (upd (upd (upd H11 a12 (exo a12 (T.c 12) none)) d12 (exd d12 [(("box" : Str), x)])) a12 (exo a12 (T.c 12) (some d12))) a12 (T.c 12) [(("box" : Str), x)] := .inr ⟨d12, upd_same, by rw [upd_ne n12]; exact upd_same⟩
    generalize (upd (upd (upd H11 a12 (exo a12 (T.c 12) none)) d12 (exd d12 [(("box" : Str), x)])) a12 (exo a12 (T.c 12) (some d12))) = H12 at s12 e12
    refine ⟨_, rfl, (by show 1 ≤ 1000; decide), fun a13 ha13 => ⟨a13, x, rfl, upd_same, fun d13 hd13 n13 => ⟨rfl, ?_⟩⟩⟩
    have s13 : Same H12 (upd (upd (upd H12 a13 (exo a13 (T.c 13) none)) d13 (exd d13 [(("index" : Str), x)])) a13 (exo a13 (T.c 13) (some d13))) := new2 ha13 hd13 n13
    have e13 : ErrAt (upd (upd (upd H12 a13 (exo a13 (T.c 13) none)) d13 (exd d13 [(("index" : Str), x)])) a13 (exo a13 (T.c 13) (some d13))) a13 (T.c 13) [(("index" : Str), x)] := .inr ⟨d13, upd_same, by rw [upd_ne n13]; exact upd_same⟩
    generalize (upd (upd (upd H12 a13 (exo a13 (T.c 13) none)) d13 (exd d13 [(("index" : Str), x)])) a13 (exo a13 (T.c 13) (some d13))) = H13 at s13 e13
    refine ⟨_, rfl, _, rfl, (by show 2 ≤ 1000; decide), fun a14 ha14 => ⟨a14, x, x, rfl, upd_same, fun d14 hd14 n14 => ⟨rfl, ?_⟩⟩⟩
    have s14 : Same H13 (upd (upd (upd (upd H13 a14 (exo a14 (T.c 14) none)) d14 (exd d14 [(("box" : Str), x)])) a14 (exo a14 (T.c 14) (some d14))) d14 (exd d14 [(("into" : Str), x), (("box" : Str), x)])) := new3 ha14 hd14 n14
    have e14 : ErrAt (upd (upd (upd (upd H13 a14 (exo a14 (T.c 14) none)) d14 (exd d14 [(("box" : Str), x)])) a14 (exo a14 (T.c 14) (some d14))) d14 (exd d14 [(("into" : Str), x), (("box" : Str), x)])) a14 (T.c 14) [(("into" : Str), x), (("box" : Str), x)] := .inr ⟨d14, by rw [upd_ne n14.symm]; exact upd_same, upd_same⟩
    generalize (upd (upd (upd (upd H13 a14 (exo a14 (T.c 14) none)) d14 (exd d14 [(("box" : Str), x)])) a14 (exo a14 (T.c 14) (some d14))) d14 (exd d14 [(("into" : Str), x), (("box" : Str), x)])) = H14 at s14 e14
    refine ⟨(by show 7 ≤ sizeLine; decide), fun gl hgl => ?_⟩
    have sB : Same H14 (upd H14 gl (.lst [V.ref a8, V.ref a9, V.ref a10, V.ref a11, V.ref a12, V.ref a13, V.ref a14])) := Same.new hgl
    have eB : (upd H14 gl (.lst [V.ref a8, V.ref a9, V.ref a10, V.ref a11, V.ref a12, V.ref a13, V.ref a14])) gl = some (.lst [V.ref a8, V.ref a9, V.ref a10, V.ref a11, V.ref a12, V.ref a13, V.ref a14]) := upd_same
    generalize upd H14 gl (.lst [V.ref a8, V.ref a9, V.ref a10, V.ref a11, V.ref a12, V.ref a13, V.ref a14]) = HB at sB eB
    have sAB : Same HA HB := s8.trans (s9.trans (s10.trans (s11.trans (s12.trans (s13.trans (s14.trans sB))))))
    have eAB := sAB _ _ eA
    refine ⟨fl, gl, _, _, rfl, rfl, eAB, eB, (by show 15 ≤ sizeLine; decide), ?_⟩
    have kC : KLs HB (upd HB fl (.lst ([V.ref a0, V.ref a1, V.ref a2, V.ref a3, V.ref a4, V.ref a5, V.ref a6, V.ref a7] ++ [V.ref a8, V.ref a9, V.ref a10, V.ref a11, V.ref a12, V.ref a13, V.ref a14]))) := KLs.upd eAB
    have eC : (upd HB fl (.lst ([V.ref a0, V.ref a1, V.ref a2, V.ref a3, V.ref a4, V.ref a5, V.ref a6, V.ref a7] ++ [V.ref a8, V.ref a9, V.ref a10, V.ref a11, V.ref a12, V.ref a13, V.ref a14]))) fl = some (.lst ([V.ref a0, V.ref a1, V.ref a2, V.ref a3, V.ref a4, V.ref a5, V.ref a6, V.ref a7] ++ [V.ref a8, V.ref a9, V.ref a10, V.ref a11, V.ref a12, V.ref a13, V.ref a14])) := upd_same
    have oC : ∀ b o, b ≠ fl → HB b = some o → (upd HB fl (.lst ([V.ref a0, V.ref a1, V.ref a2, V.ref a3, V.ref a4, V.ref a5, V.ref a6, V.ref a7] ++ [V.ref a8, V.ref a9, V.ref a10, V.ref a11, V.ref a12, V.ref a13, V.ref a14]))) b = some o := fun b o n e => by rw [upd_ne n]; exact e
    generalize upd HB fl (.lst ([V.ref a0, V.ref a1, V.ref a2, V.ref a3, V.ref a4, V.ref a5, V.ref a6, V.ref a7] ++ [V.ref a8, V.ref a9, V.ref a10, V.ref a11, V.ref a12, V.ref a13, V.ref a14])) = HC at kC eC oC
    refine ⟨_, rfl, ?_⟩
    refine ⟨_, rfl, _, rfl, (by show 2 ≤ 1000; decide), fun a15 ha15 => ⟨a15, x, x, rfl, upd_same, fun d15 hd15 n15 => ⟨rfl, ?_⟩⟩⟩
    have s15 : Same HC (upd (upd (upd (upd HC a15 (exo a15 (T.c 15) none)) d15 (exd d15 [(("one" : Str), x)])) a15 (exo a15 (T.c 15) (some d15))) d15 (exd d15 [(("other" : Str), x), (("one" : Str), x)])) := new3 ha15 hd15 n15
    have e15 : ErrAt (upd (upd (upd (upd HC a15 (exo a15 (T.c 15) none)) d15 (exd d15 [(("one" : Str), x)])) a15 (exo a15 (T.c 15) (some d15))) d15 (exd d15 [(("other" : Str), x), (("one" : Str), x)])) a15 (T.c 15) [(("other" : Str), x), (("one" : Str), x)] := .inr ⟨d15, by rw [upd_ne n15.symm]; exact upd_same, upd_same⟩
    generalize (upd (upd (upd (upd HC a15 (exo a15 (T.c 15) none)) d15 (exd d15 [(("one" : Str), x)])) a15 (exo a15 (T.c 15) (some d15))) d15 (exd d15 [(("other" : Str), x), (("one" : Str), x)])) = H15 at s15 e15
    refine fun a16 ha16 => ?_
    have s16 : Same H15 (upd H15 a16 (exo a16 (T.c 16) none)) := Same.new ha16
    have e16 : ErrAt (upd H15 a16 (exo a16 (T.c 16) none)) a16 (T.c 16) [] := .inl ⟨rfl, upd_same⟩
    generalize (upd H15 a16 (exo a16 (T.c 16) none)) = H16 at s16 e16
    refine fun a17 ha17 => ?_
    have s17 : Same H16 (upd H16 a17 (exo a17 (T.c 17) none)) := Same.new ha17
    have e17 : ErrAt (upd H16 a17 (exo a17 (T.c 17) none)) a17 (T.c 17) [] := .inl ⟨rfl, upd_same⟩
    generalize (upd H16 a17 (exo a17 (T.c 17) none)) = H17 at s17 e17
    refine fun a18 ha18 => ?_
    have s18 : Same H17 (upd H17 a18 (exo a18 (T.c 18) none)) := Same.new ha18
    have e18 : ErrAt (upd H17 a18 (exo a18 (T.c 18) none)) a18 (T.c 18) [] := .inl ⟨rfl, upd_same⟩
    generalize (upd H17 a18 (exo a18 (T.c 18) none)) = H18 at s18 e18
    refine ⟨(by show 4 ≤ sizeLine; decide), fun ql hql => ?_⟩
    have sD : Same H18 (upd H18 ql (.lst [V.ref a15, V.ref a16, V.ref a17, V.ref a18])) := Same.new hql
    have eD : (upd H18 ql (.lst [V.ref a15, V.ref a16, V.ref a17, V.ref a18])) ql = some (.lst [V.ref a15, V.ref a16, V.ref a17, V.ref a18]) := upd_same
    generalize upd H18 ql (.lst [V.ref a15, V.ref a16, V.ref a17, V.ref a18]) = HD at sD eD
    have sCD : Same HC HD := s15.trans (s16.trans (s17.trans (s18.trans sD)))
    refine ⟨fl, ql, _, _, rfl, rfl, sCD _ _ eC, eD, (by show 19 ≤ sizeLine; decide), fun D0 hD0 => ?_⟩
    have sE : Same HD (upd HD D0 (.lst ([V.ref a0, V.ref a1, V.ref a2, V.ref a3, V.ref a4, V.ref a5, V.ref a6, V.ref a7] ++ [V.ref a8, V.ref a9, V.ref a10, V.ref a11, V.ref a12, V.ref a13, V.ref a14] ++ [V.ref a15, V.ref a16, V.ref a17, V.ref a18]))) := Same.new hD0
    have eE : (upd HD D0 (.lst ([V.ref a0, V.ref a1, V.ref a2, V.ref a3, V.ref a4, V.ref a5, V.ref a6, V.ref a7] ++ [V.ref a8, V.ref a9, V.ref a10, V.ref a11, V.ref a12, V.ref a13, V.ref a14] ++ [V.ref a15, V.ref a16, V.ref a17, V.ref a18]))) D0 = some (.lst ([a0, a1, a2, a3, a4, a5, a6, a7, a8, a9, a10, a11, a12, a13, a14, a15, a16, a17, a18].map V.ref)) := upd_same
    generalize upd HD D0 (.lst ([V.ref a0, V.ref a1, V.ref a2, V.ref a3, V.ref a4, V.ref a5, V.ref a6, V.ref a7] ++ [V.ref a8, V.ref a9, V.ref a10, V.ref a11, V.ref a12, V.ref a13, V.ref a14] ++ [V.ref a15, V.ref a16, V.ref a17, V.ref a18])) = HE at sE eE
    have sCE := sCD.trans sE
    have sHA : Same H HA := s0.trans (s1.trans (s2.trans (s3.trans (s4.trans (s5.trans (s6.trans (s7.trans sA)))))))
    have kBE : KLs HB HE := fun b o e no => sCE _ _ (kC b o e no)
    refine hq D0 [a0, a1, a2, a3, a4, a5, a6, a7, a8, a9, a10, a11, a12, a13, a14, a15, a16, a17, a18] HE (fun b o e => sCE _ _ (oC b o (nfl b o e) (sAB _ _ (sHA _ _ e)))) eE ⟨rfl, fun i a hi => ?_⟩
    match i, hi with
    | 0, hi => cases hi; exact (((((((((e0.same s1).same s2).same s3).same s4).same s5).same s6).same s7).same sA).same sAB).kl kBE
    | 1, hi => cases hi; exact ((((((((e1.same s2).same s3).same s4).same s5).same s6).same s7).same sA).same sAB).kl kBE
    | 2, hi => cases hi; exact (((((((e2.same s3).same s4).same s5).same s6).same s7).same sA).same sAB).kl kBE
    | 3, hi => cases hi; exact ((((((e3.same s4).same s5).same s6).same s7).same sA).same sAB).kl kBE
    | 4, hi => cases hi; exact (((((e4.same s5).same s6).same s7).same sA).same sAB).kl kBE
    | 5, hi => cases hi; exact ((((e5.same s6).same s7).same sA).same sAB).kl kBE
    | 6, hi => cases hi; exact (((e6.same s7).same sA).same sAB).kl kBE
    | 7, hi => cases hi; exact ((e7.same sA).same sAB).kl kBE
    | 8, hi => cases hi; exact (((((((e8.same s9).same s10).same s11).same s12).same s13).same s14).same sB).kl kBE
    | 9, hi => cases hi; exact ((((((e9.same s10).same s11).same s12).same s13).same s14).same sB).kl kBE
    | 10, hi => cases hi; exact (((((e10.same s11).same s12).same s13).same s14).same sB).kl kBE
    | 11, hi => cases hi; exact ((((e11.same s12).same s13).same s14).same sB).kl kBE
    | 12, hi => cases hi; exact (((e12.same s13).same s14).same sB).kl kBE
    | 13, hi => cases hi; exact ((e13.same s14).same sB).kl kBE
    | 14, hi => cases hi; exact (e14.same sB).kl kBE
    | 15, hi => cases hi; exact ((((e15.same s16).same s17).same s18).same sD).same sE
    | 16, hi => cases hi; exact (((e16.same s17).same s18).same sD).same sE
    | 17, hi => cases hi; exact ((e17.same s18).same sD).same sE
    | 18, hi => cases hi; exact (e18.same sD).same sE
    | i + 19, hi => simp at hi
end
end Ts

set_option maxRecDepth 100000
set_option maxHeartbeats 8000000
namespace Ts
open PySem L2
theorem ErrAt.is {H : Hp} {a C : Addr} {fs : List (Str × V)} (h : ErrAt H a C fs) : ∃ dd, H a = some (exo a C dd) ∧ ∀ d, dd = some d → ∃ fs, H d = some (exd d fs) := by
  rcases h with ⟨_, h1⟩ | ⟨d, h1, h2⟩
  · exact ⟨none, h1, fun d e => by cases e⟩
  · exact ⟨some d, h1, fun d' e => by cases e; exact ⟨_, h2⟩⟩
section
variable {P : Program} {w : World} {K : PySem.W.Frag} {mg : Str → Option Value} {base : Heap}
theorem sc_kinds : FnScope ["_law_e", "_law_found"] ["_law_e"] (defScope s_L_kinds) := ⟨rfl, rfl, rfl, by decide +kernel, rfl, by decide +kernel, by decide +kernel⟩
theorem ok_kinds (T : Tab P w K mg base) (B : TxB mg) (D : DefAt K mg "_law_kinds" s_L_kinds ["_law_e"]) : FnOk P w K mg base CX0 2 D.f D.fd ["_law_e"] (spKinds T.c) := by
  refine D.F.ok sc_kinds (fun vs H Q E h => ?_) (fun cdv A outer s H vs Q E hr h => ?_)
  · obtain ⟨a, i, fs, rfl, _⟩ := h
    rfl
  · obtain ⟨a, i, fs, rfl, hi, he, hq⟩ := h
    have hc : ∀ (C : Addr) (u : Value), RelV (.ref C) u → u = .ref C := fun C u h => h
    refine ⟨_, pss_cons (ps_set (i := 1) sc_kinds.nd rfl (.inl rfl) (pe_lst (pa_cons (pe_callB call_isV (by rfl) B.isinstance (by decide +kernel) (pa_cons (pv 0) (pa_cons (pe_glob (by rfl) T.e0.g (v := .ref (T.c 0)) rfl) pa_nil))) (pa_cons (pe_callB call_isV (by rfl) B.isinstance (by decide +kernel) (pa_cons (pv 0) (pa_cons (pe_glob (by rfl) T.e1.g (v := .ref (T.c 1)) rfl) pa_nil))) (pa_cons (pe_callB call_isV (by rfl) B.isinstance (by decide +kernel) (pa_cons (pv 0) (pa_cons (pe_glob (by rfl) T.e2.g (v := .ref (T.c 2)) rfl) pa_nil))) (pa_cons (pe_callB call_isV (by rfl) B.isinstance (by decide +kernel) (pa_cons (pv 0) (pa_cons (pe_glob (by rfl) T.e3.g (v := .ref (T.c 3)) rfl) pa_nil))) pa_nil))))))
      (pss_cons (ps_expr (pe_bm PySem.F.plainAttrs_list PySem.F.slot_list_extend PySem.F.type_list_extend mt_extend (pv 1) (pa_cons (pe_lst (pa_cons (pe_callB call_isV (by rfl) B.isinstance (by decide +kernel) (pa_cons (pv 0) (pa_cons (pe_glob (by rfl) T.e4.g (v := .ref (T.c 4)) rfl) pa_nil))) (pa_cons (pe_callB call_isV (by rfl) B.isinstance (by decide +kernel) (pa_cons (pv 0) (pa_cons (pe_glob (by rfl) T.e5.g (v := .ref (T.c 5)) rfl) pa_nil))) (pa_cons (pe_callB call_isV (by rfl) B.isinstance (by decide +kernel) (pa_cons (pv 0) (pa_cons (pe_glob (by rfl) T.e6.g (v := .ref (T.c 6)) rfl) pa_nil))) pa_nil)))) pa_nil)))
      (pss_cons (ps_expr (pe_bm PySem.F.plainAttrs_list PySem.F.slot_list_extend PySem.F.type_list_extend mt_extend (pv 1) (pa_cons (pe_lst (pa_cons (pe_callB call_isV (by rfl) B.isinstance (by decide +kernel) (pa_cons (pv 0) (pa_cons (pe_glob (by rfl) T.e7.g (v := .ref (T.c 7)) rfl) pa_nil))) (pa_cons (pe_callB call_isV (by rfl) B.isinstance (by decide +kernel) (pa_cons (pv 0) (pa_cons (pe_glob (by rfl) T.e8.g (v := .ref (T.c 8)) rfl) pa_nil))) (pa_cons (pe_callB call_isV (by rfl) B.isinstance (by decide +kernel) (pa_cons (pv 0) (pa_cons (pe_glob (by rfl) T.e9.g (v := .ref (T.c 9)) rfl) pa_nil))) pa_nil)))) pa_nil)))
      (pss_cons (ps_expr (pe_bm PySem.F.plainAttrs_list PySem.F.slot_list_extend PySem.F.type_list_extend mt_extend (pv 1) (pa_cons (pe_lst (pa_cons (pe_callB call_isV (by rfl) B.isinstance (by decide +kernel) (pa_cons (pv 0) (pa_cons (pe_glob (by rfl) T.e10.g (v := .ref (T.c 10)) rfl) pa_nil))) (pa_cons (pe_callB call_isV (by rfl) B.isinstance (by decide +kernel) (pa_cons (pv 0) (pa_cons (pe_glob (by rfl) T.e11.g (v := .ref (T.c 11)) rfl) pa_nil))) (pa_cons (pe_callB call_isV (by rfl) B.isinstance (by decide +kernel) (pa_cons (pv 0) (pa_cons (pe_glob (by rfl) T.e12.g (v := .ref (T.c 12)) rfl) pa_nil))) pa_nil)))) pa_nil)))
      (pss_cons (ps_expr (pe_bm PySem.F.plainAttrs_list PySem.F.slot_list_extend PySem.F.type_list_extend mt_extend (pv 1) (pa_cons (pe_lst (pa_cons (pe_callB call_isV (by rfl) B.isinstance (by decide +kernel) (pa_cons (pv 0) (pa_cons (pe_glob (by rfl) T.e13.g (v := .ref (T.c 13)) rfl) pa_nil))) (pa_cons (pe_callB call_isV (by rfl) B.isinstance (by decide +kernel) (pa_cons (pv 0) (pa_cons (pe_glob (by rfl) T.e14.g (v := .ref (T.c 14)) rfl) pa_nil))) (pa_cons (pe_callB call_isV (by rfl) B.isinstance (by decide +kernel) (pa_cons (pv 0) (pa_cons (pe_glob (by rfl) T.e15.g (v := .ref (T.c 15)) rfl) pa_nil))) pa_nil)))) pa_nil)))
      (pss_one (ps_ret (pe_op op_cat (pv 1) (pe_lst (pa_cons (pe_callB call_isV (by rfl) B.isinstance (by decide +kernel) (pa_cons (pv 0) (pa_cons (pe_glob (by rfl) T.e16.g (v := .ref (T.c 16)) rfl) pa_nil))) (pa_cons (pe_callB call_isV (by rfl) B.isinstance (by decide +kernel) (pa_cons (pv 0) (pa_cons (pe_glob (by rfl) T.e17.g (v := .ref (T.c 17)) rfl) pa_nil))) (pa_cons (pe_callB call_isV (by rfl) B.isinstance (by decide +kernel) (pa_cons (pv 0) (pa_cons (pe_glob (by rfl) T.e18.g (v := .ref (T.c 18)) rfl) pa_nil))) pa_nil))))))))))), ?_⟩
    obtain ⟨dd0, ea0, ed0⟩ := he.is
    refine ⟨_, rfl, a, T.c i, dd0, .ref (T.c 0), .ref (T.c 0), _, rfl, ea0, ed0, T.E i hi, hc _, T.M i 0 hi (by decide), ?_⟩
    refine ⟨_, rfl, a, T.c i, dd0, .ref (T.c 1), .ref (T.c 1), _, rfl, ea0, ed0, T.E i hi, hc _, T.M i 1 hi (by decide), ?_⟩
    refine ⟨_, rfl, a, T.c i, dd0, .ref (T.c 2), .ref (T.c 2), _, rfl, ea0, ed0, T.E i hi, hc _, T.M i 2 hi (by decide), ?_⟩
    refine ⟨_, rfl, a, T.c i, dd0, .ref (T.c 3), .ref (T.c 3), _, rfl, ea0, ed0, T.E i hi, hc _, T.M i 3 hi (by decide), ?_⟩
    refine ⟨(by show 4 ≤ sizeLine; decide), fun fl hfl => ?_⟩
    have s0 : Same H (upd H fl (.lst [V.bl (decide (i = 0)), V.bl (decide (i = 1)), V.bl (decide (i = 2)), V.bl (decide (i = 3))])) := Same.new hfl
    have f0 : (upd H fl (.lst [V.bl (decide (i = 0)), V.bl (decide (i = 1)), V.bl (decide (i = 2)), V.bl (decide (i = 3))])) fl = some (.lst [V.bl (decide (i = 0)), V.bl (decide (i = 1)), V.bl (decide (i = 2)), V.bl (decide (i = 3))]) := upd_same
    have nfl : ∀ b o, H b = some o → b ≠ fl := fun b o e => ne_of_none e hfl
    generalize upd H fl (.lst [V.bl (decide (i = 0)), V.bl (decide (i = 1)), V.bl (decide (i = 2)), V.bl (decide (i = 3))]) = H0 at s0 f0
    have h0 := he.same s0
    refine ⟨_, rfl, .inl ⟨rfl, _, SqL.of f0⟩, ?_⟩
    obtain ⟨dd4, ea4, ed4⟩ := h0.is
    refine ⟨_, rfl, a, T.c i, dd4, .ref (T.c 4), .ref (T.c 4), _, rfl, ea4, ed4, T.E i hi, hc _, T.M i 4 hi (by decide), ?_⟩
    refine ⟨_, rfl, a, T.c i, dd4, .ref (T.c 5), .ref (T.c 5), _, rfl, ea4, ed4, T.E i hi, hc _, T.M i 5 hi (by decide), ?_⟩
    refine ⟨_, rfl, a, T.c i, dd4, .ref (T.c 6), .ref (T.c 6), _, rfl, ea4, ed4, T.E i hi, hc _, T.M i 6 hi (by decide), ?_⟩
    refine ⟨(by show 3 ≤ sizeLine; decide), fun g1 hg1 => ?_⟩
    have sg1 : Same H0 (upd H0 g1 (.lst [V.bl (decide (i = 4)), V.bl (decide (i = 5)), V.bl (decide (i = 6))])) := Same.new hg1
    have eg1 : (upd H0 g1 (.lst [V.bl (decide (i = 4)), V.bl (decide (i = 5)), V.bl (decide (i = 6))])) g1 = some (.lst [V.bl (decide (i = 4)), V.bl (decide (i = 5)), V.bl (decide (i = 6))]) := upd_same
    generalize upd H0 g1 (.lst [V.bl (decide (i = 4)), V.bl (decide (i = 5)), V.bl (decide (i = 6))]) = G1 at sg1 eg1
    have fg1 := sg1 _ _ f0
    refine ⟨fl, g1, _, _, rfl, rfl, fg1, eg1, (by show 7 ≤ sizeLine; decide), ?_⟩
    have s1 : Same H (upd G1 fl (.lst ([V.bl (decide (i = 0)), V.bl (decide (i = 1)), V.bl (decide (i = 2)), V.bl (decide (i = 3))] ++ [V.bl (decide (i = 4)), V.bl (decide (i = 5)), V.bl (decide (i = 6))]))) := fun b o e => by rw [upd_ne (nfl b o e)]; exact sg1 _ _ (s0 _ _ e)
    have f1 : (upd G1 fl (.lst ([V.bl (decide (i = 0)), V.bl (decide (i = 1)), V.bl (decide (i = 2)), V.bl (decide (i = 3))] ++ [V.bl (decide (i = 4)), V.bl (decide (i = 5)), V.bl (decide (i = 6))]))) fl = some (.lst [V.bl (decide (i = 0)), V.bl (decide (i = 1)), V.bl (decide (i = 2)), V.bl (decide (i = 3)), V.bl (decide (i = 4)), V.bl (decide (i = 5)), V.bl (decide (i = 6))]) := upd_same
    have h1 : ErrAt (upd G1 fl (.lst ([V.bl (decide (i = 0)), V.bl (decide (i = 1)), V.bl (decide (i = 2)), V.bl (decide (i = 3))] ++ [V.bl (decide (i = 4)), V.bl (decide (i = 5)), V.bl (decide (i = 6))]))) a (T.c i) fs := he.same s1
    generalize (upd G1 fl (.lst ([V.bl (decide (i = 0)), V.bl (decide (i = 1)), V.bl (decide (i = 2)), V.bl (decide (i = 3))] ++ [V.bl (decide (i = 4)), V.bl (decide (i = 5)), V.bl (decide (i = 6))]))) = H1 at s1 f1 h1
    refine ⟨_, rfl, .inl ⟨rfl, _, SqL.of f1⟩, ?_⟩
    obtain ⟨dd7, ea7, ed7⟩ := h1.is
    refine ⟨_, rfl, a, T.c i, dd7, .ref (T.c 7), .ref (T.c 7), _, rfl, ea7, ed7, T.E i hi, hc _, T.M i 7 hi (by decide), ?_⟩
    refine ⟨_, rfl, a, T.c i, dd7, .ref (T.c 8), .ref (T.c 8), _, rfl, ea7, ed7, T.E i hi, hc _, T.M i 8 hi (by decide), ?_⟩
    refine ⟨_, rfl, a, T.c i, dd7, .ref (T.c 9), .ref (T.c 9), _, rfl, ea7, ed7, T.E i hi, hc _, T.M i 9 hi (by decide), ?_⟩
    refine ⟨(by show 3 ≤ sizeLine; decide), fun g2 hg2 => ?_⟩
    have sg2 : Same H1 (upd H1 g2 (.lst [V.bl (decide (i = 7)), V.bl (decide (i = 8)), V.bl (decide (i = 9))])) := Same.new hg2
    have eg2 : (upd H1 g2 (.lst [V.bl (decide (i = 7)), V.bl (decide (i = 8)), V.bl (decide (i = 9))])) g2 = some (.lst [V.bl (decide (i = 7)), V.bl (decide (i = 8)), V.bl (decide (i = 9))]) := upd_same
    generalize upd H1 g2 (.lst [V.bl (decide (i = 7)), V.bl (decide (i = 8)), V.bl (decide (i = 9))]) = G2 at sg2 eg2
    have fg2 := sg2 _ _ f1
    refine ⟨fl, g2, _, _, rfl, rfl, fg2, eg2, (by show 10 ≤ sizeLine; decide), ?_⟩
    have s2 : Same H (upd G2 fl (.lst ([V.bl (decide (i = 0)), V.bl (decide (i = 1)), V.bl (decide (i = 2)), V.bl (decide (i = 3)), V.bl (decide (i = 4)), V.bl (decide (i = 5)), V.bl (decide (i = 6))] ++ [V.bl (decide (i = 7)), V.bl (decide (i = 8)), V.bl (decide (i = 9))]))) := fun b o e => by rw [upd_ne (nfl b o e)]; exact sg2 _ _ (s1 _ _ e)
    have f2 : (upd G2 fl (.lst ([V.bl (decide (i = 0)), V.bl (decide (i = 1)), V.bl (decide (i = 2)), V.bl (decide (i = 3)), V.bl (decide (i = 4)), V.bl (decide (i = 5)), V.bl (decide (i = 6))] ++ [V.bl (decide (i = 7)), V.bl (decide (i = 8)), V.bl (decide (i = 9))]))) fl = some (.lst [V.bl (decide (i = 0)), V.bl (decide (i = 1)), V.bl (decide (i = 2)), V.bl (decide (i = 3)), V.bl (decide (i = 4)), V.bl (decide (i = 5)), V.bl (decide (i = 6)), V.bl (decide (i = 7)), V.bl (decide (i = 8)), V.bl (decide (i = 9))]) := upd_same
    have h2 : ErrAt (upd G2 fl (.lst ([V.bl (decide (i = 0)), V.bl (decide (i = 1)), V.bl (decide (i = 2)), V.bl (decide (i = 3)), V.bl (decide (i = 4)), V.bl (decide (i = 5)), V.bl (decide (i = 6))] ++ [V.bl (decide (i = 7)), V.bl (decide (i = 8)), V.bl (decide (i = 9))]))) a (T.c i) fs := he.same s2
    generalize (upd G2 fl (.lst ([V.bl (decide (i = 0)), V.bl (decide (i = 1)), V.bl (decide (i = 2)), V.bl (decide (i = 3)), V.bl (decide (i = 4)), V.bl (decide (i = 5)), V.bl (decide (i = 6))] ++ [V.bl (decide (i = 7)), V.bl (decide (i = 8)), V.bl (decide (i = 9))]))) = H2 at s2 f2 h2
    refine ⟨_, rfl, .inl ⟨rfl, _, SqL.of f2⟩, ?_⟩
    obtain ⟨dd10, ea10, ed10⟩ := h2.is
    refine ⟨_, rfl, a, T.c i, dd10, .ref (T.c 10), .ref (T.c 10), _, rfl, ea10, ed10, T.E i hi, hc _, T.M i 10 hi (by decide), ?_⟩
    refine ⟨_, rfl, a, T.c i, dd10, .ref (T.c 11), .ref (T.c 11), _, rfl, ea10, ed10, T.E i hi, hc _, T.M i 11 hi (by decide), ?_⟩
    refine ⟨_, rfl, a, T.c i, dd10, .ref (T.c 12), .ref (T.c 12), _, rfl, ea10, ed10, T.E i hi, hc _, T.M i 12 hi (by decide), ?_⟩
    refine ⟨(by show 3 ≤ sizeLine; decide), fun g3 hg3 => ?_⟩
    have sg3 : Same H2 (upd H2 g3 (.lst [V.bl (decide (i = 10)), V.bl (decide (i = 11)), V.bl (decide (i = 12))])) := Same.new hg3
    have eg3 : (upd H2 g3 (.lst [V.bl (decide (i = 10)), V.bl (decide (i = 11)), V.bl (decide (i = 12))])) g3 = some (.lst [V.bl (decide (i = 10)), V.bl (decide (i = 11)), V.bl (decide (i = 12))]) := upd_same
    generalize upd H2 g3 (.lst [V.bl (decide (i = 10)), V.bl (decide (i = 11)), V.bl (decide (i = 12))]) = G3 at sg3 eg3
    have fg3 := sg3 _ _ f2
    refine ⟨fl, g3, _, _, rfl, rfl, fg3, eg3, (by show 13 ≤ sizeLine; decide), ?_⟩
    have s3 : Same H (upd G3 fl (.lst ([V.bl (decide (i = 0)), V.bl (decide (i = 1)), V.bl (decide (i = 2)), V.bl (decide (i = 3)), V.bl (decide (i = 4)), V.bl (decide (i = 5)), V.bl (decide (i = 6)), V.bl (decide (i = 7)), V.bl (decide (i = 8)), V.bl (decide (i = 9))] ++ [V.bl (decide (i = 10)), V.bl (decide (i = 11)), V.bl (decide (i = 12))]))) := fun b o e => by rw [upd_ne (nfl b o e)]; exact sg3 _ _ (s2 _ _ e)
    have f3 : (upd G3 fl (.lst ([V.bl (decide (i = 0)), V.bl (decide (i = 1)), V.bl (decide (i = 2)), V.bl (decide (i = 3)), V.bl (decide (i = 4)), V.bl (decide (i = 5)), V.bl (decide (i = 6)), V.bl (decide (i = 7)), V.bl (decide (i = 8)), V.bl (decide (i = 9))] ++ [V.bl (decide (i = 10)), V.bl (decide (i = 11)), V.bl (decide (i = 12))]))) fl = some (.lst [V.bl (decide (i = 0)), V.bl (decide (i = 1)), V.bl (decide (i = 2)), V.bl (decide (i = 3)), V.bl (decide (i = 4)), V.bl (decide (i = 5)), V.bl (decide (i = 6)), V.bl (decide (i = 7)), V.bl (decide (i = 8)), V.bl (decide (i = 9)), V.bl (decide (i = 10)), V.bl (decide (i = 11)), V.bl (decide (i = 12))]) := upd_same
    have h3 : ErrAt (upd G3 fl (.lst ([V.bl (decide (i = 0)), V.bl (decide (i = 1)), V.bl (decide (i = 2)), V.bl (decide (i = 3)), V.bl (decide (i = 4)), V.bl (decide (i = 5)), V.bl (decide (i = 6)), V.bl (decide (i = 7)), V.bl (decide (i = 8)), V.bl (decide (i = 9))] ++ [V.bl (decide (i = 10)), V.bl (decide (i = 11)), V.bl (decide (i = 12))]))) a (T.c i) fs := he.same s3
    generalize (upd G3 fl (.lst ([V.bl (decide (i = 0)), V.bl (decide (i = 1)), V.bl (decide (i = 2)), V.bl (decide (i = 3)), V.bl (decide (i = 4)), V.bl (decide (i = 5)), V.bl (decide (i = 6)), V.bl (decide (i = 7)), V.bl (decide (i = 8)), V.bl (decide (i = 9))] ++ [V.bl (decide (i = 10)), V.bl (decide (i = 11)), V.bl (decide (i = 12))]))) = H3 at s3 f3 h3
    refine ⟨_, rfl, .inl ⟨rfl, _, SqL.of f3⟩, ?_⟩
    obtain ⟨dd13, ea13, ed13⟩ := h3.is
    refine ⟨_, rfl, a, T.c i, dd13, .ref (T.c 13), .ref (T.c 13), _, rfl, ea13, ed13, T.E i hi, hc _, T.M i 13 hi (by decide), ?_⟩
    refine ⟨_, rfl, a, T.c i, dd13, .ref (T.c 14), .ref (T.c 14), _, rfl, ea13, ed13, T.E i hi, hc _, T.M i 14 hi (by decide), ?_⟩
    refine ⟨_, rfl, a, T.c i, dd13, .ref (T.c 15), .ref (T.c 15), _, rfl, ea13, ed13, T.E i hi, hc _, T.M i 15 hi (by decide), ?_⟩
    refine ⟨(by show 3 ≤ sizeLine; decide), fun g4 hg4 => ?_⟩
    have sg4 : Same H3 (upd H3 g4 (.lst [V.bl (decide (i = 13)), V.bl (decide (i = 14)), V.bl (decide (i = 15))])) := Same.new hg4
    have eg4 : (upd H3 g4 (.lst [V.bl (decide (i = 13)), V.bl (decide (i = 14)), V.bl (decide (i = 15))])) g4 = some (.lst [V.bl (decide (i = 13)), V.bl (decide (i = 14)), V.bl (decide (i = 15))]) := upd_same
    generalize upd H3 g4 (.lst [V.bl (decide (i = 13)), V.bl (decide (i = 14)), V.bl (decide (i = 15))]) = G4 at sg4 eg4
    have fg4 := sg4 _ _ f3
    refine ⟨fl, g4, _, _, rfl, rfl, fg4, eg4, (by show 16 ≤ sizeLine; decide), ?_⟩
    have s4 : Same H (upd G4 fl (.lst ([V.bl (decide (i = 0)), V.bl (decide (i = 1)), V.bl (decide (i = 2)), V.bl (decide (i = 3)), V.bl (decide (i = 4)), V.bl (decide (i = 5)), V.bl (decide (i = 6)), V.bl (decide (i = 7)), V.bl (decide (i = 8)), V.bl (decide (i = 9)), V.bl (decide (i = 10)), V.bl (decide (i = 11)), V.bl (decide (i = 12))] ++ [V.bl (decide (i = 13)), V.bl (decide (i = 14)), V.bl (decide (i = 15))]))) := fun b o e => by rw [upd_ne (nfl b o e)]; exact sg4 _ _ (s3 _ _ e)
    have f4 : (upd G4 fl (.lst ([V.bl (decide (i = 0)), V.bl (decide (i = 1)), V.bl (decide (i = 2)), V.bl (decide (i = 3)), V.bl (decide (i = 4)), V.bl (decide (i = 5)), V.bl (decide (i = 6)), V.bl (decide (i = 7)), V.bl (decide (i = 8)), V.bl (decide (i = 9)), V.bl (decide (i = 10)), V.bl (decide (i = 11)), V.bl (decide (i = 12))] ++ [V.bl (decide (i = 13)), V.bl (decide (i = 14)), V.bl (decide (i = 15))]))) fl = some (.lst [V.bl (decide (i = 0)), V.bl (decide (i = 1)), V.bl (decide (i = 2)), V.bl (decide (i = 3)), V.bl (decide (i = 4)), V.bl (decide (i = 5)), V.bl (decide (i = 6)), V.bl (decide (i = 7)), V.bl (decide (i = 8)), V.bl (decide (i = 9)), V.bl (decide (i = 10)), V.bl (decide (i = 11)), V.bl (decide (i = 12)), V.bl (decide (i = 13)), V.bl (decide (i = 14)), V.bl (decide (i = 15))]) := upd_same
    have h4 : ErrAt (upd G4 fl (.lst ([V.bl (decide (i = 0)), V.bl (decide (i = 1)), V.bl (decide (i = 2)), V.bl (decide (i = 3)), V.bl (decide (i = 4)), V.bl (decide (i = 5)), V.bl (decide (i = 6)), V.bl (decide (i = 7)), V.bl (decide (i = 8)), V.bl (decide (i = 9)), V.bl (decide (i = 10)), V.bl (decide (i = 11)), V.bl (decide (i = 12))] ++ [V.bl (decide (i = 13)), V.bl (decide (i = 14)), V.bl (decide (i = 15))]))) a (T.c i) fs := he.same s4
    generalize (upd G4 fl (.lst ([V.bl (decide (i = 0)), V.bl (decide (i = 1)), V.bl (decide (i = 2)), V.bl (decide (i = 3)), V.bl (decide (i = 4)), V.bl (decide (i = 5)), V.bl (decide (i = 6)), V.bl (decide (i = 7)), V.bl (decide (i = 8)), V.bl (decide (i = 9)), V.bl (decide (i = 10)), V.bl (decide (i = 11)), V.bl (decide (i = 12))] ++ [V.bl (decide (i = 13)), V.bl (decide (i = 14)), V.bl (decide (i = 15))]))) = H4 at s4 f4 h4
    refine ⟨_, rfl, ?_⟩
    obtain ⟨dd16, ea16, ed16⟩ := h4.is
    refine ⟨_, rfl, a, T.c i, dd16, .ref (T.c 16), .ref (T.c 16), _, rfl, ea16, ed16, T.E i hi, hc _, T.M i 16 hi (by decide), ?_⟩
    refine ⟨_, rfl, a, T.c i, dd16, .ref (T.c 17), .ref (T.c 17), _, rfl, ea16, ed16, T.E i hi, hc _, T.M i 17 hi (by decide), ?_⟩
    refine ⟨_, rfl, a, T.c i, dd16, .ref (T.c 18), .ref (T.c 18), _, rfl, ea16, ed16, T.E i hi, hc _, T.M i 18 hi (by decide), ?_⟩
    refine ⟨(by show 3 ≤ sizeLine; decide), fun g9 hg9 => ?_⟩
    have sg9 : Same H4 (upd H4 g9 (.lst [V.bl (decide (i = 16)), V.bl (decide (i = 17)), V.bl (decide (i = 18))])) := Same.new hg9
    have eg9 : (upd H4 g9 (.lst [V.bl (decide (i = 16)), V.bl (decide (i = 17)), V.bl (decide (i = 18))])) g9 = some (.lst [V.bl (decide (i = 16)), V.bl (decide (i = 17)), V.bl (decide (i = 18))]) := upd_same
    generalize upd H4 g9 (.lst [V.bl (decide (i = 16)), V.bl (decide (i = 17)), V.bl (decide (i = 18))]) = G9 at sg9 eg9
    refine ⟨fl, g9, _, _, rfl, rfl, sg9 _ _ f4, eg9, (by show 19 ≤ sizeLine; decide), fun D0 hD0 => ?_⟩
    exact hq D0 _ (fun b o e => (Same.new hD0) _ _ (sg9 _ _ (s4 _ _ e))) upd_same
end
end Ts

set_option maxRecDepth 100000
set_option maxHeartbeats 8000000
namespace Ts
open PySem L2
/-- the things that are passed -/
def XKind (H : Hp) (x : V) : Prop := (scal x x = true ∧ flatB x = true) ∨ (∃ a, x = .ref a ∧ H a = some (.tup [.int 1, .str ("a" : Str)])) ∨ (∃ a, x = .ref a ∧ H a = some (.lst [.str ("a" : Str)])) ∨ ∃ a, x = .ref a ∧ H a = some (.dK (kvX (fun _ => V.int 1) ["a"]))
theorem XKind.same {H H' : Hp} {x : V} (h : XKind H x) (s : Same H H') : XKind H' x := by
  rcases h with h | ⟨a, e, h⟩ | ⟨a, e, h⟩ | ⟨a, e, h⟩
  · exact .inl h
  · exact .inr (.inl ⟨a, e, s _ _ h⟩)
  · exact .inr (.inr (.inl ⟨a, e, s _ _ h⟩))
  · exact .inr (.inr (.inr ⟨a, e, s _ _ h⟩))
theorem XKind.fr {H : Hp} {x : V} (h : XKind H x) : flatB x = true ∨ ∃ c, x = .ref c := by
  rcases h with h | ⟨a, e, h⟩ | ⟨a, e, h⟩ | ⟨a, e, h⟩
  · exact .inl h.2
  · exact .inr ⟨a, e⟩
  · exact .inr ⟨a, e⟩
  · exact .inr ⟨a, e⟩
abbrev rNeK (K : PySem.W.Frag) : R2 := fun x y H Q => rNe x y H Q ∨ (rNeD K x y H Q ∨ rNeX x y H Q)
theorem XKind.ne {K : PySem.W.Frag} {H : Hp} {x : V} {Q : VK} (h : XKind H x) (q : Q (.bl false) H) : rNeK K x x H Q := by
  rcases h with h | ⟨a, e, h⟩ | ⟨a, e, h⟩ | ⟨a, e, h⟩
  · refine .inl ⟨h.1, ?_⟩
    rw [decide_eq_true rfl]
    exact q
  · subst e
    refine .inr (.inl ⟨.tuple [.int 1, .str ("a" : Str)], .tuple [.int 1, .str ("a" : Str)], .tup (.inl (.inl h)) (.cons (.int _) (.cons (.str _) .nil)), .tup (.inl (.inl h)) (.cons (.int _) (.cons (.str _) .nil)), by decide +kernel, by decide +kernel, ?_⟩)
    rw [show PyData.eqv (.tuple [.int 1, .str ("a" : Str)]) (.tuple [.int 1, .str ("a" : Str)]) = true from by decide +kernel]
    exact q
  · subst e
    refine .inr (.inl ⟨.list [.str ("a" : Str)], .list [.str ("a" : Str)], .lst (SqL.of h) (.cons (.str _) .nil), .lst (SqL.of h) (.cons (.str _) .nil), by decide +kernel, by decide +kernel, ?_⟩)
    rw [show PyData.eqv (.list [.str ("a" : Str)]) (.list [.str ("a" : Str)]) = true from by decide +kernel]
    exact q
  · subst e
    refine .inr (.inr ⟨a, a, _, _, _, rfl, rfl, h, h, fun z _ => ⟨rfl, rfl⟩, ?_⟩)
    rw [show (!allE (fun _ => V.int 1) (fun _ => V.int 1) ["a"]) = false from by decide +kernel]
    exact q
/-- lists of the same things -/
theorem al_refl {K : PySem.W.Frag} {H : Hp} {u : V} (h : flatB u = true ∨ ∃ c, u = .ref c) : Al K H 8 u u := .inl (.inl (.inl (.inl (.inl (.inl (.inl (.inl ⟨rfl, h⟩)))))))
theorem iteF' {c : Bool} {A B : Prop} (e : c = false) (h : B) : if c = true then A else B := by rw [e]; exact h
theorem bools_dp {K : PySem.W.Frag} {H : Hp} : ∀ n : Nat, DpAll K H (List.replicate n (V.bl false)) (List.replicate n (.bool false))
  | 0 => .nil
  | n + 1 => .cons (.bl false) (bools_dp n)
def spFields : Sp := fun vs H Q _ => ∃ (x : V) (y : Int), vs = [x, .int y] ∧ XKind H x ∧ ∀ H', Same H H' → Q (.bl true) H'
abbrev nFi : List Str := ["_law_x", "_law_y", "_law_found", "_law_move", "_law_barred", "_law_thing"]
section
variable {P : Program} {w : World} {K : PySem.W.Frag} {mg : Str → Option Value} {base : Heap}
theorem sc_fields : FnScope nFi ["_law_x", "_law_y"] (defScope s_L_fields) := ⟨rfl, rfl, rfl, by decide +kernel, rfl, by decide +kernel, by decide +kernel⟩
theorem ok_fields (T : Tab P w K mg base) (D : DefAt K mg "_law_fields" s_L_fields ["_law_x", "_law_y"]) : FnOk P w K mg base CX0 4 D.f D.fd ["_law_x", "_law_y"] spFields := by
  refine D.F.ok sc_fields (fun vs H Q E h => ?_) (fun cdv A outer s H vs Q E hr h => ?_)
  · obtain ⟨x, y, rfl, _⟩ := h
    rfl
  · obtain ⟨x, y, rfl, hx, hq⟩ := h
    have r3 : Room 3 _ := hr.mono (by decide)
    have h64 := hr.units
    have hu1 := Nat.lt_of_le_of_lt (Nat.le_add_right _ _) h64
    refine ⟨_, pss_cons (ps_set (i := 2) sc_fields.nd rfl (.inl rfl) (pe_lst (pa_cons (pe_xv (pe_evK T.e0 r3 pass0 (by rfl) (pk_cons (pv 0) pk_nil))) (pa_cons (pe_xv (pe_evK T.e1 r3 pass0 (by rfl) (pk_cons (pv 0) pk_nil))) (pa_cons (pe_xv (pe_evK T.e2 r3 pass0 (by rfl) (pk_cons (pv 0) pk_nil))) (pa_cons (pe_xv (pe_evK T.e3 r3 pass0 (by rfl) (pk_cons (pv 0) pk_nil))) pa_nil))))))
      (pss_cons (ps_expr (pe_bm PySem.F.plainAttrs_list PySem.F.slot_list_extend PySem.F.type_list_extend mt_extend (pv 2) (pa_cons (pe_lst (pa_cons (pe_xv (pe_evK T.e4 r3 pass0 (by rfl) (pk_cons (pv 0) pk_nil))) (pa_cons (pe_xv (pe_evK T.e5 r3 pass0 (by rfl) (pk_cons (pv 0) pk_nil))) (pa_cons (pe_xv (pe_evK T.e6 r3 pass0 (by rfl) (pk_cons (pv 0) pk_nil))) pa_nil)))) pa_nil)))
      (pss_cons (ps_expr (pe_bm PySem.F.plainAttrs_list PySem.F.slot_list_extend PySem.F.type_list_extend mt_extend (pv 2) (pa_cons (pe_lst (pa_cons (pe_xv (pe_evK T.e7 r3 pass0 (by rfl) (pk_cons (pv 0) pk_nil))) (pa_cons (pe_xv (pe_evK T.e8 r3 pass0 (by rfl) (pk_cons (pv 0) pk_nil))) pa_nil))) pa_nil)))
      (pss_cons (ps_expr (pe_bm PySem.F.plainAttrs_list PySem.F.slot_list_extend PySem.F.type_list_extend mt_extend (pv 2) (pa_cons (pe_lst (pa_cons (pe_xv (pe_evK T.e9 r3 pass0 (by rfl) (pk_cons (pv 0) pk_nil))) (pa_cons (pe_xv (pe_evK T.e10 r3 pass0 (by rfl) (pk_cons (pv 0) pk_nil))) (pa_cons (pe_xv (pe_evK T.e11 r3 pass0 (by rfl) (pk_cons (pv 0) pk_nil))) (pa_cons (pe_xv (pe_evK T.e12 r3 pass0 (by rfl) (pk_cons (pv 0) pk_nil))) pa_nil))))) pa_nil)))
      (pss_cons (ps_par (i := 3) (j := 4) rfl sc_fields.nd rfl rfl (by decide) rfl rfl (pa_cons (pe_evK T.e14 r3 pass0 (by rfl) (pk_cons (pv 0) (pk_cons (pv 1) pk_nil))) (pa_cons (pe_evK T.e15 r3 pass0 (by rfl) (pk_cons (pv 0) (pk_cons (pv 1) pk_nil))) pa_nil)) (by rfl))
      (pss_cons (ps_expr (pe_bm PySem.F.plainAttrs_list PySem.F.slot_list_extend PySem.F.type_list_extend mt_extend (pv 2) (pa_cons (pe_lst (pa_cons (pe_xv (pe_evK T.e13 r3 pass0 (by rfl) (pk_cons (pv 0) pk_nil))) (pa_cons (pe_xv (pv 3)) (pa_cons (pe_xv (pv 4)) pa_nil)))) pa_nil)))
      (pss_cons (ps_if (PW.pt (pw_or (pt_cmpR (op_neD h64) (pe_lc (own := [("_law_thing", 5)]) (g := gName 5) (tt := tYes) (te := tOp (rNeK K) (tVar 5) (tVar 0)) rfl sc_fields.nd (pi_list (pv 2)) (blkOk_by (N := nFi) (sc := defScope s_L_fields) (by decide +kernel))
          (fun _ _ _ _ _ => pg_name (i := 5) sc_fields.nd rfl (Or.inl rfl)) (fun _ _ _ _ _ => pts_nil) (fun _ _ _ _ _ => by exact pe_cmpR (op_or' op_ne (op_or' (op_neD h64) (op_neX hu1))) (pv 5) (pv 0) (nomark _))) (pe_op op_rep (pe_lst (pa_cons pe_bl pa_nil)) pe_int) (nomark _))
          (pw_or (pt_cmpR op_ne (pe_xv (pv 3)) (pv 1) (nomark _)) (pw_or1 (pt_cmpR op_ne (pe_xv (pv 4)) (pv 1) (nomark _)))))) (pss_one (ps_ret pe_bl)) pss_nil)
      (pss_cons (ps_par (i := 3) (j := 4) rfl sc_fields.nd rfl rfl (by decide) rfl rfl (pa_cons (pe_evP T.e14 r3 pass0 (by rfl) (pa_cons (pv 1) (pa_cons (pv 0) pa_nil))) (pa_cons (pe_evP T.e15 r3 pass0 (by rfl) (pa_cons (pv 1) (pa_cons (pv 0) pa_nil))) pa_nil)) (by rfl))
      (pss_one (ps_ret (pe_cmpR (op_eqAl h64) (pe_lst (pa_cons (pe_xv (pv 3)) (pa_cons (pe_xv (pv 3)) (pa_cons (pe_xv (pv 4)) (pa_cons (pe_xv (pv 4)) pa_nil))))) (pe_lst (pa_cons (pv 1) (pa_cons (pv 0) (pa_cons (pv 1) (pa_cons (pv 0) pa_nil))))) (nomark _))))))))))), ?_⟩
    refine ⟨_, rfl, rfl, fun a0 ha0 => ⟨a0, x, rfl, upd_same, fun d0 hd0 n0 => ⟨rfl, a0, T.c 0, d0, _, x, rfl, upd_same, by rw [upd_ne n0]; exact upd_same, T.e0.X, T.e0.nf "index" (.head _), rfl, ?_⟩⟩⟩
    have s0 : Same H (upd (upd (upd H a0 (exo a0 (T.c 0) none)) d0 (exd d0 [(("index" : Str), x)])) a0 (exo a0 (T.c 0) (some d0))) := new2 ha0 hd0 n0
    generalize (upd (upd (upd H a0 (exo a0 (T.c 0) none)) d0 (exd d0 [(("index" : Str), x)])) a0 (exo a0 (T.c 0) (some d0))) = H0 at s0
    refine ⟨_, rfl, rfl, fun a1 ha1 => ⟨a1, x, rfl, upd_same, fun d1 hd1 n1 => ⟨rfl, a1, T.c 1, d1, _, x, rfl, upd_same, by rw [upd_ne n1]; exact upd_same, T.e1.X, T.e1.nf "box" (.head _), rfl, ?_⟩⟩⟩
    have s1 : Same H0 (upd (upd (upd H0 a1 (exo a1 (T.c 1) none)) d1 (exd d1 [(("box" : Str), x)])) a1 (exo a1 (T.c 1) (some d1))) := new2 ha1 hd1 n1
    generalize (upd (upd (upd H0 a1 (exo a1 (T.c 1) none)) d1 (exd d1 [(("box" : Str), x)])) a1 (exo a1 (T.c 1) (some d1))) = H1 at s1
    refine ⟨_, rfl, rfl, fun a2 ha2 => ⟨a2, x, rfl, upd_same, fun d2 hd2 n2 => ⟨rfl, a2, T.c 2, d2, _, x, rfl, upd_same, by rw [upd_ne n2]; exact upd_same, T.e2.X, T.e2.nf "box" (.head _), rfl, ?_⟩⟩⟩
    have s2 : Same H1 (upd (upd (upd H1 a2 (exo a2 (T.c 2) none)) d2 (exd d2 [(("box" : Str), x)])) a2 (exo a2 (T.c 2) (some d2))) := new2 ha2 hd2 n2
    generalize (upd (upd (upd H1 a2 (exo a2 (T.c 2) none)) d2 (exd d2 [(("box" : Str), x)])) a2 (exo a2 (T.c 2) (some d2))) = H2 at s2
    refine ⟨_, rfl, rfl, fun a3 ha3 => ⟨a3, x, rfl, upd_same, fun d3 hd3 n3 => ⟨rfl, a3, T.c 3, d3, _, x, rfl, upd_same, by rw [upd_ne n3]; exact upd_same, T.e3.X, T.e3.nf "box" (.head _), rfl, ?_⟩⟩⟩
    have s3 : Same H2 (upd (upd (upd H2 a3 (exo a3 (T.c 3) none)) d3 (exd d3 [(("box" : Str), x)])) a3 (exo a3 (T.c 3) (some d3))) := new2 ha3 hd3 n3
    generalize (upd (upd (upd H2 a3 (exo a3 (T.c 3) none)) d3 (exd d3 [(("box" : Str), x)])) a3 (exo a3 (T.c 3) (some d3))) = H3 at s3
    refine ⟨(by show 4 ≤ sizeLine; decide), fun fl hfl => ?_⟩
    have S3 : Same H H3 := s0.trans (s1.trans (s2.trans (s3)))
    have sA : Same H3 (upd H3 fl (.lst [x, x, x, x])) := Same.new hfl
    have f0 : (upd H3 fl (.lst [x, x, x, x])) fl = some (.lst [x, x, x, x]) := upd_same
    have nfl : ∀ b o, H b = some o → b ≠ fl := fun b o e => ne_of_none (S3 _ _ e) hfl
    generalize upd H3 fl (.lst [x, x, x, x]) = E0_ at sA f0
    have S0 := S3.trans sA
    refine ⟨_, rfl, .inl ⟨rfl, _, SqL.of f0⟩, ?_⟩
    refine ⟨_, rfl, rfl, fun a4 ha4 => ⟨a4, x, rfl, upd_same, fun d4 hd4 n4 => ⟨rfl, a4, T.c 4, d4, _, x, rfl, upd_same, by rw [upd_ne n4]; exact upd_same, T.e4.X, T.e4.nf "index" (.head _), rfl, ?_⟩⟩⟩
    have s4 : Same E0_ (upd (upd (upd E0_ a4 (exo a4 (T.c 4) none)) d4 (exd d4 [(("index" : Str), x)])) a4 (exo a4 (T.c 4) (some d4))) := new2 ha4 hd4 n4
    generalize (upd (upd (upd E0_ a4 (exo a4 (T.c 4) none)) d4 (exd d4 [(("index" : Str), x)])) a4 (exo a4 (T.c 4) (some d4))) = H4 at s4
    refine ⟨_, rfl, rfl, fun a5 ha5 => ⟨a5, x, rfl, upd_same, fun d5 hd5 n5 => ⟨rfl, a5, T.c 5, d5, _, x, rfl, upd_same, by rw [upd_ne n5]; exact upd_same, T.e5.X, T.e5.nf "box" (.head _), rfl, ?_⟩⟩⟩
    have s5 : Same H4 (upd (upd (upd H4 a5 (exo a5 (T.c 5) none)) d5 (exd d5 [(("box" : Str), x)])) a5 (exo a5 (T.c 5) (some d5))) := new2 ha5 hd5 n5
    generalize (upd (upd (upd H4 a5 (exo a5 (T.c 5) none)) d5 (exd d5 [(("box" : Str), x)])) a5 (exo a5 (T.c 5) (some d5))) = H5 at s5
    refine ⟨_, rfl, rfl, fun a6 ha6 => ⟨a6, x, rfl, upd_same, fun d6 hd6 n6 => ⟨rfl, a6, T.c 6, d6, _, x, rfl, upd_same, by rw [upd_ne n6]; exact upd_same, T.e6.X, T.e6.nf "rule" (.head _), rfl, ?_⟩⟩⟩
    have s6 : Same H5 (upd (upd (upd H5 a6 (exo a6 (T.c 6) none)) d6 (exd d6 [(("rule" : Str), x)])) a6 (exo a6 (T.c 6) (some d6))) := new2 ha6 hd6 n6
    generalize (upd (upd (upd H5 a6 (exo a6 (T.c 6) none)) d6 (exd d6 [(("rule" : Str), x)])) a6 (exo a6 (T.c 6) (some d6))) = H6 at s6
    have sc1 : Same E0_ H6 := s4.trans (s5.trans (s6))
    refine ⟨(by show 3 ≤ sizeLine; decide), fun g1 hg1 => ?_⟩
    have sg1 : Same H6 (upd H6 g1 (.lst [x, x, x])) := Same.new hg1
    have eg1 : (upd H6 g1 (.lst [x, x, x])) g1 = some (.lst [x, x, x]) := upd_same
    generalize upd H6 g1 (.lst [x, x, x]) = G1 at sg1 eg1
    have sb1 := sc1.trans sg1
    have fg1 := sb1 _ _ f0
    refine ⟨fl, g1, _, _, rfl, rfl, fg1, eg1, (by show 7 ≤ sizeLine; decide), ?_⟩
    have S1 : Same H (upd G1 fl (.lst ([x, x, x, x] ++ [x, x, x]))) := fun b o e => by rw [upd_ne (nfl b o e)]; exact sb1 _ _ (S0 _ _ e)
    have f1 : (upd G1 fl (.lst ([x, x, x, x] ++ [x, x, x]))) fl = some (.lst [x, x, x, x, x, x, x]) := upd_same
    have k1 : KLs G1 (upd G1 fl (.lst ([x, x, x, x] ++ [x, x, x]))) := KLs.upd fg1
    generalize (upd G1 fl (.lst ([x, x, x, x] ++ [x, x, x]))) = E1_ at S1 f1 k1
    refine ⟨_, rfl, .inl ⟨rfl, _, SqL.of f1⟩, ?_⟩
    refine ⟨_, rfl, rfl, fun a7 ha7 => ⟨a7, x, rfl, upd_same, fun d7 hd7 n7 => ⟨rfl, a7, T.c 7, d7, _, x, rfl, upd_same, by rw [upd_ne n7]; exact upd_same, T.e7.X, T.e7.nf "box" (.head _), rfl, ?_⟩⟩⟩
    have s7 : Same E1_ (upd (upd (upd E1_ a7 (exo a7 (T.c 7) none)) d7 (exd d7 [(("box" : Str), x)])) a7 (exo a7 (T.c 7) (some d7))) := new2 ha7 hd7 n7
    generalize (upd (upd (upd E1_ a7 (exo a7 (T.c 7) none)) d7 (exd d7 [(("box" : Str), x)])) a7 (exo a7 (T.c 7) (some d7))) = H7 at s7
    refine ⟨_, rfl, rfl, fun a8 ha8 => ⟨a8, x, rfl, upd_same, fun d8 hd8 n8 => ⟨rfl, a8, T.c 8, d8, _, x, rfl, upd_same, by rw [upd_ne n8]; exact upd_same, T.e8.X, T.e8.nf "number" (.head _), rfl, ?_⟩⟩⟩
    have s8 : Same H7 (upd (upd (upd H7 a8 (exo a8 (T.c 8) none)) d8 (exd d8 [(("number" : Str), x)])) a8 (exo a8 (T.c 8) (some d8))) := new2 ha8 hd8 n8
    generalize (upd (upd (upd H7 a8 (exo a8 (T.c 8) none)) d8 (exd d8 [(("number" : Str), x)])) a8 (exo a8 (T.c 8) (some d8))) = H8 at s8
    have sc2 : Same E1_ H8 := s7.trans (s8)
    refine ⟨(by show 2 ≤ sizeLine; decide), fun g2 hg2 => ?_⟩
    have sg2 : Same H8 (upd H8 g2 (.lst [x, x])) := Same.new hg2
    have eg2 : (upd H8 g2 (.lst [x, x])) g2 = some (.lst [x, x]) := upd_same
    generalize upd H8 g2 (.lst [x, x]) = G2 at sg2 eg2
    have sb2 := sc2.trans sg2
    have fg2 := sb2 _ _ f1
    refine ⟨fl, g2, _, _, rfl, rfl, fg2, eg2, (by show 9 ≤ sizeLine; decide), ?_⟩
    have S2 : Same H (upd G2 fl (.lst ([x, x, x, x, x, x, x] ++ [x, x]))) := fun b o e => by rw [upd_ne (nfl b o e)]; exact sb2 _ _ (S1 _ _ e)
    have f2 : (upd G2 fl (.lst ([x, x, x, x, x, x, x] ++ [x, x]))) fl = some (.lst [x, x, x, x, x, x, x, x, x]) := upd_same
    have k2 : KLs G2 (upd G2 fl (.lst ([x, x, x, x, x, x, x] ++ [x, x]))) := KLs.upd fg2
    generalize (upd G2 fl (.lst ([x, x, x, x, x, x, x] ++ [x, x]))) = E2_ at S2 f2 k2
    refine ⟨_, rfl, .inl ⟨rfl, _, SqL.of f2⟩, ?_⟩
    refine ⟨_, rfl, rfl, fun a9 ha9 => ⟨a9, x, rfl, upd_same, fun d9 hd9 n9 => ⟨rfl, a9, T.c 9, d9, _, x, rfl, upd_same, by rw [upd_ne n9]; exact upd_same, T.e9.X, T.e9.nf "cost" (.head _), rfl, ?_⟩⟩⟩
    have s9 : Same E2_ (upd (upd (upd E2_ a9 (exo a9 (T.c 9) none)) d9 (exd d9 [(("cost" : Str), x)])) a9 (exo a9 (T.c 9) (some d9))) := new2 ha9 hd9 n9
    generalize (upd (upd (upd E2_ a9 (exo a9 (T.c 9) none)) d9 (exd d9 [(("cost" : Str), x)])) a9 (exo a9 (T.c 9) (some d9))) = H9 at s9
    refine ⟨_, rfl, rfl, fun a10 ha10 => ⟨a10, x, rfl, upd_same, fun d10 hd10 n10 => ⟨rfl, a10, T.c 10, d10, _, x, rfl, upd_same, by rw [upd_ne n10]; exact upd_same, T.e10.X, T.e10.nf "box" (.head _), rfl, ?_⟩⟩⟩
    have s10 : Same H9 (upd (upd (upd H9 a10 (exo a10 (T.c 10) none)) d10 (exd d10 [(("box" : Str), x)])) a10 (exo a10 (T.c 10) (some d10))) := new2 ha10 hd10 n10
    generalize (upd (upd (upd H9 a10 (exo a10 (T.c 10) none)) d10 (exd d10 [(("box" : Str), x)])) a10 (exo a10 (T.c 10) (some d10))) = H10 at s10
    refine ⟨_, rfl, rfl, fun a11 ha11 => ⟨a11, x, rfl, upd_same, fun d11 hd11 n11 => ⟨rfl, a11, T.c 11, d11, _, x, rfl, upd_same, by rw [upd_ne n11]; exact upd_same, T.e11.X, T.e11.nf "word" (.head _), rfl, ?_⟩⟩⟩
    have s11 : Same H10 (upd (upd (upd H10 a11 (exo a11 (T.c 11) none)) d11 (exd d11 [(("word" : Str), x)])) a11 (exo a11 (T.c 11) (some d11))) := new2 ha11 hd11 n11
    generalize (upd (upd (upd H10 a11 (exo a11 (T.c 11) none)) d11 (exd d11 [(("word" : Str), x)])) a11 (exo a11 (T.c 11) (some d11))) = H11 at s11
    refine ⟨_, rfl, rfl, fun a12 ha12 => ⟨a12, x, rfl, upd_same, fun d12 hd12 n12 => ⟨rfl, a12, T.c 12, d12, _, x, rfl, upd_same, by rw [upd_ne n12]; exact upd_same, T.e12.X, T.e12.nf "box" (.head _), rfl, ?_⟩⟩⟩
    have s12 : Same H11 (upd (upd (upd H11 a12 (exo a12 (T.c 12) none)) d12 (exd d12 [(("box" : Str), x)])) a12 (exo a12 (T.c 12) (some d12))) := new2 ha12 hd12 n12
    generalize (upd (upd (upd H11 a12 (exo a12 (T.c 12) none)) d12 (exd d12 [(("box" : Str), x)])) a12 (exo a12 (T.c 12) (some d12))) = H12 at s12
    have sc3 : Same E2_ H12 := s9.trans (s10.trans (s11.trans (s12)))
    refine ⟨(by show 4 ≤ sizeLine; decide), fun g3 hg3 => ?_⟩
    have sg3 : Same H12 (upd H12 g3 (.lst [x, x, x, x])) := Same.new hg3
    have eg3 : (upd H12 g3 (.lst [x, x, x, x])) g3 = some (.lst [x, x, x, x]) := upd_same
    generalize upd H12 g3 (.lst [x, x, x, x]) = G3 at sg3 eg3
    have sb3 := sc3.trans sg3
    have fg3 := sb3 _ _ f2
    refine ⟨fl, g3, _, _, rfl, rfl, fg3, eg3, (by show 13 ≤ sizeLine; decide), ?_⟩
    have S3 : Same H (upd G3 fl (.lst ([x, x, x, x, x, x, x, x, x] ++ [x, x, x, x]))) := fun b o e => by rw [upd_ne (nfl b o e)]; exact sb3 _ _ (S2 _ _ e)
    have f3 : (upd G3 fl (.lst ([x, x, x, x, x, x, x, x, x] ++ [x, x, x, x]))) fl = some (.lst [x, x, x, x, x, x, x, x, x, x, x, x, x]) := upd_same
    have k3 : KLs G3 (upd G3 fl (.lst ([x, x, x, x, x, x, x, x, x] ++ [x, x, x, x]))) := KLs.upd fg3
    generalize (upd G3 fl (.lst ([x, x, x, x, x, x, x, x, x] ++ [x, x, x, x]))) = E3_ at S3 f3 k3
    refine ⟨_, rfl, _, rfl, rfl, fun a14 ha14 => ⟨a14, (V.int y), x, rfl, upd_same, fun d14 hd14 n14 => ⟨rfl, ?_⟩⟩⟩
    have s14 : Same E3_ (upd (upd (upd (upd E3_ a14 (exo a14 (T.c 14) none)) d14 (exd d14 [(("box" : Str), (V.int y))])) a14 (exo a14 (T.c 14) (some d14))) d14 (exd d14 [(("into" : Str), x), (("box" : Str), (V.int y))])) := new3 ha14 hd14 n14
    have ea14 : (upd (upd (upd (upd E3_ a14 (exo a14 (T.c 14) none)) d14 (exd d14 [(("box" : Str), (V.int y))])) a14 (exo a14 (T.c 14) (some d14))) d14 (exd d14 [(("into" : Str), x), (("box" : Str), (V.int y))])) a14 = some (exo a14 (T.c 14) (some d14)) := by rw [upd_ne n14.symm]; exact upd_same
    have ed14 : (upd (upd (upd (upd E3_ a14 (exo a14 (T.c 14) none)) d14 (exd d14 [(("box" : Str), (V.int y))])) a14 (exo a14 (T.c 14) (some d14))) d14 (exd d14 [(("into" : Str), x), (("box" : Str), (V.int y))])) d14 = some (exd d14 [(("into" : Str), x), (("box" : Str), (V.int y))]) := upd_same
    generalize (upd (upd (upd (upd E3_ a14 (exo a14 (T.c 14) none)) d14 (exd d14 [(("box" : Str), (V.int y))])) a14 (exo a14 (T.c 14) (some d14))) d14 (exd d14 [(("into" : Str), x), (("box" : Str), (V.int y))])) = H14 at s14 ea14 ed14
    refine ⟨_, rfl, _, rfl, rfl, fun a15 ha15 => ⟨a15, (V.int y), x, rfl, upd_same, fun d15 hd15 n15 => ⟨rfl, ?_⟩⟩⟩
    have s15 : Same H14 (upd (upd (upd (upd H14 a15 (exo a15 (T.c 15) none)) d15 (exd d15 [(("one" : Str), (V.int y))])) a15 (exo a15 (T.c 15) (some d15))) d15 (exd d15 [(("other" : Str), x), (("one" : Str), (V.int y))])) := new3 ha15 hd15 n15
    have ea15 : (upd (upd (upd (upd H14 a15 (exo a15 (T.c 15) none)) d15 (exd d15 [(("one" : Str), (V.int y))])) a15 (exo a15 (T.c 15) (some d15))) d15 (exd d15 [(("other" : Str), x), (("one" : Str), (V.int y))])) a15 = some (exo a15 (T.c 15) (some d15)) := by rw [upd_ne n15.symm]; exact upd_same
    have ed15 : (upd (upd (upd (upd H14 a15 (exo a15 (T.c 15) none)) d15 (exd d15 [(("one" : Str), (V.int y))])) a15 (exo a15 (T.c 15) (some d15))) d15 (exd d15 [(("other" : Str), x), (("one" : Str), (V.int y))])) d15 = some (exd d15 [(("other" : Str), x), (("one" : Str), (V.int y))]) := upd_same
    generalize (upd (upd (upd (upd H14 a15 (exo a15 (T.c 15) none)) d15 (exd d15 [(("one" : Str), (V.int y))])) a15 (exo a15 (T.c 15) (some d15))) d15 (exd d15 [(("other" : Str), x), (("one" : Str), (V.int y))])) = H15 at s15 ea15 ed15
    refine ⟨_, _, rfl, ?_⟩
    have S3_ := S3
    have t15 := s14.trans s15
    have S15 := S3_.trans t15
    have f15 := t15 _ _ f3
    have ea14 := s15 _ _ ea14
    have ed14 := s15 _ _ ed14
    refine ⟨_, rfl, .inl ⟨rfl, _, SqL.of f15⟩, ?_⟩
    refine ⟨_, rfl, rfl, fun a13 ha13 => ⟨a13, x, rfl, upd_same, fun d13 hd13 n13 => ⟨rfl, a13, T.c 13, d13, _, x, rfl, upd_same, by rw [upd_ne n13]; exact upd_same, T.e13.X, T.e13.nf "index" (.head _), rfl, ?_⟩⟩⟩
    have s13 : Same H15 (upd (upd (upd H15 a13 (exo a13 (T.c 13) none)) d13 (exd d13 [(("index" : Str), x)])) a13 (exo a13 (T.c 13) (some d13))) := new2 ha13 hd13 n13
    generalize (upd (upd (upd H15 a13 (exo a13 (T.c 13) none)) d13 (exd d13 [(("index" : Str), x)])) a13 (exo a13 (T.c 13) (some d13))) = H13 at s13
    refine ⟨_, rfl, a14, T.c 14, d14, _, x, rfl, s13 _ _ ea14, s13 _ _ ed14, T.e14.X, T.e14.nf "into" (.tail _ (.head _)), rfl, ?_⟩
    refine ⟨_, rfl, a15, T.c 15, d15, _, x, rfl, s13 _ _ ea15, s13 _ _ ed15, T.e15.X, T.e15.nf "other" (.tail _ (.head _)), rfl, ?_⟩
    have sc4 : Same H15 H13 := s13
    refine ⟨(by show 3 ≤ sizeLine; decide), fun g4 hg4 => ?_⟩
    have sg4 : Same H13 (upd H13 g4 (.lst [x, x, x])) := Same.new hg4
    have eg4 : (upd H13 g4 (.lst [x, x, x])) g4 = some (.lst [x, x, x]) := upd_same
    generalize upd H13 g4 (.lst [x, x, x]) = G4 at sg4 eg4
    have sb4 := sc4.trans sg4
    have fg4 := sb4 _ _ f15
    refine ⟨fl, g4, _, _, rfl, rfl, fg4, eg4, (by show 16 ≤ sizeLine; decide), ?_⟩
    have S4 : Same H (upd G4 fl (.lst ([x, x, x, x, x, x, x, x, x, x, x, x, x] ++ [x, x, x]))) := fun b o e => by rw [upd_ne (nfl b o e)]; exact sb4 _ _ (S15 _ _ e)
    have f4 : (upd G4 fl (.lst ([x, x, x, x, x, x, x, x, x, x, x, x, x] ++ [x, x, x]))) fl = some (.lst [x, x, x, x, x, x, x, x, x, x, x, x, x, x, x, x]) := upd_same
    have k4 : KLs G4 (upd G4 fl (.lst ([x, x, x, x, x, x, x, x, x, x, x, x, x] ++ [x, x, x]))) := KLs.upd fg4
    generalize (upd G4 fl (.lst ([x, x, x, x, x, x, x, x, x, x, x, x, x] ++ [x, x, x]))) = E4_ at S4 f4 k4
    have A14 := k4 _ _ (sb4 _ _ ea14) fun _ => exo_lst
    have D14 := k4 _ _ (sb4 _ _ ed14) fun _ => exd_lst
    have A15 := k4 _ _ (sb4 _ _ ea15) fun _ => exo_lst
    have D15 := k4 _ _ (sb4 _ _ ed15) fun _ => exd_lst
    have hx4 := hx.same S4
    refine ⟨_, rfl, fl, rfl, ⟨_, SqL.of f4⟩, fun Dl hDl => ?_⟩
    refine lc_list (K := K) (a := fl) (xs := [x, x, x, x, x, x, x, x, x, x, x, x, x, x, x, x]) (fun i H' => Same E4_ H' ∧ H' Dl = some (.lst (List.replicate i (V.bl false)))) ⟨Same.new hDl, upd_same⟩ (fun i H' _ m => SqL.of (m.1 _ _ f4)) ?_ ?_
    · rintro i u H' hu ⟨m, e⟩
      have hi : i < 16 := (List.getElem?_eq_some_iff.mp hu).1
      have eu : u = x := by
        have h1 := List.mem_of_getElem? hu
        simp only [List.mem_cons, List.not_mem_nil, or_false, or_self] at h1
        exact h1
      subst eu
      refine ⟨rfl, tYes_if ⟨_, rfl, _, rfl, ?_⟩⟩
      exact XKind.ne (hx4.same m) ⟨_, e, small1000 (by rw [List.length_replicate]; omega), fun b o eb => by
        rw [upd_ne (fun q => by rw [q, hDl] at eb; cases eb)]
        exact m _ _ eb, by rw [upd_same, List.replicate_succ']⟩
    rintro H5 ⟨m5, e5⟩
    refine ⟨(by show 1 ≤ sizeLine; decide), fun l9 hl9 => ?_⟩
    have s6 : Same H5 (upd H5 l9 (.lst [V.bl false])) := Same.new hl9
    have e6 : (upd H5 l9 (.lst [V.bl false])) l9 = some (.lst [V.bl false]) := upd_same
    generalize upd H5 l9 (.lst [V.bl false]) = H6_ at s6 e6
    refine ⟨l9, 16, _, rfl, rfl, e6, by decide, by decide, (by show 16 ≤ sizeLine; decide), fun q9 hq9 => ?_⟩
    have s7 : Same H6_ (upd H6_ q9 (.lst (List.replicate (16 : Int).toNat [V.bl false]).flatten)) := Same.new hq9
    have e7 : (upd H6_ q9 (.lst (List.replicate (16 : Int).toNat [V.bl false]).flatten)) q9 = some (.lst (List.replicate 16 (V.bl false))) := upd_same
    generalize upd H6_ q9 (.lst (List.replicate (16 : Int).toNat [V.bl false]).flatten) = H7_ at s7 e7
    have m7 := m5.trans (s6.trans s7)
    refine ⟨.list (List.replicate 16 (.bool false)), .list (List.replicate 16 (.bool false)), .lst (SqL.of ((s6.trans s7) _ _ e5)) (bools_dp 16), .lst (SqL.of e7) (bools_dp 16), by decide +kernel, by decide +kernel, _, rfl, ?_⟩
    rw [show PyData.eqv (.list (List.replicate 16 (.bool false))) (.list (List.replicate 16 (.bool false))) = true from by decide +kernel]
    refine iteF ?_
    refine ⟨_, rfl, a14, T.c 14, d14, _, .int y, rfl, m7 _ _ A14, m7 _ _ D14, T.e14.X, T.e14.nf "box" (.head _), rfl, _, rfl, rfl, _, rfl, ?_⟩
    refine iteF' (by simp) ?_
    refine ⟨_, rfl, a15, T.c 15, d15, _, .int y, rfl, m7 _ _ A15, m7 _ _ D15, T.e15.X, T.e15.nf "one" (.head _), rfl, _, rfl, rfl, _, rfl, ?_⟩
    refine iteF' (by simp) ?_
    have S7 := S4.trans m7
    clear A14 D14 A15 D15 hx4 e5 s6 e6 s7 e7
    refine ⟨_, rfl, _, rfl, (by show 2 ≤ 1000; decide), fun a14b ha14b => ⟨a14b, (V.int y), x, rfl, upd_same, fun d14b hd14b n14b => ⟨rfl, ?_⟩⟩⟩
    have s14b : Same H7_ (upd (upd (upd (upd H7_ a14b (exo a14b (T.c 14) none)) d14b (exd d14b [(("box" : Str), (V.int y))])) a14b (exo a14b (T.c 14) (some d14b))) d14b (exd d14b [(("into" : Str), x), (("box" : Str), (V.int y))])) := new3 ha14b hd14b n14b
    have ea14b : (upd (upd (upd (upd H7_ a14b (exo a14b (T.c 14) none)) d14b (exd d14b [(("box" : Str), (V.int y))])) a14b (exo a14b (T.c 14) (some d14b))) d14b (exd d14b [(("into" : Str), x), (("box" : Str), (V.int y))])) a14b = some (exo a14b (T.c 14) (some d14b)) := by rw [upd_ne n14b.symm]; exact upd_same
    have ed14b : (upd (upd (upd (upd H7_ a14b (exo a14b (T.c 14) none)) d14b (exd d14b [(("box" : Str), (V.int y))])) a14b (exo a14b (T.c 14) (some d14b))) d14b (exd d14b [(("into" : Str), x), (("box" : Str), (V.int y))])) d14b = some (exd d14b [(("into" : Str), x), (("box" : Str), (V.int y))]) := upd_same
    generalize (upd (upd (upd (upd H7_ a14b (exo a14b (T.c 14) none)) d14b (exd d14b [(("box" : Str), (V.int y))])) a14b (exo a14b (T.c 14) (some d14b))) d14b (exd d14b [(("into" : Str), x), (("box" : Str), (V.int y))])) = H14b at s14b ea14b ed14b
    refine ⟨_, rfl, _, rfl, (by show 2 ≤ 1000; decide), fun a15b ha15b => ⟨a15b, (V.int y), x, rfl, upd_same, fun d15b hd15b n15b => ⟨rfl, ?_⟩⟩⟩
    have s15b : Same H14b (upd (upd (upd (upd H14b a15b (exo a15b (T.c 15) none)) d15b (exd d15b [(("one" : Str), (V.int y))])) a15b (exo a15b (T.c 15) (some d15b))) d15b (exd d15b [(("other" : Str), x), (("one" : Str), (V.int y))])) := new3 ha15b hd15b n15b
    have ea15b : (upd (upd (upd (upd H14b a15b (exo a15b (T.c 15) none)) d15b (exd d15b [(("one" : Str), (V.int y))])) a15b (exo a15b (T.c 15) (some d15b))) d15b (exd d15b [(("other" : Str), x), (("one" : Str), (V.int y))])) a15b = some (exo a15b (T.c 15) (some d15b)) := by rw [upd_ne n15b.symm]; exact upd_same
    have ed15b : (upd (upd (upd (upd H14b a15b (exo a15b (T.c 15) none)) d15b (exd d15b [(("one" : Str), (V.int y))])) a15b (exo a15b (T.c 15) (some d15b))) d15b (exd d15b [(("other" : Str), x), (("one" : Str), (V.int y))])) d15b = some (exd d15b [(("other" : Str), x), (("one" : Str), (V.int y))]) := upd_same
    generalize (upd (upd (upd (upd H14b a15b (exo a15b (T.c 15) none)) d15b (exd d15b [(("one" : Str), (V.int y))])) a15b (exo a15b (T.c 15) (some d15b))) d15b (exd d15b [(("other" : Str), x), (("one" : Str), (V.int y))])) = H15b at s15b ea15b ed15b
    refine ⟨_, _, rfl, ?_⟩
    have Aa := s15b _ _ ea14b
    have Ad := s15b _ _ ed14b
    refine ⟨_, rfl, a14b, T.c 14, d14b, _, .int y, rfl, Aa, Ad, T.e14.X, T.e14.nf "box" (.head _), rfl, ?_⟩
    refine ⟨_, rfl, a14b, T.c 14, d14b, _, x, rfl, Aa, Ad, T.e14.X, T.e14.nf "into" (.tail _ (.head _)), rfl, ?_⟩
    refine ⟨_, rfl, a15b, T.c 15, d15b, _, .int y, rfl, ea15b, ed15b, T.e15.X, T.e15.nf "one" (.head _), rfl, ?_⟩
    refine ⟨_, rfl, a15b, T.c 15, d15b, _, x, rfl, ea15b, ed15b, T.e15.X, T.e15.nf "other" (.tail _ (.head _)), rfl, ?_⟩
    refine ⟨(by show 4 ≤ sizeLine; decide), fun p1 hp1 => ?_⟩
    have s8 : Same H15b (upd H15b p1 (.lst [V.int y, x, V.int y, x])) := Same.new hp1
    have e8 : (upd H15b p1 (.lst [V.int y, x, V.int y, x])) p1 = some (.lst [V.int y, x, V.int y, x]) := upd_same
    generalize upd H15b p1 (.lst [V.int y, x, V.int y, x]) = H8_ at s8 e8
    refine ⟨_, rfl, _, rfl, _, rfl, _, rfl, (by show 4 ≤ sizeLine; decide), fun p2 hp2 => ?_⟩
    have s9 : Same H8_ (upd H8_ p2 (.lst [V.int y, x, V.int y, x])) := Same.new hp2
    have e9 : (upd H8_ p2 (.lst [V.int y, x, V.int y, x])) p2 = some (.lst [V.int y, x, V.int y, x]) := upd_same
    generalize upd H8_ p2 (.lst [V.int y, x, V.int y, x]) = H9_ at s9 e9
    refine ⟨p1, p2, _, _, rfl, rfl, .inl ⟨SqL.of (s9 _ _ e8), SqL.of e9⟩, rfl, fun i u v hu hv => ?_, hq _ (S7.trans (s14b.trans (s15b.trans (s8.trans s9))))⟩
    rw [hu] at hv
    cases hv
    refine al_refl ?_
    have h1 := List.mem_of_getElem? hu
    simp only [List.mem_cons, List.not_mem_nil, or_false] at h1
    rcases h1 with rfl | rfl | rfl | rfl
    · exact .inl rfl
    · exact hx.fr
    · exact .inl rfl
    · exact hx.fr
end
end Ts

set_option maxRecDepth 100000
set_option maxHeartbeats 8000000
namespace Ts
open PySem L2
theorem XKind.sb {H H' : Hp} {x : V} {a : Addr} {n : Int} (h : XKind H x) (st : Stm H a n) (s : SB a H H') : XKind H' x := by
  obtain ⟨u, v, z, ea, _⟩ := st
  rcases h with h | ⟨c, e, h⟩ | ⟨c, e, h⟩ | ⟨c, e, h⟩
  · exact .inl h
  · exact .inr (.inl ⟨c, e, s _ _ (fun q => by rw [q, ea] at h; cases h) h⟩)
  · exact .inr (.inr (.inl ⟨c, e, s _ _ (fun q => by rw [q, ea] at h; cases h) h⟩))
  · exact .inr (.inr (.inr ⟨c, e, s _ _ (fun q => by rw [q, ea] at h; cases h) h⟩))
theorem KLs.sb {H H' : Hp} {a : Addr} {n : Int} (st : Stm H a n) (s : SB a H H') : KLs H H' := fun b o e no => by
  obtain ⟨u, v, z, ea, _⟩ := st
  exact s _ _ (fun q => by rw [q, ea] at e; exact no _ (Option.some.inj e).symm) e
theorem bls_lay : ∀ l : List Bool, PyData.canLayAll0 (l.map PyData.bool) = true
  | [] => by simp [PyData.canLayAll0]
  | x :: l => by simp only [List.map_cons, PyData.canLayAll0, PyData.canLay0, bls_lay l, Bool.and_self]
theorem bls_depth : ∀ l : List Bool, PyData.depthAll (l.map PyData.bool) = 0
  | [] => by simp [PyData.depthAll]
  | x :: l => by simp only [List.map_cons, PyData.depthAll, PyData.depth, bls_depth l]; rfl
theorem bls_shaped (l : List Bool) : SeqAt.shaped (.list (l.map PyData.bool)) = true := by
  unfold SeqAt.shaped
  rw [Bool.and_eq_true]
  refine ⟨by simp only [PyData.canLay0]; exact bls_lay l, decide_eq_true ?_⟩
  simp only [PyData.depth, bls_depth]
  omega
theorem bls_eqvAll : ∀ l : List Bool, PyData.eqvAll (l.map PyData.bool) (l.map PyData.bool) = true
  | [] => by simp [PyData.eqvAll]
  | x :: l => by
    have e : PyData.eqv (.bool x) (.bool x) = true := by cases x <;> decide +kernel
    simp only [List.map_cons, PyData.eqvAll, e, bls_eqvAll l, Bool.and_self]
theorem bls_eqv (l : List Bool) : PyData.eqv (.list (l.map PyData.bool)) (.list (l.map PyData.bool)) = true := by
  have e := bls_eqvAll l
  simp only [PyData.eqv]
  exact e
theorem bls_dp {K : PySem.W.Frag} {H : Hp} : ∀ l : List Bool, DpAll K H (l.map V.bl) (l.map PyData.bool)
  | [] => .nil
  | x :: l => .cons (.bl x) (bls_dp l)
theorem take_more {α : Type} : ∀ {l : List α} {i : Nat} {x : α}, l[i]? = some x → l.take (i + 1) = l.take i ++ [x]
  | [], i, x, h => by simp at h
  | y :: l, 0, x, h => by cases (show y = x by simpa using h); rfl
  | y :: l, i + 1, x, h => by
    have := take_more (l := l) (i := i) (x := x) (by simpa using h)
    simp [this]
theorem nineteen {as : List Addr} (h : as.length = 19) : ∃ b0 b1 b2 b3 b4 b5 b6 b7 b8 b9 b10 b11 b12 b13 b14 b15 b16 b17 b18 : Addr, as = [b0, b1, b2, b3, b4, b5, b6, b7, b8, b9, b10, b11, b12, b13, b14, b15, b16, b17, b18] := by
  match as, h with
  | [b0, b1, b2, b3, b4, b5, b6, b7, b8, b9, b10, b11, b12, b13, b14, b15, b16, b17, b18], _ => exact ⟨b0, b1, b2, b3, b4, b5, b6, b7, b8, b9, b10, b11, b12, b13, b14, b15, b16, b17, b18, rfl⟩
theorem ErrAt.ex {H : Hp} {a C : Addr} {q : Str × V} {fs : List (Str × V)} (h : ErrAt H a C (q :: fs)) : ∃ d, H a = some (exo a C (some d)) ∧ H d = some (exd d (q :: fs)) := by
  rcases h with ⟨e, _⟩ | h
  · cases e
  · exact h
def spLaw (K : PySem.W.Frag) : Sp := fun vs H Q _ => ∃ (a : Addr) (ns : List Int), vs = [.ref a] ∧ SqL K H a (ns.map V.int) ∧ ns.length ≤ 63 ∧ ∀ H', Q (.bl true) H'
abbrev nLaw : List Str := ["_law_script", "_law_stream_here", "_law_turn", "_law_x", "_law_errors", "_law_at", "_law_e", "_law_k"]
section
variable {P : Program} {w : World} {K : PySem.W.Frag} {mg : Str → Option Value} {base : Heap}
theorem sc_law : FnScope nLaw ["_law_script"] (defScope s_law) := ⟨rfl, rfl, rfl, by decide +kernel, rfl, by decide +kernel, by decide +kernel⟩
theorem ok_law (T : Tab P w K mg base) (D : DefAt K mg "law" s_law ["_law_script"]) (B : TxB mg) (hAny : mg "any" = none) (hVE : mg "ValueError" = none)
    (Ds : DefAt K mg "_law_stream" s_L_stream ["_law_script", "_law_k"]) (Dd : DefAt K mg "_law_draw" s_L_draw ["_law_stream_here", "_law_many"])
    (Dp : DefAt K mg "_law_pick" s_L_pick ["_law_stream_here", "_law_things"])
    (Dm : DefAt K mg "_law_made" s_L_made ["_law_x"]) (Dk : DefAt K mg "_law_kinds" s_L_kinds ["_law_e"]) (Df : DefAt K mg "_law_fields" s_L_fields ["_law_x", "_law_y"]) :
    FnOk P w K mg base CX0 5 D.f D.fd ["_law_script"] (spLaw K) := by
  have Gs : FnOk P w K mg base CX0 2 Ds.f Ds.fd ["_law_script", "_law_k"] (spStream K) := ok_stream Ds B
  have Gd : FnOk P w K mg base CX0 2 Dd.f Dd.fd ["_law_stream_here", "_law_many"] spDraw := ok_draw Dd B
  have Gp : FnOk P w K mg base CX0 3 Dp.f Dp.fd ["_law_stream_here", "_law_things"] (spPick K) := ok_pick Dp Dd B
  have Gm := ok_made T Dm
  have Gk := ok_kinds T B Dk
  have Gf := ok_fields T Df
  refine D.F.ok sc_law (fun vs H Q E h => ?_) (fun cdv A outer s H vs Q E hr h => ?_)
  · obtain ⟨a, ns, rfl, _⟩ := h
    rfl
  · obtain ⟨a0, ns, rfl, hS, hlen, hq⟩ := h
    have h64 := hr.units
    have hu1 := Nat.lt_of_le_of_lt (Nat.le_add_right _ _) h64
    have r2 : Room 2 _ := hr.mono (by decide)
    have r3 : Room 3 _ := hr.mono (by decide)
    refine ⟨_, pss_cons (ps_set (i := 1) sc_law.nd rfl (.inl rfl) (pe_call Gs r2 rfl Ds.g Ds.F.kp Ds.b .nil pass0 (pa_cons (pv 0) (pa_cons pe_int pa_nil))))
      (pss_cons (ps_for PassesOwn.never rfl (pi_range1 (by rfl) B.range (pa_cons pe_int pa_nil)) (pg_name (i := 2) sc_law.nd rfl (.inl rfl))
        (pss_cons (ps_set (i := 3) sc_law.nd rfl (.inl rfl) (pe_call Gp r3 rfl Dp.g Dp.F.kp Dp.b .nil pass0 (pa_cons (pv 1) (pa_cons (pe_lst (pa_cons pe_int (pa_cons pe_str (pa_cons (pe_tup (pa_cons pe_int (pa_cons pe_str pa_nil))) (pa_cons pe_non (pa_cons (pe_lst (pa_cons pe_str pa_nil)) (pa_cons (pe_op op_pow pe_int pe_int) (pa_cons pe_bl (pa_cons (pe_disp (pps_cons pe_str pe_int pps_nil) rfl rfl (by simp) (by decide)) pa_nil))))))))) pa_nil))))
        (pss_cons (ps_set (i := 4) sc_law.nd rfl (.inl rfl) (pe_call Gm hr rfl Dm.g Dm.F.kp Dm.b .nil pass0 (pa_cons (pv 3) pa_nil)))
        (pss_cons (ps_for PassesOwn.never rfl (pi_enum (by rfl) B.enumerate (pa_cons (pv 4) pa_nil)) (pg_tup rfl (pgs_cons (pg_name (i := 5) sc_law.nd rfl (.inr rfl)) (pgs_cons (pg_name (i := 6) sc_law.nd rfl (.inl rfl)) pgs_nil)))
          (pss_cons (ps_if (PW.pt (pw_or (pt_not (pt_val (pe_callB call_isV (by rfl) B.isinstance (by decide +kernel) (pa_cons (pv 6) (pa_cons (pe_glob (by rfl) T.zB.g (v := .ref T.B) rfl) pa_nil))))) (pw_or1 (pt_not (pt_val (pe_callB call_isV (by rfl) B.isinstance (by decide +kernel) (pa_cons (pv 6) (pa_cons (pe_bltn (by rfl) hVE PyProof.Rows.Boot.«ValueError» (v := .ty "ValueError") rfl) pa_nil)))))))) (pss_one (ps_ret pe_bl)) pss_nil)
          (pss_one (ps_if (pt_cmpR (op_neD h64) (pe_call Gk r2 rfl Dk.g Dk.F.kp Dk.b .nil pass0 (pa_cons (pv 6) pa_nil)) (pe_lc (own := [("_law_k", 7)]) (g := gName 7) (tt := tYes) (te := tOp rEq (tVar 7) (tVar 5)) rfl sc_law.nd (pi_range1 (by rfl) B.range (pa_cons pe_int pa_nil)) (blkOk_by (N := nLaw) (sc := defScope s_law) (by decide +kernel))
            (fun _ _ _ _ _ => pg_name (i := 7) sc_law.nd rfl (Or.inl rfl)) (fun _ _ _ _ _ => pts_nil) (fun _ _ _ _ _ => by exact pe_cmpR op_eq (pv 7) (pv 5) (nomark _))) (nomark _)) (pss_one (ps_ret pe_bl)) pss_nil))))
        (pss_cons (ps_if (PW.pt (pw_or (pt_cmpR (op_neAl h64) (pe_lc (own := [("_law_e", 6)]) (g := gName 6) (tt := tYes) (te := tXv K "box" (tVar 6)) rfl sc_law.nd (pi_list (pe_slice sl_list (pv 4) (po_some pe_int) (po_some pe_int))) (blkOk_by (N := nLaw) (sc := defScope s_law) (by decide +kernel))
            (fun _ _ _ _ _ => pg_name (i := 6) sc_law.nd rfl (Or.inl rfl)) (fun _ _ _ _ _ => pts_nil) (fun _ _ _ _ _ => by exact pe_xv (pv 6))) (pe_op op_rep (pe_lst (pa_cons (pv 3) pa_nil)) pe_int) (nomark _))
            (pw_or1 (pt_not (pt_val (pe_call Gf hr rfl Df.g Df.F.kp Df.b .nil pass0 (pa_cons (pv 3) (pa_cons (pe_call Gd r2 rfl Dd.g Dd.F.kp Dd.b .nil pass0 (pa_cons (pv 1) (pa_cons pe_int pa_nil))) pa_nil)))))))) (pss_one (ps_ret pe_bl)) pss_nil)
        (pss_cons (ps_if (pt_cmpR (op_neAl h64) (pe_lst (pa_cons (pe_xv (pe_ix ix_list (pv 4) pe_int (fun _ _ => rfl))) (pa_cons (pe_xv (pe_ix ix_list (pv 4) pe_int (fun _ _ => rfl))) (pa_cons (pe_xv (pe_ix ix_list (pv 4) pe_int (fun _ _ => rfl))) (pa_cons (pe_xv (pe_ix ix_list (pv 4) pe_int (fun _ _ => rfl))) pa_nil))))) (pe_op op_rep (pe_lst (pa_cons (pv 3) pa_nil)) pe_int) (nomark _)) (pss_one (ps_ret pe_bl)) pss_nil)
        (pss_one (ps_if (pt_val (pe_callB (cr_any rfl) (by rfl) hAny (by decide +kernel) (pa_cons (pe_lst (pa_cons (pe_callB call_isV (by rfl) B.isinstance (by decide +kernel) (pa_cons (pe_evZ T.zB (by rfl)) (pa_cons (pe_glob (by rfl) T.e0.g (v := .ref (T.c 0)) rfl) pa_nil))) (pa_cons (pe_callB call_isV (by rfl) B.isinstance (by decide +kernel) (pa_cons (pe_evZ T.zB (by rfl)) (pa_cons (pe_glob (by rfl) T.e1.g (v := .ref (T.c 1)) rfl) pa_nil))) pa_nil))) pa_nil))) (pss_one (ps_ret pe_bl)) pss_nil))))))))
      (pss_one (ps_ret (pe_callB call_isV (by rfl) B.isinstance (by decide +kernel) (pa_cons (pe_evZ T.zB (by rfl)) (pa_cons (pe_bltn (by rfl) hVE PyProof.Rows.Boot.«ValueError» (v := .ty "ValueError") rfl) pa_nil)))))), ?_⟩
    have hc : ∀ (C : Addr) (u : Value), RelV (.ref C) u → u = .ref C := fun C u h => h
    have hcV : ∀ u : Value, RelV (.ty "ValueError") u → u = .type "ValueError" := fun u h => h
    refine ⟨_, rfl, a0, ns, 0, rfl, hS, by decide, by decide, fun a x9 y9 ha hx hy hy1 => ?_⟩
    have st0 : Stm (upd H a (.lst [.int x9, .int y9, .int 0])) a 0 := ⟨x9, y9, 0, upd_same, hx, hy, hy1, by decide, by decide⟩
    generalize upd H a (.lst [.int x9, .int y9, .int 0]) = H0 at st0
    refine ⟨4, rfl, by decide, by decide, ?_⟩
    refine for_range (lo := 0) (n := (4 : Int).toNat) (fun i σ H' => ∃ v2 v3 v4 v5 v6 : Option V, σ = [some (.ref a0), some (.ref a), v2, v3, v4, v5, v6, none] ∧ Stm H' a (10 * i)) ⟨_, _, _, _, _, rfl, by simpa using st0⟩ ?_ ?_
    · rintro i_ σ H1 hi ⟨v2, v3, v4, v5, v6, rfl, st1⟩
      have hi4 : i_ < 4 := hi
      refine ⟨_, rfl, (by show 2 ≤ sizeLine; decide), fun tq htq => ⟨(by show 1 ≤ sizeLine; decide), fun lq hlq => ⟨_, _, rfl, rfl, ⟨by decide, by decide, by decide⟩, fun dq hdq => ⟨upd_same, [((.inr ("a" : Str) : Key), V.int 1)], rfl, (by decide), (by show 8 ≤ sizeLine; decide), fun l8 hl8 => ?_⟩⟩⟩⟩
      have s2 : Same H1 (upd H1 tq (.tup [V.int 1, V.str ("a" : Str)])) := Same.new htq
      have e2 : (upd H1 tq (.tup [V.int 1, V.str ("a" : Str)])) tq = some (.tup [V.int 1, V.str ("a" : Str)]) := upd_same
      have nta : tq ≠ a := (st1.ne htq).symm
      generalize upd H1 tq (.tup [V.int 1, V.str ("a" : Str)]) = H2 at s2 e2 hlq hdq hl8
      have s3 : Same H2 (upd H2 lq (.lst [V.str ("a" : Str)])) := Same.new hlq
      have e3 : (upd H2 lq (.lst [V.str ("a" : Str)])) lq = some (.lst [V.str ("a" : Str)]) := upd_same
      have st2 := st1.same s2
      have nla : lq ≠ a := (st2.ne hlq).symm
      generalize upd H2 lq (.lst [V.str ("a" : Str)]) = H3 at s3 e3 hdq hl8
      have st3 := st2.same s3
      have nda : dq ≠ a := (st3.ne hdq).symm
      have s4 : Same H3 (upd (upd H3 dq (.dK [])) dq (.dK (mergeK [] [((.inr ("a" : Str) : Key), V.int 1)]))) := fun b o e => by
        have n := ne_of_none e hdq
        rw [upd_ne n, upd_ne n]
        exact e
      have e4 : (upd (upd H3 dq (.dK [])) dq (.dK (mergeK [] [((.inr ("a" : Str) : Key), V.int 1)]))) dq = some (.dK (kvX (fun _ => V.int 1) ["a"])) := upd_same
      generalize upd (upd H3 dq (.dK [])) dq (.dK (mergeK [] [((.inr ("a" : Str) : Key), V.int 1)])) = H4 at s4 e4 hl8
      have s5 : Same H4 (upd H4 l8 (.lst [V.int 7, V.str ("box" : Str), V.ref tq, V.non, V.ref lq, V.int (10 ^ (30 : Int).toNat), V.bl true, V.ref dq])) := Same.new hl8
      have e5 : (upd H4 l8 (.lst [V.int 7, V.str ("box" : Str), V.ref tq, V.non, V.ref lq, V.int (10 ^ (30 : Int).toNat), V.bl true, V.ref dq])) l8 = some (.lst [V.int 7, V.str ("box" : Str), V.ref tq, V.non, V.ref lq, V.int (10 ^ (30 : Int).toNat), V.bl true, V.ref dq]) := upd_same
      have st4 := st3.same s4
      have n8a : l8 ≠ a := (st4.ne hl8).symm
      generalize upd H4 l8 (.lst [V.int 7, V.str ("box" : Str), V.ref tq, V.non, V.ref lq, V.int (10 ^ (30 : Int).toNat), V.bl true, V.ref dq]) = H5 at s5 e5
      have st5 := st4.same s5
      have e25 := s5 _ _ (s4 _ _ (s3 _ _ e2))
      have e35 := s5 _ _ (s4 _ _ e3)
      have e45 := s5 _ _ e4
      refine .inl ⟨a, l8, _, _, rfl, st5, by omega, n8a, SqL.of e5, (by show 1 ≤ 8; decide), (by show 8 ≤ 1000000; decide), fun x H6 hxm st6 sb6 _ => ?_⟩
      have hxk : XKind H6 x := by
        simp only [List.mem_cons, List.not_mem_nil, or_false] at hxm
        rcases hxm with rfl | rfl | rfl | rfl | rfl | rfl | rfl | rfl
        · exact .inl ⟨rfl, rfl⟩
        · exact .inl ⟨rfl, rfl⟩
        · exact .inr (.inl ⟨_, rfl, sb6 _ _ nta e25⟩)
        · exact .inl ⟨rfl, rfl⟩
        · exact .inr (.inr (.inl ⟨_, rfl, sb6 _ _ nla e35⟩))
        · exact .inl ⟨rfl, rfl⟩
        · exact .inl ⟨rfl, rfl⟩
        · exact .inr (.inr (.inr ⟨_, rfl, sb6 _ _ nda e45⟩))
      clear s2 e2 nta s3 e3 st2 nla st3 nda s4 e4 s5 e5 st4 n8a e25 e35 e45 sb6 hxm htq hlq hdq hl8 st5
      refine ⟨_, rfl, x, rfl, fun D as H7 s7 eD he => ?_⟩
      obtain ⟨hl, he⟩ := he
      obtain ⟨b0, b1, b2, b3, b4, b5, b6, b7, b8, b9, b10, b11, b12, b13, b14, b15, b16, b17, b18, rfl⟩ := nineteen hl
      have st7 := st6.same s7
      have hx7 := hxk.same s7
      clear hl s7 hxk st6
      -- of which class they are
      refine ⟨_, rfl, D, _, rfl, SqL.of eD, ?_⟩
      refine for_it (walk_enum (K := K) (a := D) (xs := [b0, b1, b2, b3, b4, b5, b6, b7, b8, b9, b10, b11, b12, b13, b14, b15, b16, b17, b18].map V.ref)) (fun j σ H' => ∃ v5 v6 : Option V, σ = [some (.ref a0), some (.ref a), some (.int (0 + i_)), some x, some (.ref D), v5, v6, none] ∧ Same H7 H') ⟨_, _, rfl, Same.refl _⟩ (fun j σ H' _ ⟨_, _, _, m⟩ => SqL.of (m _ _ eD)) ?_ ?_
      · rintro j xx σ H8 H9 hj ⟨v5, v6, rfl, s8⟩ ⟨Tq, xi, xr, rfl, hT, rfl, exi, exr⟩
        obtain rfl := Option.some.inj exi
        have hj19 : j < 19 := hj
        dsimp only at exr
        rw [List.getElem?_map] at exr
        obtain ⟨ea, haj, rfl⟩ := Option.map_eq_some_iff.mp exr
        have s9 := s8.trans (Same.new (o := .tup [.int (j : Nat), V.ref ea]) hT)
        have hE := (he j ea haj).same s9
        refine ⟨Tq, _, rfl, .inl (.inl upd_same), rfl, _, _, rfl, _, _, rfl, rfl, ?_⟩
        generalize upd H8 Tq (.tup [V.int (j : Nat), V.ref ea]) = H9 at s9 hE
        obtain ⟨dd, k1, k2⟩ := hE.is
        refine ⟨_, rfl, ea, T.c j, dd, .ref T.B, .ref T.B, true, rfl, k1, k2, T.E j hj19, hc _, T.MB j hj19, _, rfl, iteF ?_⟩
        refine ⟨_, rfl, ea, T.c j, dd, .ty "ValueError", .type "ValueError", true, rfl, k1, k2, T.E j hj19, hcV, T.MV j hj19, _, rfl, iteF ?_⟩
        refine ⟨_, rfl, ea, j, _, rfl, hj19, hE, fun D2 H10 s10 e10 => ?_⟩
        refine ⟨19, rfl, by decide, by decide, fun Dl hDl => ?_⟩
        refine lc_range (lo := 0) (n := (19 : Int).toNat) (fun i H' => Same H10 H' ∧ H' Dl = some (.lst (((List.range i).map fun k => decide (j = k)).map V.bl))) ⟨Same.new hDl, upd_same⟩ ?_ ?_
        · rintro i H11 hi19 ⟨m, e11⟩
          have hi' : i < 19 := hi19
          refine ⟨rfl, tYes_if ⟨_, rfl, _, rfl, rfl, _, e11, small1000 (by rw [List.length_map, List.length_map, List.length_range]; omega), fun b o eb => ?_, ?_⟩⟩
          · rw [upd_ne (fun q => by rw [q, hDl] at eb; cases eb)]
            exact m _ _ eb
          · rw [upd_same, List.range_succ, List.map_append, List.map_append]
            have ed : decide (V.int (0 + (i : Int)) = V.int (j : Int)) = decide (j = i) := decide_eq_decide.mpr ⟨fun e => by have := V.int.inj e; omega, fun e => by rw [e]; congr 1; omega⟩
            rw [ed]
            rfl
        rintro H11 ⟨m, e11⟩
        have e10' : H11 D2 = some (.lst (((List.range 19).map fun k => decide (j = k)).map V.bl)) := by rw [m _ _ e10, List.map_map]; rfl
        refine ⟨_, _, .lst (SqL.of e10') (bls_dp _), .lst (SqL.of e11) (bls_dp _), bls_shaped _, bls_shaped _, _, rfl, ?_⟩
        rw [show (19 : Int).toNat = 19 from rfl, bls_eqv]
        exact iteF ⟨_, _, rfl, s9.trans (s10.trans m)⟩
      rintro σ H8 ⟨v5, v6, rfl, s8⟩
      have st8 := st7.same s8
      have hx8 := hx7.same s8
      have eD8 := s8 _ _ eD
      have he8 : ∀ (i : Nat) (a : Addr), [b0, b1, b2, b3, b4, b5, b6, b7, b8, b9, b10, b11, b12, b13, b14, b15, b16, b17, b18][i]? = some a → ErrAt H8 a (T.c i) (fT x i) := fun i a e => (he i a e).same s8
      clear he eD hx7 st7 s8
      -- their fields
      refine ⟨_, rfl, _, rfl, _, rfl, D, _, rfl, SqL.of eD8, fun u1 hu1 => ?_⟩
      rw [show cutV ([b0, b1, b2, b3, b4, b5, b6, b7, b8, b9, b10, b11, b12, b13, b14, b15, b16, b17, b18].map V.ref) (some 1) (some 4) = [V.ref b1, V.ref b2, V.ref b3] from rfl]
      have s9 : Same H8 (upd H8 u1 (.lst [V.ref b1, V.ref b2, V.ref b3])) := Same.new hu1
      have e9 : (upd H8 u1 (.lst [V.ref b1, V.ref b2, V.ref b3])) u1 = some (.lst [V.ref b1, V.ref b2, V.ref b3]) := upd_same
      generalize upd H8 u1 (.lst [V.ref b1, V.ref b2, V.ref b3]) = H9 at s9 e9
      refine ⟨u1, rfl, ⟨_, SqL.of e9⟩, fun Dl hDl => ?_⟩
      refine lc_list (K := K) (a := u1) (xs := [V.ref b1, V.ref b2, V.ref b3]) (fun i H' => Same H9 H' ∧ H' Dl = some (.lst (List.replicate i x))) ⟨Same.new hDl, upd_same⟩ (fun i H' _ m => SqL.of (m.1 _ _ e9)) ?_ ?_
      · have push : ∀ (i : Nat) (H' : Hp), i < 3 → Same H9 H' → H' Dl = some (.lst (List.replicate i x)) → ∃ acc, H' Dl = some (.lst acc) ∧ acc.length < sizeLine ∧ Same H9 (upd H' Dl (.lst (acc ++ [x]))) ∧ (upd H' Dl (.lst (acc ++ [x]))) Dl = some (.lst (List.replicate (i + 1) x)) := fun i H' hi m e =>
          ⟨_, e, small1000 (by rw [List.length_replicate]; omega), fun b o eb => by
            rw [upd_ne (fun q => by rw [q, hDl] at eb; cases eb)]
            exact m _ _ eb, by rw [upd_same, List.replicate_succ']⟩
        rintro i u H' hu ⟨m, e⟩
        match i, hu with
        | 0, hu =>
          cases hu
          obtain ⟨d, k1, k2⟩ := ((he8 1 b1 rfl).same (s9.trans m)).ex
          exact ⟨rfl, tYes_if ⟨_, rfl, b1, T.c 1, d, _, x, rfl, k1, k2, T.e1.X, T.e1.nf "box" (.head _), rfl, push 0 _ (by decide) m e⟩⟩
        | 1, hu =>
          cases hu
          obtain ⟨d, k1, k2⟩ := ((he8 2 b2 rfl).same (s9.trans m)).ex
          exact ⟨rfl, tYes_if ⟨_, rfl, b2, T.c 2, d, _, x, rfl, k1, k2, T.e2.X, T.e2.nf "box" (.head _), rfl, push 1 _ (by decide) m e⟩⟩
        | 2, hu =>
          cases hu
          obtain ⟨d, k1, k2⟩ := ((he8 3 b3 rfl).same (s9.trans m)).ex
          exact ⟨rfl, tYes_if ⟨_, rfl, b3, T.c 3, d, _, x, rfl, k1, k2, T.e3.X, T.e3.nf "box" (.head _), rfl, push 2 _ (by decide) m e⟩⟩
        | i + 3, hu => simp at hu
      rintro H10 ⟨m10, e10⟩
      refine ⟨_, rfl, (by show 1 ≤ sizeLine; decide), fun l9 hl9 => ?_⟩
      have s11 : Same H10 (upd H10 l9 (.lst [x])) := Same.new hl9
      have e11 : (upd H10 l9 (.lst [x])) l9 = some (.lst [x]) := upd_same
      generalize upd H10 l9 (.lst [x]) = H11 at s11 e11
      refine ⟨l9, 3, _, rfl, rfl, e11, by decide, by decide, (by show 3 ≤ sizeLine; decide), fun q9 hq9 => ?_⟩
      have s12 : Same H11 (upd H11 q9 (.lst (List.replicate (3 : Int).toNat [x]).flatten)) := Same.new hq9
      have e12 : (upd H11 q9 (.lst (List.replicate (3 : Int).toNat [x]).flatten)) q9 = some (.lst (List.replicate 3 x)) := upd_same
      generalize upd H11 q9 (.lst (List.replicate (3 : Int).toNat [x]).flatten) = H12 at s12 e12
      have S12 := s9.trans (m10.trans (s11.trans s12))
      have repl : ∀ (n i : Nat) (u v : V), (List.replicate n x)[i]? = some u → (List.replicate n x)[i]? = some v → Al K H12 8 u v := fun n i u v hu hv => by
        rw [hu] at hv
        cases hv
        have e := List.eq_of_mem_replicate (List.mem_of_getElem? hu)
        rw [e]
        exact al_refl hx8.fr
      refine ⟨.inr (.inr (.inr (.inr ⟨Dl, q9, _, _, rfl, rfl, .inl ⟨SqL.of ((s11.trans s12) _ _ e10), SqL.of e12⟩, rfl, repl 3⟩))), _, rfl, iteF ?_⟩
      have st12 := st8.same S12
      have hx12 := hx8.same S12
      refine ⟨_, rfl, _, rfl, a, 100, _, rfl, st12, by omega, by decide, by decide, fun r H13 _ _ st13 heq => ?_⟩
      have sb13 := sb_eq heq
      have hx13 := hx12.sb st12 sb13
      refine ⟨x, r, rfl, hx13, fun H14 s14 => ⟨_, rfl, iteF ?_⟩⟩
      have k14 : KLs H8 H14 := fun b o e no => s14 _ _ (KLs.sb st12 sb13 _ _ (S12 _ _ e) no)
      have nDa : D ≠ a := fun q => by
        obtain ⟨u, v, z, ea, _⟩ := st8
        rw [q, ea] at eD8
        cases eD8
      have eD14 := s14 _ _ (sb13 _ _ nDa (S12 _ _ eD8))
      have st14 := st13.same s14
      have he14 : ∀ (i : Nat) (a : Addr), [b0, b1, b2, b3, b4, b5, b6, b7, b8, b9, b10, b11, b12, b13, b14, b15, b16, b17, b18][i]? = some a → ErrAt H14 a (T.c i) (fT x i) := fun i a e => (he8 i a e).kl k14
      have fr := hx8.fr
      clear hu1 s9 e9 hDl m10 e10 hl9 s11 e11 hq9 s12 e12 S12 repl st12 hx12 heq sb13 hx13 s14 k14 nDa st13 he8 hx8 eD8 st8
      -- four of them by place
      obtain ⟨d0, f0, g0⟩ := (he14 0 b0 rfl).ex
      obtain ⟨d4, f4, g4⟩ := (he14 4 b4 rfl).ex
      obtain ⟨d9, f9, g9⟩ := (he14 9 b9 rfl).ex
      obtain ⟨d11, f11, g11⟩ := (he14 11 b11 rfl).ex
      refine ⟨_, rfl, D, _, _, V.ref b0, rfl, rfl, SqL.of eD14, atI_nat (j := 0) rfl, b0, T.c 0, d0, _, x, rfl, f0, g0, T.e0.X, T.e0.nf "index" (.head _), rfl, ?_⟩
      refine ⟨_, rfl, D, _, _, V.ref b4, rfl, rfl, SqL.of eD14, atI_nat (j := 4) rfl, b4, T.c 4, d4, _, x, rfl, f4, g4, T.e4.X, T.e4.nf "index" (.head _), rfl, ?_⟩
      refine ⟨_, rfl, D, _, _, V.ref b9, rfl, rfl, SqL.of eD14, atI_nat (j := 9) rfl, b9, T.c 9, d9, _, x, rfl, f9, g9, T.e9.X, T.e9.nf "cost" (.head _), rfl, ?_⟩
      refine ⟨_, rfl, D, _, _, V.ref b11, rfl, rfl, SqL.of eD14, atI_nat (j := 11) rfl, b11, T.c 11, d11, _, x, rfl, f11, g11, T.e11.X, T.e11.nf "word" (.head _), rfl, ?_⟩
      refine ⟨(by show 4 ≤ sizeLine; decide), fun p1 hp1 => ?_⟩
      have s15 : Same H14 (upd H14 p1 (.lst [x, x, x, x])) := Same.new hp1
      have e15 : (upd H14 p1 (.lst [x, x, x, x])) p1 = some (.lst (List.replicate 4 x)) := upd_same
      generalize upd H14 p1 (.lst [x, x, x, x]) = H15 at s15 e15
      refine ⟨_, rfl, (by show 1 ≤ sizeLine; decide), fun l9 hl9 => ?_⟩
      have s16 : Same H15 (upd H15 l9 (.lst [x])) := Same.new hl9
      have e16 : (upd H15 l9 (.lst [x])) l9 = some (.lst [x]) := upd_same
      generalize upd H15 l9 (.lst [x]) = H16 at s16 e16
      refine ⟨l9, 4, _, rfl, rfl, e16, by decide, by decide, (by show 4 ≤ sizeLine; decide), fun q9 hq9 => ?_⟩
      have s17 : Same H16 (upd H16 q9 (.lst (List.replicate (4 : Int).toNat [x]).flatten)) := Same.new hq9
      have e17 : (upd H16 q9 (.lst (List.replicate (4 : Int).toNat [x]).flatten)) q9 = some (.lst (List.replicate 4 x)) := upd_same
      generalize upd H16 q9 (.lst (List.replicate (4 : Int).toNat [x]).flatten) = H17 at s17 e17
      have repl : ∀ (n i : Nat) (u v : V), (List.replicate n x)[i]? = some u → (List.replicate n x)[i]? = some v → Al K H17 8 u v := fun n i u v hu hv => by
        rw [hu] at hv
        cases hv
        have e := List.eq_of_mem_replicate (List.mem_of_getElem? hu)
        rw [e]
        exact al_refl fr
      refine ⟨.inr (.inr (.inr (.inr ⟨p1, q9, _, _, rfl, rfl, .inl ⟨SqL.of ((s16.trans s17) _ _ e15), SqL.of e17⟩, rfl, repl 4⟩))), _, rfl, iteF ?_⟩
      have st17 := st14.same (s15.trans (s16.trans s17))
      clear s15 e15 s16 e16 s17 e17 repl hp1 hl9 hq9 eD14 he14 f0 g0 f4 g4 f9 g9 f11 g11 st14
      -- the base itself
      refine fun z1 hz1 => ⟨z1, T.B, none, .ref (T.c 0), .ref (T.c 0), false, rfl, upd_same, (fun d q => by cases q), T.zB.E, hc _, T.B0, ?_⟩
      have st18 := st17.upd (o := exo z1 T.B none) hz1
      generalize upd H17 z1 (exo z1 T.B none) = H18 at st18
      refine fun z2 hz2 => ⟨z2, T.B, none, .ref (T.c 1), .ref (T.c 1), false, rfl, upd_same, (fun d q => by cases q), T.zB.E, hc _, T.B1, ?_⟩
      have st19 := st18.upd (o := exo z2 T.B none) hz2
      generalize upd H18 z2 (exo z2 T.B none) = H19 at st19
      refine ⟨(by show 2 ≤ sizeLine; decide), fun q2 hq2 => ⟨q2, [false, false], rfl, SqL.of upd_same, _, rfl, iteF ?_⟩⟩
      have st20 := st19.upd (o := .lst [V.bl false, V.bl false]) hq2
      exact ⟨_, _, _, _, _, rfl, st20.mono (by push_cast; omega)⟩
    · rintro σ H1 ⟨v2, v3, v4, v5, v6, rfl, _⟩
      exact fun e he => ⟨e, T.B, none, .ty "ValueError", .type "ValueError", true, rfl, upd_same, (fun d q => by cases q), T.zB.E, hcV, T.BV, hq _⟩
end
end Ts

set_option maxRecDepth 100000
set_option maxHeartbeats 8000000
namespace Ts
open PySem L2
theorem defAt {K : PySem.W.Frag} {h : Heap} {mg : Str → Option Value} (X : K.In h) (G : h.Ns mainGlobals mg) {x : Str} {st : Stmt} {ps : List Str} {f : Addr} {oc : Value} {od an : Option Addr} {sl : Array (Option Value)} {kV dc pm cd ct : Value}
    (a : PySem.W.nsIn K mainGlobals x = some (some (.ref f))) (l : K.lookup f = some ⟨oc, od, .func (PySem.W.fnOf x x (defArgs st) (defBody st) (defScope st) .none kV dc pm an cd ct), sl⟩) (c : PySem.W.codeIn K cd x = true) (k : PySem.W.keepIn K (.ref f) = true)
    (hb : ∀ (kV doc pm : Value) (an : Option Addr) (cdv ct : Value) (us : List Value), us.length = ps.length → bindArgs (PySem.W.fnOf x x (defArgs st) (defBody st) (defScope st) .none kV doc pm an cdv ct) ⟨us, []⟩ = pure (ps.zip us)) :
    ∃ D : DefAt K mg x st ps, ∀ (s : Shared) (us : List Value), us.length = ps.length → BindsTo s D.fd ⟨us, []⟩ (ps.zip us) :=
  ⟨⟨f, _, fun_mk l c k, (fun_mk l c k).binds hb, PySem.W.mg_of X G a⟩, fun _ us hu => .of_eq (hb _ _ _ _ _ _ us hu)⟩
theorem methAt {K : PySem.W.Frag} {C : Addr} {x q : Str} {st : Stmt} {ps : List Str} {f : Addr} {oc : Value} {od an : Option Addr} {sl : Array (Option Value)} {kV dc pm cd ct : Value}
    (a : PySem.W.findIn K (.ref C) x = some (some (.ref f))) (i : PySem.W.isFn K (.ref f) = true) (l : K.lookup f = some ⟨oc, od, .func (PySem.W.fnOf x q (defArgs st) (defBody st) (defScope st) .none kV dc pm an cd ct), sl⟩) (c : PySem.W.codeIn K cd q = true) (k : PySem.W.keepIn K (.ref f) = true)
    (hb : ∀ (kV doc pm : Value) (an : Option Addr) (cdv ct : Value) (us : List Value), us.length = ps.length → bindArgs (PySem.W.fnOf x q (defArgs st) (defBody st) (defScope st) .none kV doc pm an cdv ct) ⟨us, []⟩ = pure (ps.zip us)) :
    Nonempty (MethAt K C x q st ps) :=
  ⟨⟨f, _, fun_mk l c k, (fun_mk l c k).binds hb, ⟨a, i, k⟩⟩⟩
/-! ### the error classes as they stand -/
theorem paired_rev {xs : List V} {us : List Value} (h : Vals xs us) : Vals xs.reverse us.reverse := by
  induction h with
  | nil => exact .nil
  | cons a t ih =>
    rw [List.reverse_cons, List.reverse_cons]
    exact Vals.append ih (.cons a .nil)
/-- the class at C, as its object tells -/
def CI (K : PySem.W.Frag) (C B : Addr) (nm : Str) : Prop := (∃ cd, PySem.W.clsIn K C = some cd ∧ cd.name = nm ∧ cd.mro = .ref C :: .ref B :: veBases) ∧ PySem.W.typeIn K (.ref C) = some (.type "type")
def CB (K : PySem.W.Frag) (B : Addr) : Prop := (∃ cd, PySem.W.clsIn K B = some cd ∧ cd.name = ("BoxError" : Str) ∧ cd.mro = .ref B :: veBases) ∧ PySem.W.typeIn K (.ref B) = some (.type "type")
theorem kit_cl {K : PySem.W.Frag} {C D : Addr} {b : Bool} {cd : ClassData} (hC : PySem.W.clsIn K C = some cd) (hne : cd.mro.isEmpty = false) (iD : (PySem.W.clsIn K D).isSome = true) (tD : PySem.W.typeIn K (.ref D) = some (.type "type")) (hb : cd.mro.contains (.ref D) = b) (ne : C ≠ D) : PySem.W.kitOne K (.ref C) (.ref D) = some b := by
  unfold PySem.W.kitOne
  rw [if_neg (by simpa using ne)]
  have e : ((PySem.W.clsIn K D).isSome && PySem.W.typeIn K (.ref D) == some (.type "type")) = true := by
    rw [iD, tD]
    simp
  show (if ((PySem.W.clsIn K D).isSome && PySem.W.typeIn K (.ref D) == some (.type "type")) = true then PySem.W.subIn K (.ref C) (.ref D) else none) = some b
  rw [if_pos e]
  show PySem.W.mroIn K C (.ref D) = some b
  unfold PySem.W.mroIn
  rw [hC, Option.bind_some, if_neg (by rw [hne]; decide), hb]
theorem kit_self {K : PySem.W.Frag} {C : Addr} : PySem.W.kitOne K (.ref C) (.ref C) = some true := by
  unfold PySem.W.kitOne
  rw [if_pos (by simp)]
theorem ci_ne {K : PySem.W.Frag} {C D B : Addr} {n m : Str} (hC : CI K C B n) (hD : CI K D B m) (ne : n ≠ m) : C ≠ D := fun e => by
  obtain ⟨⟨c1, h1, h2, _⟩, _⟩ := hC
  obtain ⟨⟨c2, h3, h4, _⟩, _⟩ := hD
  rw [e, h3] at h1
  cases h1
  exact ne (h2.symm.trans h4)
theorem ci_neB {K : PySem.W.Frag} {C B : Addr} {n : Str} (hC : CI K C B n) (hB : CB K B) (ne : n ≠ "BoxError") : C ≠ B := fun e => by
  obtain ⟨⟨c1, h1, h2, _⟩, _⟩ := hC
  obtain ⟨⟨c2, h3, h4, _⟩, _⟩ := hB
  rw [e, h3] at h1
  cases h1
  exact ne (h2.symm.trans h4)
theorem ci_M {K : PySem.W.Frag} {C D B : Addr} {n m : Str} (hC : CI K C B n) (hD : CI K D B m) (hB : CB K B) (ne : n ≠ m) (nb : m ≠ "BoxError") : PySem.W.kitOne K (.ref C) (.ref D) = some false := by
  have n1 := ci_ne hC hD ne
  have n2 := ci_neB hD hB nb
  obtain ⟨⟨c1, h1, h2, h3⟩, _⟩ := hC
  obtain ⟨⟨c2, h4, _, _⟩, h5⟩ := hD
  refine kit_cl h1 (by rw [h3]; rfl) (by rw [h4]; rfl) h5 ?_ n1
  rw [h3]
  simp [veBases, Ne.symm n1, n2]
theorem ci_B {K : PySem.W.Frag} {C B : Addr} {n : Str} (hC : CI K C B n) (hB : CB K B) (ne : n ≠ "BoxError") : PySem.W.kitOne K (.ref C) (.ref B) = some true := by
  have n1 := ci_neB hC hB ne
  obtain ⟨⟨c1, h1, h2, h3⟩, _⟩ := hC
  obtain ⟨⟨c2, h4, _, _⟩, h5⟩ := hB
  refine kit_cl h1 (by rw [h3]; rfl) (by rw [h4]; rfl) h5 ?_ n1
  rw [h3]
  simp
theorem cb_M {K : PySem.W.Frag} {D B : Addr} {m : Str} (hD : CI K D B m) (hB : CB K B) (nb : m ≠ "BoxError") : PySem.W.kitOne K (.ref B) (.ref D) = some false := by
  have n2 := ci_neB hD hB nb
  obtain ⟨⟨c1, h1, h2, h3⟩, _⟩ := hB
  obtain ⟨⟨c2, h4, _, _⟩, h5⟩ := hD
  refine kit_cl h1 (by rw [h3]; rfl) (by rw [h4]; rfl) h5 ?_ (Ne.symm n2)
  rw [h3]
  simp [veBases, n2]
theorem kit_ve {K : PySem.W.Frag} {C : Addr} {cd : ClassData} (hC : PySem.W.clsIn K C = some cd) (hne : cd.mro.isEmpty = false) (hb : cd.mro.contains (.type "ValueError") = true) : PySem.W.kitOne K (.ref C) (.type "ValueError") = some true := by
  unfold PySem.W.kitOne
  rw [if_neg (by simp)]
  show (if PySem.W.kitMeta "ValueError" = true then PySem.W.subIn K (.ref C) (.type "ValueError") else none) = some true
  rw [if_pos (by decide +kernel)]
  show PySem.W.mroIn K C (.type "ValueError") = some true
  unfold PySem.W.mroIn
  rw [hC, Option.bind_some, if_neg (by rw [hne]; decide), hb]
theorem ci_V {K : PySem.W.Frag} {C B : Addr} {n : Str} (hC : CI K C B n) : PySem.W.kitOne K (.ref C) (.type "ValueError") = some true := by
  obtain ⟨⟨c1, h1, h2, h3⟩, _⟩ := hC
  exact kit_ve h1 (by rw [h3]; rfl) (by rw [h3]; simp [veBases])
theorem cb_V {K : PySem.W.Frag} {B : Addr} (hB : CB K B) : PySem.W.kitOne K (.ref B) (.type "ValueError") = some true := by
  obtain ⟨⟨c1, h1, h2, h3⟩, _⟩ := hB
  exact kit_ve h1 (by rw [h3]; rfl) (by rw [h3]; simp [veBases])
/-- an error class with an own __init__, as it stands -/
structure ErU (K : PySem.W.Frag) (mg : Str → Option Value) (C B : Addr) (nm iq : Str) (st : Stmt) (ps : List Str) where
  O : OexC K C
  X : XfC K C
  E : ExcC K C
  nf : ∀ p ∈ ps, PySem.W.findIn K (.ref C) p = some none
  g : mg nm = some (.ref C)
  f : Addr
  fd : FuncData
  i : PySem.W.findIn K (.ref C) "__init__" = some (some (.ref f))
  t : PySem.W.typeIn K (.ref f) = some (.type "function")
  F : Fun K "__init__" iq st f fd
  b : Binds K fd ("self" :: ps) []
  kb : KBn K fd ("self" :: ps) 1 ps.reverse (fun us ws => us ++ ws.reverse) (fun vs zs => vs ++ zs.reverse)
  ci : CI K C B nm
def ErU.to {P : Program} {w : World} {K : PySem.W.Frag} {mg : Str → Option Value} {base : Heap} {C B : Addr} {nm iq : Str} {st : Stmt} {ps : List Str} {sp : Sp} (U : ErU K mg C B nm iq st ps) (h : FnOk P w K mg base CX0 2 U.f U.fd ("self" :: ps) sp) : ErV P w K mg base C nm ps sp :=
  ⟨U.O, U.X, U.E, U.nf, U.g, U.f, U.fd, U.i, U.t, h, U.b, U.kb⟩
theorem erU {K : PySem.W.Frag} {h : Heap} {mg : Str → Option Value} (X : K.In h) (G : h.Ns mainGlobals mg) {E BE f : Addr} {cn iq : Str} {st : Stmt} {ps : List Str} {q : Str} {N : Addr} {bs : List Value} {sn : List Str} {sub : List Value} {ab : Bool} {col : Option Bool} {dd : Option Addr} {m0 m1 m2 m3 m5 : Option Value}
    {od an : Option Addr} {sl : Array (Option Value)} {oc kV dc pm cd ct : Value}
    (aC : PySem.W.nsIn K mainGlobals cn = some (some (.ref E))) (aB : PySem.W.nsIn K mainGlobals "BoxError" = some (some (.ref BE)))
    (xL : K.lookup E = some (excClassObj cn q E N bs [.ref BE, .type "ValueError", .type "Exception", .type "BaseException", .type "object"] true sn sub ab col dd m0 m1 m2 m3 m5 "ValueError.__new__"))
    (sa : PySem.W.findIn K (.ref E) "__setattr__" = some (some (.builtin "object.__setattr__"))) (ga : PySem.W.findIn K (.ref E) "__getattribute__" = some (some (.builtin "BaseException.__getattribute__"))) (gg : PySem.W.findIn K (.ref E) "__getattr__" = some none) (nf : ∀ p ∈ ps, PySem.W.findIn K (.ref E) p = some none)
    (a1 : PySem.W.findIn K (.ref E) "__init__" = some (some (.ref f))) (t1 : PySem.W.typeIn K (.ref f) = some (.type "function"))
    (l1 : K.lookup f = some ⟨oc, od, .func (PySem.W.fnOf "__init__" iq (defArgs st) (defBody st) (defScope st) .none kV dc pm an cd ct), sl⟩) (c1 : PySem.W.codeIn K cd iq = true) (k1 : PySem.W.keepIn K (.ref f) = true)
    (kC : PySem.W.keepIn K (.ref E) = true) (eC : PySem.W.subIn K (.ref E) (.type "BaseException") = some true) (tC : PySem.W.typeIn K (.ref E) = some (.type "type")) (hC : PySem.W.hasDictIn K E = true)
    (ha : PySem.W.findIn K (.ref E) "__class__" = some (some (.builtin "object.__class__"))) (hn : PySem.W.specialIn K (.builtin "object.__class__") "__get__" = some (some (.builtin "getset_descriptor.__get__"))) (ht : PySem.W.takesIn K (.builtin "object.__class__") = some true) (hm : PySem.W.mroIn K E (.type "object") = some true)
    (hb : ∀ (kV doc pm : Value) (an : Option Addr) (cdv ct : Value) (us : List Value), us.length = (("self" : Str) :: ps).length → bindArgs (PySem.W.fnOf "__init__" iq (defArgs st) (defBody st) (defScope st) .none kV doc pm an cdv ct) ⟨us, []⟩ = pure ((("self" : Str) :: ps).zip us))
    (hkb : ∀ (kV doc pm : Value) (an : Option Addr) (cdv ct : Value) (us ws : List Value), us.length = 1 → ws.length = ps.reverse.length → bindArgs (PySem.W.fnOf "__init__" iq (defArgs st) (defBody st) (defScope st) .none kV doc pm an cdv ct) ⟨us, ps.reverse.zip ws⟩ = pure ((("self" : Str) :: ps).zip (us ++ ws.reverse))) :
    ∃ C B : Addr, Nonempty (ErU K mg C B cn iq st ps) ∧ mg "BoxError" = some (.ref B) :=
  ⟨E, BE, ⟨⟨⟨⟨cn, q, N, bs, _, sn, sub, ab, col, dd, m0, m1, m2, m3, m5, xL, rfl⟩, sa, eC, tC, kC⟩, ⟨ga, gg, eC, hC⟩, ⟨ga, gg, eC, hC, ha, hn, ht, hm⟩, nf, PySem.W.mg_of X G aC, f, _, a1, t1, fun_mk l1 c1 k1, (fun_mk l1 c1 k1).binds hb, ⟨fun s us ws _ e1 e2 => .of_eq (hkb _ _ _ _ _ _ us ws e1 e2), fun r1 r2 => r1.append (paired_rev r2)⟩,
    ⟨⟨_, by unfold PySem.W.clsIn; rw [xL] <;> rfl, rfl, rfl⟩, tC⟩⟩⟩, PySem.W.mg_of X G aB⟩
theorem erZ {K : PySem.W.Frag} {h : Heap} {mg : Str → Option Value} (X : K.In h) (G : h.Ns mainGlobals mg) {E BE : Addr} {cn : Str} {q : Str} {N : Addr} {bs : List Value} {sn : List Str} {sub : List Value} {ab : Bool} {col : Option Bool} {dd : Option Addr} {m0 m1 m2 m3 m5 : Option Value}
    (aC : PySem.W.nsIn K mainGlobals cn = some (some (.ref E))) (aB : PySem.W.nsIn K mainGlobals "BoxError" = some (some (.ref BE)))
    (xL : K.lookup E = some (excClassObj cn q E N bs [.ref BE, .type "ValueError", .type "Exception", .type "BaseException", .type "object"] true sn sub ab col dd m0 m1 m2 m3 m5 "ValueError.__new__"))
    (xq : PySem.W.excIn K E veBases "ValueError.__new__" = true) (kC : PySem.W.keepIn K (.ref E) = true) (ga : PySem.W.findIn K (.ref E) "__getattribute__" = some (some (.builtin "BaseException.__getattribute__"))) (gg : PySem.W.findIn K (.ref E) "__getattr__" = some none)
    (eC : PySem.W.subIn K (.ref E) (.type "BaseException") = some true) (tC : PySem.W.typeIn K (.ref E) = some (.type "type")) (hC : PySem.W.hasDictIn K E = true)
    (ha : PySem.W.findIn K (.ref E) "__class__" = some (some (.builtin "object.__class__"))) (hn : PySem.W.specialIn K (.builtin "object.__class__") "__get__" = some (some (.builtin "getset_descriptor.__get__"))) (ht : PySem.W.takesIn K (.builtin "object.__class__") = some true) (hm : PySem.W.mroIn K E (.type "object") = some true) :
    ∃ C B : Addr, ErZ K mg C cn ∧ CI K C B cn ∧ mg "BoxError" = some (.ref B) :=
  ⟨E, BE, ⟨⟨ga, gg, eC, hC, ha, hn, ht, hm⟩, xq, kC, PySem.W.mg_of X G aC⟩, ⟨⟨_, by unfold PySem.W.clsIn; rw [xL] <;> rfl, rfl, rfl⟩, tC⟩, PySem.W.mg_of X G aB⟩
theorem erB {K : PySem.W.Frag} {h : Heap} {mg : Str → Option Value} (X : K.In h) (G : h.Ns mainGlobals mg) {E : Addr} {q : Str} {N : Addr} {bs : List Value} {sn : List Str} {sub : List Value} {ab : Bool} {col : Option Bool} {dd : Option Addr} {m0 m1 m2 m3 m5 : Option Value}
    (aC : PySem.W.nsIn K mainGlobals "BoxError" = some (some (.ref E)))
    (xL : K.lookup E = some (excClassObj "BoxError" q E N bs [.type "ValueError", .type "Exception", .type "BaseException", .type "object"] true sn sub ab col dd m0 m1 m2 m3 m5 "ValueError.__new__"))
    (xq : PySem.W.excIn K E veBases "ValueError.__new__" = true) (kC : PySem.W.keepIn K (.ref E) = true) (ga : PySem.W.findIn K (.ref E) "__getattribute__" = some (some (.builtin "BaseException.__getattribute__"))) (gg : PySem.W.findIn K (.ref E) "__getattr__" = some none)
    (eC : PySem.W.subIn K (.ref E) (.type "BaseException") = some true) (tC : PySem.W.typeIn K (.ref E) = some (.type "type")) (hC : PySem.W.hasDictIn K E = true)
    (ha : PySem.W.findIn K (.ref E) "__class__" = some (some (.builtin "object.__class__"))) (hn : PySem.W.specialIn K (.builtin "object.__class__") "__get__" = some (some (.builtin "getset_descriptor.__get__"))) (ht : PySem.W.takesIn K (.builtin "object.__class__") = some true) (hm : PySem.W.mroIn K E (.type "object") = some true) :
    ∃ B : Addr, ErZ K mg B "BoxError" ∧ CB K B :=
  ⟨E, ⟨⟨ga, gg, eC, hC, ha, hn, ht, hm⟩, xq, kC, PySem.W.mg_of X G aC⟩, ⟨⟨_, by unfold PySem.W.clsIn; rw [xL] <;> rfl, rfl, rfl⟩, tC⟩⟩
theorem same_ref {mg : Str → Option Value} {x : Str} {A B : Addr} (h1 : mg x = some (.ref A)) (h2 : mg x = some (.ref B)) : A = B := by
  rw [h1] at h2
  cases h2
  rfl
theorem sc_BadRow_init : FnScope ["self", "index"] ["self", "index"] (defScope s_BadRow_init) := ⟨rfl, rfl, rfl, by decide +kernel, rfl, by decide +kernel, by decide +kernel⟩
theorem ok_BadRow_init {P : Program} {w : World} {K : PySem.W.Frag} {mg : Str → Option Value} {base : Heap} {CC : Addr} {f : Addr} {fd : FuncData} (F : Fun K "__init__" "BadRow.__init__" s_BadRow_init f fd) (O : OexC K CC) (nf : ∀ p ∈ (["index"] : List Str), PySem.W.findIn K (.ref CC) p = some none) : FnOk P w K mg base CX0 2 f fd ["self", "index"] (spErr1 CC "index") := by
  refine F.ok sc_BadRow_init (fun vs H Q E h => ?_) (fun cdv A outer s H vs Q E hr h => ?_)
  · obtain ⟨a, x, rfl, _⟩ := h
    rfl
  · obtain ⟨a, x, rfl, ha, hq⟩ := h
    refine ⟨_, pss_one (ps_ost (pv 0) (pv 1)), ?_⟩
    exact ⟨_, rfl, _, rfl, a, CC, rfl, O, nf _ (.head _), .inl ⟨ha, fun d hd ne => hq d hd ne⟩⟩
theorem sc_NoBox_init : FnScope ["self", "box"] ["self", "box"] (defScope s_NoBox_init) := ⟨rfl, rfl, rfl, by decide +kernel, rfl, by decide +kernel, by decide +kernel⟩
theorem ok_NoBox_init {P : Program} {w : World} {K : PySem.W.Frag} {mg : Str → Option Value} {base : Heap} {CC : Addr} {f : Addr} {fd : FuncData} (F : Fun K "__init__" "NoBox.__init__" s_NoBox_init f fd) (O : OexC K CC) (nf : ∀ p ∈ (["box"] : List Str), PySem.W.findIn K (.ref CC) p = some none) : FnOk P w K mg base CX0 2 f fd ["self", "box"] (spErr1 CC "box") := by
  refine F.ok sc_NoBox_init (fun vs H Q E h => ?_) (fun cdv A outer s H vs Q E hr h => ?_)
  · obtain ⟨a, x, rfl, _⟩ := h
    rfl
  · obtain ⟨a, x, rfl, ha, hq⟩ := h
    refine ⟨_, pss_one (ps_ost (pv 0) (pv 1)), ?_⟩
    exact ⟨_, rfl, _, rfl, a, CC, rfl, O, nf _ (.head _), .inl ⟨ha, fun d hd ne => hq d hd ne⟩⟩
theorem sc_NotShut_init : FnScope ["self", "box"] ["self", "box"] (defScope s_NotShut_init) := ⟨rfl, rfl, rfl, by decide +kernel, rfl, by decide +kernel, by decide +kernel⟩
theorem ok_NotShut_init {P : Program} {w : World} {K : PySem.W.Frag} {mg : Str → Option Value} {base : Heap} {CC : Addr} {f : Addr} {fd : FuncData} (F : Fun K "__init__" "NotShut.__init__" s_NotShut_init f fd) (O : OexC K CC) (nf : ∀ p ∈ (["box"] : List Str), PySem.W.findIn K (.ref CC) p = some none) : FnOk P w K mg base CX0 2 f fd ["self", "box"] (spErr1 CC "box") := by
  refine F.ok sc_NotShut_init (fun vs H Q E h => ?_) (fun cdv A outer s H vs Q E hr h => ?_)
  · obtain ⟨a, x, rfl, _⟩ := h
    rfl
  · obtain ⟨a, x, rfl, ha, hq⟩ := h
    refine ⟨_, pss_one (ps_ost (pv 0) (pv 1)), ?_⟩
    exact ⟨_, rfl, _, rfl, a, CC, rfl, O, nf _ (.head _), .inl ⟨ha, fun d hd ne => hq d hd ne⟩⟩
theorem sc_Locked_init : FnScope ["self", "box"] ["self", "box"] (defScope s_Locked_init) := ⟨rfl, rfl, rfl, by decide +kernel, rfl, by decide +kernel, by decide +kernel⟩
theorem ok_Locked_init {P : Program} {w : World} {K : PySem.W.Frag} {mg : Str → Option Value} {base : Heap} {CC : Addr} {f : Addr} {fd : FuncData} (F : Fun K "__init__" "Locked.__init__" s_Locked_init f fd) (O : OexC K CC) (nf : ∀ p ∈ (["box"] : List Str), PySem.W.findIn K (.ref CC) p = some none) : FnOk P w K mg base CX0 2 f fd ["self", "box"] (spErr1 CC "box") := by
  refine F.ok sc_Locked_init (fun vs H Q E h => ?_) (fun cdv A outer s H vs Q E hr h => ?_)
  · obtain ⟨a, x, rfl, _⟩ := h
    rfl
  · obtain ⟨a, x, rfl, ha, hq⟩ := h
    refine ⟨_, pss_one (ps_ost (pv 0) (pv 1)), ?_⟩
    exact ⟨_, rfl, _, rfl, a, CC, rfl, O, nf _ (.head _), .inl ⟨ha, fun d hd ne => hq d hd ne⟩⟩
theorem sc_BadDeed_init : FnScope ["self", "index"] ["self", "index"] (defScope s_BadDeed_init) := ⟨rfl, rfl, rfl, by decide +kernel, rfl, by decide +kernel, by decide +kernel⟩
theorem ok_BadDeed_init {P : Program} {w : World} {K : PySem.W.Frag} {mg : Str → Option Value} {base : Heap} {CC : Addr} {f : Addr} {fd : FuncData} (F : Fun K "__init__" "BadDeed.__init__" s_BadDeed_init f fd) (O : OexC K CC) (nf : ∀ p ∈ (["index"] : List Str), PySem.W.findIn K (.ref CC) p = some none) : FnOk P w K mg base CX0 2 f fd ["self", "index"] (spErr1 CC "index") := by
  refine F.ok sc_BadDeed_init (fun vs H Q E h => ?_) (fun cdv A outer s H vs Q E hr h => ?_)
  · obtain ⟨a, x, rfl, _⟩ := h
    rfl
  · obtain ⟨a, x, rfl, ha, hq⟩ := h
    refine ⟨_, pss_one (ps_ost (pv 0) (pv 1)), ?_⟩
    exact ⟨_, rfl, _, rfl, a, CC, rfl, O, nf _ (.head _), .inl ⟨ha, fun d hd ne => hq d hd ne⟩⟩
theorem sc_Clash_init : FnScope ["self", "box"] ["self", "box"] (defScope s_Clash_init) := ⟨rfl, rfl, rfl, by decide +kernel, rfl, by decide +kernel, by decide +kernel⟩
theorem ok_Clash_init {P : Program} {w : World} {K : PySem.W.Frag} {mg : Str → Option Value} {base : Heap} {CC : Addr} {f : Addr} {fd : FuncData} (F : Fun K "__init__" "Clash.__init__" s_Clash_init f fd) (O : OexC K CC) (nf : ∀ p ∈ (["box"] : List Str), PySem.W.findIn K (.ref CC) p = some none) : FnOk P w K mg base CX0 2 f fd ["self", "box"] (spErr1 CC "box") := by
  refine F.ok sc_Clash_init (fun vs H Q E h => ?_) (fun cdv A outer s H vs Q E hr h => ?_)
  · obtain ⟨a, x, rfl, _⟩ := h
    rfl
  · obtain ⟨a, x, rfl, ha, hq⟩ := h
    refine ⟨_, pss_one (ps_ost (pv 0) (pv 1)), ?_⟩
    exact ⟨_, rfl, _, rfl, a, CC, rfl, O, nf _ (.head _), .inl ⟨ha, fun d hd ne => hq d hd ne⟩⟩
theorem sc_BadRule_init : FnScope ["self", "rule"] ["self", "rule"] (defScope s_BadRule_init) := ⟨rfl, rfl, rfl, by decide +kernel, rfl, by decide +kernel, by decide +kernel⟩
theorem ok_BadRule_init {P : Program} {w : World} {K : PySem.W.Frag} {mg : Str → Option Value} {base : Heap} {CC : Addr} {f : Addr} {fd : FuncData} (F : Fun K "__init__" "BadRule.__init__" s_BadRule_init f fd) (O : OexC K CC) (nf : ∀ p ∈ (["rule"] : List Str), PySem.W.findIn K (.ref CC) p = some none) : FnOk P w K mg base CX0 2 f fd ["self", "rule"] (spErr1 CC "rule") := by
  refine F.ok sc_BadRule_init (fun vs H Q E h => ?_) (fun cdv A outer s H vs Q E hr h => ?_)
  · obtain ⟨a, x, rfl, _⟩ := h
    rfl
  · obtain ⟨a, x, rfl, ha, hq⟩ := h
    refine ⟨_, pss_one (ps_ost (pv 0) (pv 1)), ?_⟩
    exact ⟨_, rfl, _, rfl, a, CC, rfl, O, nf _ (.head _), .inl ⟨ha, fun d hd ne => hq d hd ne⟩⟩
theorem sc_BadWish_init : FnScope ["self", "box"] ["self", "box"] (defScope s_BadWish_init) := ⟨rfl, rfl, rfl, by decide +kernel, rfl, by decide +kernel, by decide +kernel⟩
theorem ok_BadWish_init {P : Program} {w : World} {K : PySem.W.Frag} {mg : Str → Option Value} {base : Heap} {CC : Addr} {f : Addr} {fd : FuncData} (F : Fun K "__init__" "BadWish.__init__" s_BadWish_init f fd) (O : OexC K CC) (nf : ∀ p ∈ (["box"] : List Str), PySem.W.findIn K (.ref CC) p = some none) : FnOk P w K mg base CX0 2 f fd ["self", "box"] (spErr1 CC "box") := by
  refine F.ok sc_BadWish_init (fun vs H Q E h => ?_) (fun cdv A outer s H vs Q E hr h => ?_)
  · obtain ⟨a, x, rfl, _⟩ := h
    rfl
  · obtain ⟨a, x, rfl, ha, hq⟩ := h
    refine ⟨_, pss_one (ps_ost (pv 0) (pv 1)), ?_⟩
    exact ⟨_, rfl, _, rfl, a, CC, rfl, O, nf _ (.head _), .inl ⟨ha, fun d hd ne => hq d hd ne⟩⟩
theorem sc_BadNumber_init : FnScope ["self", "number"] ["self", "number"] (defScope s_BadNumber_init) := ⟨rfl, rfl, rfl, by decide +kernel, rfl, by decide +kernel, by decide +kernel⟩
theorem ok_BadNumber_init {P : Program} {w : World} {K : PySem.W.Frag} {mg : Str → Option Value} {base : Heap} {CC : Addr} {f : Addr} {fd : FuncData} (F : Fun K "__init__" "BadNumber.__init__" s_BadNumber_init f fd) (O : OexC K CC) (nf : ∀ p ∈ (["number"] : List Str), PySem.W.findIn K (.ref CC) p = some none) : FnOk P w K mg base CX0 2 f fd ["self", "number"] (spErr1 CC "number") := by
  refine F.ok sc_BadNumber_init (fun vs H Q E h => ?_) (fun cdv A outer s H vs Q E hr h => ?_)
  · obtain ⟨a, x, rfl, _⟩ := h
    rfl
  · obtain ⟨a, x, rfl, ha, hq⟩ := h
    refine ⟨_, pss_one (ps_ost (pv 0) (pv 1)), ?_⟩
    exact ⟨_, rfl, _, rfl, a, CC, rfl, O, nf _ (.head _), .inl ⟨ha, fun d hd ne => hq d hd ne⟩⟩
theorem sc_TooDear_init : FnScope ["self", "cost"] ["self", "cost"] (defScope s_TooDear_init) := ⟨rfl, rfl, rfl, by decide +kernel, rfl, by decide +kernel, by decide +kernel⟩
theorem ok_TooDear_init {P : Program} {w : World} {K : PySem.W.Frag} {mg : Str → Option Value} {base : Heap} {CC : Addr} {f : Addr} {fd : FuncData} (F : Fun K "__init__" "TooDear.__init__" s_TooDear_init f fd) (O : OexC K CC) (nf : ∀ p ∈ (["cost"] : List Str), PySem.W.findIn K (.ref CC) p = some none) : FnOk P w K mg base CX0 2 f fd ["self", "cost"] (spErr1 CC "cost") := by
  refine F.ok sc_TooDear_init (fun vs H Q E h => ?_) (fun cdv A outer s H vs Q E hr h => ?_)
  · obtain ⟨a, x, rfl, _⟩ := h
    rfl
  · obtain ⟨a, x, rfl, ha, hq⟩ := h
    refine ⟨_, pss_one (ps_ost (pv 0) (pv 1)), ?_⟩
    exact ⟨_, rfl, _, rfl, a, CC, rfl, O, nf _ (.head _), .inl ⟨ha, fun d hd ne => hq d hd ne⟩⟩
theorem sc_BadRange_init : FnScope ["self", "box"] ["self", "box"] (defScope s_BadRange_init) := ⟨rfl, rfl, rfl, by decide +kernel, rfl, by decide +kernel, by decide +kernel⟩
theorem ok_BadRange_init {P : Program} {w : World} {K : PySem.W.Frag} {mg : Str → Option Value} {base : Heap} {CC : Addr} {f : Addr} {fd : FuncData} (F : Fun K "__init__" "BadRange.__init__" s_BadRange_init f fd) (O : OexC K CC) (nf : ∀ p ∈ (["box"] : List Str), PySem.W.findIn K (.ref CC) p = some none) : FnOk P w K mg base CX0 2 f fd ["self", "box"] (spErr1 CC "box") := by
  refine F.ok sc_BadRange_init (fun vs H Q E h => ?_) (fun cdv A outer s H vs Q E hr h => ?_)
  · obtain ⟨a, x, rfl, _⟩ := h
    rfl
  · obtain ⟨a, x, rfl, ha, hq⟩ := h
    refine ⟨_, pss_one (ps_ost (pv 0) (pv 1)), ?_⟩
    exact ⟨_, rfl, _, rfl, a, CC, rfl, O, nf _ (.head _), .inl ⟨ha, fun d hd ne => hq d hd ne⟩⟩
theorem sc_BadTable_init : FnScope ["self", "word"] ["self", "word"] (defScope s_BadTable_init) := ⟨rfl, rfl, rfl, by decide +kernel, rfl, by decide +kernel, by decide +kernel⟩
theorem ok_BadTable_init {P : Program} {w : World} {K : PySem.W.Frag} {mg : Str → Option Value} {base : Heap} {CC : Addr} {f : Addr} {fd : FuncData} (F : Fun K "__init__" "BadTable.__init__" s_BadTable_init f fd) (O : OexC K CC) (nf : ∀ p ∈ (["word"] : List Str), PySem.W.findIn K (.ref CC) p = some none) : FnOk P w K mg base CX0 2 f fd ["self", "word"] (spErr1 CC "word") := by
  refine F.ok sc_BadTable_init (fun vs H Q E h => ?_) (fun cdv A outer s H vs Q E hr h => ?_)
  · obtain ⟨a, x, rfl, _⟩ := h
    rfl
  · obtain ⟨a, x, rfl, ha, hq⟩ := h
    refine ⟨_, pss_one (ps_ost (pv 0) (pv 1)), ?_⟩
    exact ⟨_, rfl, _, rfl, a, CC, rfl, O, nf _ (.head _), .inl ⟨ha, fun d hd ne => hq d hd ne⟩⟩
theorem sc_NotSure_init : FnScope ["self", "box"] ["self", "box"] (defScope s_NotSure_init) := ⟨rfl, rfl, rfl, by decide +kernel, rfl, by decide +kernel, by decide +kernel⟩
theorem ok_NotSure_init {P : Program} {w : World} {K : PySem.W.Frag} {mg : Str → Option Value} {base : Heap} {CC : Addr} {f : Addr} {fd : FuncData} (F : Fun K "__init__" "NotSure.__init__" s_NotSure_init f fd) (O : OexC K CC) (nf : ∀ p ∈ (["box"] : List Str), PySem.W.findIn K (.ref CC) p = some none) : FnOk P w K mg base CX0 2 f fd ["self", "box"] (spErr1 CC "box") := by
  refine F.ok sc_NotSure_init (fun vs H Q E h => ?_) (fun cdv A outer s H vs Q E hr h => ?_)
  · obtain ⟨a, x, rfl, _⟩ := h
    rfl
  · obtain ⟨a, x, rfl, ha, hq⟩ := h
    refine ⟨_, pss_one (ps_ost (pv 0) (pv 1)), ?_⟩
    exact ⟨_, rfl, _, rfl, a, CC, rfl, O, nf _ (.head _), .inl ⟨ha, fun d hd ne => hq d hd ne⟩⟩
theorem sc_BadLine_init : FnScope ["self", "index"] ["self", "index"] (defScope s_BadLine_init) := ⟨rfl, rfl, rfl, by decide +kernel, rfl, by decide +kernel, by decide +kernel⟩
theorem ok_BadLine_init {P : Program} {w : World} {K : PySem.W.Frag} {mg : Str → Option Value} {base : Heap} {CC : Addr} {f : Addr} {fd : FuncData} (F : Fun K "__init__" "BadLine.__init__" s_BadLine_init f fd) (O : OexC K CC) (nf : ∀ p ∈ (["index"] : List Str), PySem.W.findIn K (.ref CC) p = some none) : FnOk P w K mg base CX0 2 f fd ["self", "index"] (spErr1 CC "index") := by
  refine F.ok sc_BadLine_init (fun vs H Q E h => ?_) (fun cdv A outer s H vs Q E hr h => ?_)
  · obtain ⟨a, x, rfl, _⟩ := h
    rfl
  · obtain ⟨a, x, rfl, ha, hq⟩ := h
    refine ⟨_, pss_one (ps_ost (pv 0) (pv 1)), ?_⟩
    exact ⟨_, rfl, _, rfl, a, CC, rfl, O, nf _ (.head _), .inl ⟨ha, fun d hd ne => hq d hd ne⟩⟩
theorem sc_BadMove_init : FnScope ["self", "box", "into"] ["self", "box", "into"] (defScope s_BadMove_init) := ⟨rfl, rfl, rfl, by decide +kernel, rfl, by decide +kernel, by decide +kernel⟩
theorem ok_BadMove_init {P : Program} {w : World} {K : PySem.W.Frag} {mg : Str → Option Value} {base : Heap} {CC : Addr} {f : Addr} {fd : FuncData} (F : Fun K "__init__" "BadMove.__init__" s_BadMove_init f fd) (O : OexC K CC) (nf : ∀ p ∈ (["box", "into"] : List Str), PySem.W.findIn K (.ref CC) p = some none) : FnOk P w K mg base CX0 2 f fd ["self", "box", "into"] (spErr2 CC "box" "into") := by
  refine F.ok sc_BadMove_init (fun vs H Q E h => ?_) (fun cdv A outer s H vs Q E hr h => ?_)
  · obtain ⟨a, x, y, rfl, _⟩ := h
    rfl
  · obtain ⟨a, x, y, rfl, ha, hq⟩ := h
    refine ⟨_, pss_cons (ps_ost (pv 0) (pv 1)) (pss_one (ps_ost (pv 0) (pv 2))), ?_⟩
    refine ⟨_, rfl, _, rfl, a, CC, rfl, O, nf _ (.head _), .inl ⟨ha, fun d hd ne => ?_⟩⟩
    exact ⟨_, rfl, _, rfl, a, CC, rfl, O, nf _ (.tail _ (.head _)), .inr ⟨d, _, upd_same, by rw [upd_ne ne]; exact upd_same, (by show 1 ≤ 900; decide), hq d hd ne⟩⟩
theorem sc_Barred_init : FnScope ["self", "one", "other"] ["self", "one", "other"] (defScope s_Barred_init) := ⟨rfl, rfl, rfl, by decide +kernel, rfl, by decide +kernel, by decide +kernel⟩
theorem ok_Barred_init {P : Program} {w : World} {K : PySem.W.Frag} {mg : Str → Option Value} {base : Heap} {CC : Addr} {f : Addr} {fd : FuncData} (F : Fun K "__init__" "Barred.__init__" s_Barred_init f fd) (O : OexC K CC) (nf : ∀ p ∈ (["one", "other"] : List Str), PySem.W.findIn K (.ref CC) p = some none) : FnOk P w K mg base CX0 2 f fd ["self", "one", "other"] (spErr2 CC "one" "other") := by
  refine F.ok sc_Barred_init (fun vs H Q E h => ?_) (fun cdv A outer s H vs Q E hr h => ?_)
  · obtain ⟨a, x, y, rfl, _⟩ := h
    rfl
  · obtain ⟨a, x, y, rfl, ha, hq⟩ := h
    refine ⟨_, pss_cons (ps_ost (pv 0) (pv 1)) (pss_one (ps_ost (pv 0) (pv 2))), ?_⟩
    refine ⟨_, rfl, _, rfl, a, CC, rfl, O, nf _ (.head _), .inl ⟨ha, fun d hd ne => ?_⟩⟩
    exact ⟨_, rfl, _, rfl, a, CC, rfl, O, nf _ (.tail _ (.head _)), .inr ⟨d, _, upd_same, by rw [upd_ne ne]; exact upd_same, (by show 1 ≤ 900; decide), hq d hd ne⟩⟩
def nmT : Nat → Str
  | 0 => "BadRow"
  | 1 => "NoBox"
  | 2 => "NotShut"
  | 3 => "Locked"
  | 4 => "BadDeed"
  | 5 => "Clash"
  | 6 => "BadRule"
  | 7 => "BadWish"
  | 8 => "BadNumber"
  | 9 => "TooDear"
  | 10 => "BadRange"
  | 11 => "BadTable"
  | 12 => "NotSure"
  | 13 => "BadLine"
  | 14 => "BadMove"
  | 15 => "Barred"
  | 16 => "BadDefault"
  | 17 => "UnlikeTrees"
  | 18 => "LockedTree"
  | _ => "BoxError"
theorem nm_ne : ∀ i, i < 19 → ∀ j, j < 19 → i ≠ j → nmT i ≠ nmT j := by decide +kernel
theorem nm_box : ∀ i, i < 19 → nmT i ≠ "BoxError" := by decide +kernel
theorem freeAll {K : PySem.W.Frag} {h : Heap} {mg : Str → Option Value} (X : K.In h) (G : h.Ns mainGlobals mg)
    (z0 : PySem.W.nsIn K mainGlobals "len" = some none) (z1 : PySem.W.nsIn K mainGlobals "abs" = some none) (z2 : PySem.W.nsIn K mainGlobals "int" = some none) (z3 : PySem.W.nsIn K mainGlobals "str" = some none) (z4 : PySem.W.nsIn K mainGlobals "bool" = some none) (z5 : PySem.W.nsIn K mainGlobals "list" = some none) (z6 : PySem.W.nsIn K mainGlobals "tuple" = some none) (z7 : PySem.W.nsIn K mainGlobals "dict" = some none) (z8 : PySem.W.nsIn K mainGlobals "range" = some none) (z9 : PySem.W.nsIn K mainGlobals "enumerate" = some none) (z10 : PySem.W.nsIn K mainGlobals "isinstance" = some none) (z11 : PySem.W.nsIn K mainGlobals "all" = some none) (z12 : PySem.W.nsIn K mainGlobals "any" = some none) (z13 : PySem.W.nsIn K mainGlobals "ValueError" = some none) : TxB mg ∧ mg "any" = none ∧ mg "ValueError" = none :=
  ⟨⟨PySem.W.mg_none_of X G z0, PySem.W.mg_none_of X G z1, PySem.W.mg_none_of X G z2, PySem.W.mg_none_of X G z3, PySem.W.mg_none_of X G z4, PySem.W.mg_none_of X G z5, PySem.W.mg_none_of X G z6, PySem.W.mg_none_of X G z7, PySem.W.mg_none_of X G z8, PySem.W.mg_none_of X G z9, PySem.W.mg_none_of X G z10, PySem.W.mg_none_of X G z11⟩, PySem.W.mg_none_of X G z12, PySem.W.mg_none_of X G z13⟩
theorem walk {l : PySem.W.OpenLaw} {q : Program} {loose : List Str} {XP : (Str → Option Value) → Heap → Prop} {YP : World → Heap → Prop} {d : DefRec} {K : Params → PySem.W.Frag} (hn : l.most = some 63) (hdf : d.params.defaults = [])
    (hY : ∀ (w : World) (h : Heap), YP w h → (K w.params).In h)
    (F : ∀ (w : World) (mg : Str → Option Value) (fa : Addr) (h : Heap), (K w.params).In h → h.Ns mainGlobals mg → mg d.name = some (.ref fa) →
      ∃ fd : FuncData, (∀ (s : Shared) (u : Value), BindsTo s fd ⟨[u], []⟩ [("_law_script", u)]) ∧ ∀ base : Heap, (K w.params).In base → base.Ns mainGlobals mg → FnOk l.prog w (K w.params) mg base CX0 5 fa fd ["_law_script"] (spLaw (K w.params))) :
    PySem.W.WalkO q loose XP YP l.row.toRowW d [] (fun f vs => PySem.call f vs) :=
  L2.walk_of (n := 63) (k := 5) (x := "_law_script") (CX := fun _ => CX0) (sp := fun w => spLaw (K w.params)) hn (by decide) hdf ⟨rfl, by decide, by decide⟩ hY F (fun _ _ a ns hl _ hS => ⟨a, ns, rfl, hS, hl, fun _ => rfl⟩) fun _ _ _ _ _ z => z
end Ts

set_option maxRecDepth 100000
open PySem PySem.W PyProof.Rows in
set_option maxRecDepth 100000 in
set_option maxHeartbeats 0 in
theorem PySem.Challenge.cw_turnsets_k22_errors_made_holds : PySem.Challenge.rw_turnsets_k22_errors_made.Holds := by
  w_on; o_law; k_head; (case hw => w_witness2)
  k_fill
  refine Ts.walk (l := PySem.Challenge.rw_turnsets_k22_errors_made) rfl rfl (fun w h Y => PySem.W.kIn_of Y) ?F
  case F =>
    intro w mg fa h KX G hmg
    obtain ⟨DLstream, _⟩ : ∃ D : Ts.DefAt _ mg "_law_stream" Ts.s_L_stream ["_law_script", "_law_k"], ∀ (s : Shared) (us : List Value), us.length = (["_law_script", "_law_k"] : List Str).length → BindsTo s D.fd ⟨us, []⟩ ((["_law_script", "_law_k"] : List Str).zip us) := by
      refine' Ts.defAt KX G ?a ?l ?c ?k ?b
      (case a => k_is)
      (case l => k_is)
      (case c => k_is)
      (case k => k_is)
      (case b => exact fun _ _ _ _ _ _ us hl => match us, hl with | [_, _], _ => rfl)
    obtain ⟨DLdraw, _⟩ : ∃ D : Ts.DefAt _ mg "_law_draw" Ts.s_L_draw ["_law_stream_here", "_law_many"], ∀ (s : Shared) (us : List Value), us.length = (["_law_stream_here", "_law_many"] : List Str).length → BindsTo s D.fd ⟨us, []⟩ ((["_law_stream_here", "_law_many"] : List Str).zip us) := by
      refine' Ts.defAt KX G ?a ?l ?c ?k ?b
      (case a => k_is)
      (case l => k_is)
      (case c => k_is)
      (case k => k_is)
      (case b => exact fun _ _ _ _ _ _ us hl => match us, hl with | [_, _], _ => rfl)
    obtain ⟨DLpick, _⟩ : ∃ D : Ts.DefAt _ mg "_law_pick" Ts.s_L_pick ["_law_stream_here", "_law_things"], ∀ (s : Shared) (us : List Value), us.length = (["_law_stream_here", "_law_things"] : List Str).length → BindsTo s D.fd ⟨us, []⟩ ((["_law_stream_here", "_law_things"] : List Str).zip us) := by
      refine' Ts.defAt KX G ?a ?l ?c ?k ?b
      (case a => k_is)
      (case l => k_is)
      (case c => k_is)
      (case k => k_is)
      (case b => exact fun _ _ _ _ _ _ us hl => match us, hl with | [_, _], _ => rfl)
    obtain ⟨DLmade, _⟩ : ∃ D : Ts.DefAt _ mg "_law_made" Ts.s_L_made ["_law_x"], ∀ (s : Shared) (us : List Value), us.length = (["_law_x"] : List Str).length → BindsTo s D.fd ⟨us, []⟩ ((["_law_x"] : List Str).zip us) := by
      refine' Ts.defAt KX G ?a ?l ?c ?k ?b
      (case a => k_is)
      (case l => k_is)
      (case c => k_is)
      (case k => k_is)
      (case b => exact fun _ _ _ _ _ _ us hl => match us, hl with | [_], _ => rfl)
    obtain ⟨DLkinds, _⟩ : ∃ D : Ts.DefAt _ mg "_law_kinds" Ts.s_L_kinds ["_law_e"], ∀ (s : Shared) (us : List Value), us.length = (["_law_e"] : List Str).length → BindsTo s D.fd ⟨us, []⟩ ((["_law_e"] : List Str).zip us) := by
      refine' Ts.defAt KX G ?a ?l ?c ?k ?b
      (case a => k_is)
      (case l => k_is)
      (case c => k_is)
      (case k => k_is)
      (case b => exact fun _ _ _ _ _ _ us hl => match us, hl with | [_], _ => rfl)
    obtain ⟨DLfields, _⟩ : ∃ D : Ts.DefAt _ mg "_law_fields" Ts.s_L_fields ["_law_x", "_law_y"], ∀ (s : Shared) (us : List Value), us.length = (["_law_x", "_law_y"] : List Str).length → BindsTo s D.fd ⟨us, []⟩ ((["_law_x", "_law_y"] : List Str).zip us) := by
      refine' Ts.defAt KX G ?a ?l ?c ?k ?b
      (case a => k_is)
      (case l => k_is)
      (case c => k_is)
      (case k => k_is)
      (case b => exact fun _ _ _ _ _ _ us hl => match us, hl with | [_, _], _ => rfl)
    obtain ⟨Dlaw, bL⟩ : ∃ D : Ts.DefAt _ mg "law" Ts.s_law ["_law_script"], ∀ (s : Shared) (us : List Value), us.length = (["_law_script"] : List Str).length → BindsTo s D.fd ⟨us, []⟩ ((["_law_script"] : List Str).zip us) := by
      refine' Ts.defAt KX G ?a ?l ?c ?k ?b
      (case a => k_is)
      (case l => k_is)
      (case c => k_is)
      (case k => k_is)
      (case b => exact fun _ _ _ _ _ _ us hl => match us, hl with | [_], _ => rfl)
    obtain ⟨B, hAny, hVE⟩ := by
      refine' Ts.freeAll KX G ?z0 ?z1 ?z2 ?z3 ?z4 ?z5 ?z6 ?z7 ?z8 ?z9 ?z10 ?z11 ?z12 ?z13
      (case z0 => k_is)
      (case z1 => k_is)
      (case z2 => k_is)
      (case z3 => k_is)
      (case z4 => k_is)
      (case z5 => k_is)
      (case z6 => k_is)
      (case z7 => k_is)
      (case z8 => k_is)
      (case z9 => k_is)
      (case z10 => k_is)
      (case z11 => k_is)
      (case z12 => k_is)
      (case z13 => k_is)
    obtain ⟨C0, B0, ⟨U0⟩, gB0⟩ : ∃ C B : Addr, Nonempty (Ts.ErU _ mg C B "BadRow" "BadRow.__init__" Ts.s_BadRow_init ["index"]) ∧ mg "BoxError" = some (.ref B) := by
      refine' Ts.erU KX G ?aC ?aB ?xL ?sa ?ga ?gg ?nf ?a1 ?t1 ?l1 ?c1 ?k1 ?kC ?eC ?tC ?hC ?ha ?hn ?ht ?hm ?hb ?hkb
      (case aC => k_is)
      (case aB => k_is)
      (case xL => k_is)
      (case sa => k_is)
      (case ga => k_is)
      (case gg => k_is)
      (case nf => exact fun p hp => by rcases List.mem_singleton.mp hp with rfl; k_is)
      (case a1 => k_is)
      (case t1 => k_is)
      (case l1 => k_is)
      (case c1 => k_is)
      (case k1 => k_is)
      (case kC => k_is)
      (case eC => k_is)
      (case tC => k_is)
      (case hC => k_is)
      (case ha => k_is)
      (case hn => k_is)
      (case ht => k_is)
      (case hm => k_is)
      (case hb => exact fun _ _ _ _ _ _ us hl => match us, hl with | [_, _], _ => rfl)
      (case hkb => exact fun _ _ _ _ _ _ us ws h1 h2 => match us, ws, h1, h2 with | [_], [_], _, _ => rfl)
    obtain ⟨C1, B1, ⟨U1⟩, gB1⟩ : ∃ C B : Addr, Nonempty (Ts.ErU _ mg C B "NoBox" "NoBox.__init__" Ts.s_NoBox_init ["box"]) ∧ mg "BoxError" = some (.ref B) := by
      refine' Ts.erU KX G ?aC ?aB ?xL ?sa ?ga ?gg ?nf ?a1 ?t1 ?l1 ?c1 ?k1 ?kC ?eC ?tC ?hC ?ha ?hn ?ht ?hm ?hb ?hkb
      (case aC => k_is)
      (case aB => k_is)
      (case xL => k_is)
      (case sa => k_is)
      (case ga => k_is)
      (case gg => k_is)
      (case nf => exact fun p hp => by rcases List.mem_singleton.mp hp with rfl; k_is)
      (case a1 => k_is)
      (case t1 => k_is)
      (case l1 => k_is)
      (case c1 => k_is)
      (case k1 => k_is)
      (case kC => k_is)
      (case eC => k_is)
      (case tC => k_is)
      (case hC => k_is)
      (case ha => k_is)
      (case hn => k_is)
      (case ht => k_is)
      (case hm => k_is)
      (case hb => exact fun _ _ _ _ _ _ us hl => match us, hl with | [_, _], _ => rfl)
      (case hkb => exact fun _ _ _ _ _ _ us ws h1 h2 => match us, ws, h1, h2 with | [_], [_], _, _ => rfl)
    obtain ⟨C2, B2, ⟨U2⟩, gB2⟩ : ∃ C B : Addr, Nonempty (Ts.ErU _ mg C B "NotShut" "NotShut.__init__" Ts.s_NotShut_init ["box"]) ∧ mg "BoxError" = some (.ref B) := by
      refine' Ts.erU KX G ?aC ?aB ?xL ?sa ?ga ?gg ?nf ?a1 ?t1 ?l1 ?c1 ?k1 ?kC ?eC ?tC ?hC ?ha ?hn ?ht ?hm ?hb ?hkb
      (case aC => k_is)
      (case aB => k_is)
      (case xL => k_is)
      (case sa => k_is)
      (case ga => k_is)
      (case gg => k_is)
      (case nf => exact fun p hp => by rcases List.mem_singleton.mp hp with rfl; k_is)
      (case a1 => k_is)
      (case t1 => k_is)
      (case l1 => k_is)
      (case c1 => k_is)
      (case k1 => k_is)
      (case kC => k_is)
      (case eC => k_is)
      (case tC => k_is)
      (case hC => k_is)
      (case ha => k_is)
      (case hn => k_is)
      (case ht => k_is)
      (case hm => k_is)
      (case hb => exact fun _ _ _ _ _ _ us hl => match us, hl with | [_, _], _ => rfl)
      (case hkb => exact fun _ _ _ _ _ _ us ws h1 h2 => match us, ws, h1, h2 with | [_], [_], _, _ => rfl)
    obtain ⟨C3, B3, ⟨U3⟩, gB3⟩ : ∃ C B : Addr, Nonempty (Ts.ErU _ mg C B "Locked" "Locked.__init__" Ts.s_Locked_init ["box"]) ∧ mg "BoxError" = some (.ref B) := by
      refine' Ts.erU KX G ?aC ?aB ?xL ?sa ?ga ?gg ?nf ?a1 ?t1 ?l1 ?c1 ?k1 ?kC ?eC ?tC ?hC ?ha ?hn ?ht ?hm ?hb ?hkb
      (case aC => k_is)
      (case aB => k_is)
      (case xL => k_is)
      (case sa => k_is)
      (case ga => k_is)
      (case gg => k_is)
      (case nf => exact fun p hp => by rcases List.mem_singleton.mp hp with rfl; k_is)
      (case a1 => k_is)
      (case t1 => k_is)
      (case l1 => k_is)
      (case c1 => k_is)
      (case k1 => k_is)
      (case kC => k_is)
      (case eC => k_is)
      (case tC => k_is)
      (case hC => k_is)
      (case ha => k_is)
      (case hn => k_is)
      (case ht => k_is)
      (case hm => k_is)
      (case hb => exact fun _ _ _ _ _ _ us hl => match us, hl with | [_, _], _ => rfl)
      (case hkb => exact fun _ _ _ _ _ _ us ws h1 h2 => match us, ws, h1, h2 with | [_], [_], _, _ => rfl)
    obtain ⟨C4, B4, ⟨U4⟩, gB4⟩ : ∃ C B : Addr, Nonempty (Ts.ErU _ mg C B "BadDeed" "BadDeed.__init__" Ts.s_BadDeed_init ["index"]) ∧ mg "BoxError" = some (.ref B) := by
      refine' Ts.erU KX G ?aC ?aB ?xL ?sa ?ga ?gg ?nf ?a1 ?t1 ?l1 ?c1 ?k1 ?kC ?eC ?tC ?hC ?ha ?hn ?ht ?hm ?hb ?hkb
      (case aC => k_is)
      (case aB => k_is)
      (case xL => k_is)
      (case sa => k_is)
      (case ga => k_is)
      (case gg => k_is)
      (case nf => exact fun p hp => by rcases List.mem_singleton.mp hp with rfl; k_is)
      (case a1 => k_is)
      (case t1 => k_is)
      (case l1 => k_is)
      (case c1 => k_is)
      (case k1 => k_is)
      (case kC => k_is)
      (case eC => k_is)
      (case tC => k_is)
      (case hC => k_is)
      (case ha => k_is)
      (case hn => k_is)
      (case ht => k_is)
      (case hm => k_is)
      (case hb => exact fun _ _ _ _ _ _ us hl => match us, hl with | [_, _], _ => rfl)
      (case hkb => exact fun _ _ _ _ _ _ us ws h1 h2 => match us, ws, h1, h2 with | [_], [_], _, _ => rfl)
    obtain ⟨C5, B5, ⟨U5⟩, gB5⟩ : ∃ C B : Addr, Nonempty (Ts.ErU _ mg C B "Clash" "Clash.__init__" Ts.s_Clash_init ["box"]) ∧ mg "BoxError" = some (.ref B) := by
      refine' Ts.erU KX G ?aC ?aB ?xL ?sa ?ga ?gg ?nf ?a1 ?t1 ?l1 ?c1 ?k1 ?kC ?eC ?tC ?hC ?ha ?hn ?ht ?hm ?hb ?hkb
      (case aC => k_is)
      (case aB => k_is)
      (case xL => k_is)
      (case sa => k_is)
      (case ga => k_is)
      (case gg => k_is)
      (case nf => exact fun p hp => by rcases List.mem_singleton.mp hp with rfl; k_is)
      (case a1 => k_is)
      (case t1 => k_is)
      (case l1 => k_is)
      (case c1 => k_is)
      (case k1 => k_is)
      (case kC => k_is)
      (case eC => k_is)
      (case tC => k_is)
      (case hC => k_is)
      (case ha => k_is)
      (case hn => k_is)
      (case ht => k_is)
      (case hm => k_is)
      (case hb => exact fun _ _ _ _ _ _ us hl => match us, hl with | [_, _], _ => rfl)
      (case hkb => exact fun _ _ _ _ _ _ us ws h1 h2 => match us, ws, h1, h2 with | [_], [_], _, _ => rfl)
    obtain ⟨C6, B6, ⟨U6⟩, gB6⟩ : ∃ C B : Addr, Nonempty (Ts.ErU _ mg C B "BadRule" "BadRule.__init__" Ts.s_BadRule_init ["rule"]) ∧ mg "BoxError" = some (.ref B) := by
      refine' Ts.erU KX G ?aC ?aB ?xL ?sa ?ga ?gg ?nf ?a1 ?t1 ?l1 ?c1 ?k1 ?kC ?eC ?tC ?hC ?ha ?hn ?ht ?hm ?hb ?hkb
      (case aC => k_is)
      (case aB => k_is)
      (case xL => k_is)
      (case sa => k_is)
      (case ga => k_is)
      (case gg => k_is)
      (case nf => exact fun p hp => by rcases List.mem_singleton.mp hp with rfl; k_is)
      (case a1 => k_is)
      (case t1 => k_is)
      (case l1 => k_is)
      (case c1 => k_is)
      (case k1 => k_is)
      (case kC => k_is)
      (case eC => k_is)
      (case tC => k_is)
      (case hC => k_is)
      (case ha => k_is)
      (case hn => k_is)
      (case ht => k_is)
      (case hm => k_is)
      (case hb => exact fun _ _ _ _ _ _ us hl => match us, hl with | [_, _], _ => rfl)
      (case hkb => exact fun _ _ _ _ _ _ us ws h1 h2 => match us, ws, h1, h2 with | [_], [_], _, _ => rfl)
    obtain ⟨C7, B7, ⟨U7⟩, gB7⟩ : ∃ C B : Addr, Nonempty (Ts.ErU _ mg C B "BadWish" "BadWish.__init__" Ts.s_BadWish_init ["box"]) ∧ mg "BoxError" = some (.ref B) := by
      refine' Ts.erU KX G ?aC ?aB ?xL ?sa ?ga ?gg ?nf ?a1 ?t1 ?l1 ?c1 ?k1 ?kC ?eC ?tC ?hC ?ha ?hn ?ht ?hm ?hb ?hkb
      (case aC => k_is)
      (case aB => k_is)
      (case xL => k_is)
      (case sa => k_is)
      (case ga => k_is)
      (case gg => k_is)
      (case nf => exact fun p hp => by rcases List.mem_singleton.mp hp with rfl; k_is)
      (case a1 => k_is)
      (case t1 => k_is)
      (case l1 => k_is)
      (case c1 => k_is)
      (case k1 => k_is)
      (case kC => k_is)
      (case eC => k_is)
      (case tC => k_is)
      (case hC => k_is)
      (case ha => k_is)
      (case hn => k_is)
      (case ht => k_is)
      (case hm => k_is)
      (case hb => exact fun _ _ _ _ _ _ us hl => match us, hl with | [_, _], _ => rfl)
      (case hkb => exact fun _ _ _ _ _ _ us ws h1 h2 => match us, ws, h1, h2 with | [_], [_], _, _ => rfl)
    obtain ⟨C8, B8, ⟨U8⟩, gB8⟩ : ∃ C B : Addr, Nonempty (Ts.ErU _ mg C B "BadNumber" "BadNumber.__init__" Ts.s_BadNumber_init ["number"]) ∧ mg "BoxError" = some (.ref B) := by
      refine' Ts.erU KX G ?aC ?aB ?xL ?sa ?ga ?gg ?nf ?a1 ?t1 ?l1 ?c1 ?k1 ?kC ?eC ?tC ?hC ?ha ?hn ?ht ?hm ?hb ?hkb
      (case aC => k_is)
      (case aB => k_is)
      (case xL => k_is)
      (case sa => k_is)
      (case ga => k_is)
      (case gg => k_is)
      (case nf => exact fun p hp => by rcases List.mem_singleton.mp hp with rfl; k_is)
      (case a1 => k_is)
      (case t1 => k_is)
      (case l1 => k_is)
      (case c1 => k_is)
      (case k1 => k_is)
      (case kC => k_is)
      (case eC => k_is)
      (case tC => k_is)
      (case hC => k_is)
      (case ha => k_is)
      (case hn => k_is)
      (case ht => k_is)
      (case hm => k_is)
      (case hb => exact fun _ _ _ _ _ _ us hl => match us, hl with | [_, _], _ => rfl)
      (case hkb => exact fun _ _ _ _ _ _ us ws h1 h2 => match us, ws, h1, h2 with | [_], [_], _, _ => rfl)
    obtain ⟨C9, B9, ⟨U9⟩, gB9⟩ : ∃ C B : Addr, Nonempty (Ts.ErU _ mg C B "TooDear" "TooDear.__init__" Ts.s_TooDear_init ["cost"]) ∧ mg "BoxError" = some (.ref B) := by
      refine' Ts.erU KX G ?aC ?aB ?xL ?sa ?ga ?gg ?nf ?a1 ?t1 ?l1 ?c1 ?k1 ?kC ?eC ?tC ?hC ?ha ?hn ?ht ?hm ?hb ?hkb
      (case aC => k_is)
      (case aB => k_is)
      (case xL => k_is)
      (case sa => k_is)
      (case ga => k_is)
      (case gg => k_is)
      (case nf => exact fun p hp => by rcases List.mem_singleton.mp hp with rfl; k_is)
      (case a1 => k_is)
      (case t1 => k_is)
      (case l1 => k_is)
      (case c1 => k_is)
      (case k1 => k_is)
      (case kC => k_is)
      (case eC => k_is)
      (case tC => k_is)
      (case hC => k_is)
      (case ha => k_is)
      (case hn => k_is)
      (case ht => k_is)
      (case hm => k_is)
      (case hb => exact fun _ _ _ _ _ _ us hl => match us, hl with | [_, _], _ => rfl)
      (case hkb => exact fun _ _ _ _ _ _ us ws h1 h2 => match us, ws, h1, h2 with | [_], [_], _, _ => rfl)
    obtain ⟨C10, B10, ⟨U10⟩, gB10⟩ : ∃ C B : Addr, Nonempty (Ts.ErU _ mg C B "BadRange" "BadRange.__init__" Ts.s_BadRange_init ["box"]) ∧ mg "BoxError" = some (.ref B) := by
      refine' Ts.erU KX G ?aC ?aB ?xL ?sa ?ga ?gg ?nf ?a1 ?t1 ?l1 ?c1 ?k1 ?kC ?eC ?tC ?hC ?ha ?hn ?ht ?hm ?hb ?hkb
      (case aC => k_is)
      (case aB => k_is)
      (case xL => k_is)
      (case sa => k_is)
      (case ga => k_is)
      (case gg => k_is)
      (case nf => exact fun p hp => by rcases List.mem_singleton.mp hp with rfl; k_is)
      (case a1 => k_is)
      (case t1 => k_is)
      (case l1 => k_is)
      (case c1 => k_is)
      (case k1 => k_is)
      (case kC => k_is)
      (case eC => k_is)
      (case tC => k_is)
      (case hC => k_is)
      (case ha => k_is)
      (case hn => k_is)
      (case ht => k_is)
      (case hm => k_is)
      (case hb => exact fun _ _ _ _ _ _ us hl => match us, hl with | [_, _], _ => rfl)
      (case hkb => exact fun _ _ _ _ _ _ us ws h1 h2 => match us, ws, h1, h2 with | [_], [_], _, _ => rfl)
    obtain ⟨C11, B11, ⟨U11⟩, gB11⟩ : ∃ C B : Addr, Nonempty (Ts.ErU _ mg C B "BadTable" "BadTable.__init__" Ts.s_BadTable_init ["word"]) ∧ mg "BoxError" = some (.ref B) := by
      refine' Ts.erU KX G ?aC ?aB ?xL ?sa ?ga ?gg ?nf ?a1 ?t1 ?l1 ?c1 ?k1 ?kC ?eC ?tC ?hC ?ha ?hn ?ht ?hm ?hb ?hkb
      (case aC => k_is)
      (case aB => k_is)
      (case xL => k_is)
      (case sa => k_is)
      (case ga => k_is)
      (case gg => k_is)
      (case nf => exact fun p hp => by rcases List.mem_singleton.mp hp with rfl; k_is)
      (case a1 => k_is)
      (case t1 => k_is)
      (case l1 => k_is)
      (case c1 => k_is)
      (case k1 => k_is)
      (case kC => k_is)
      (case eC => k_is)
      (case tC => k_is)
      (case hC => k_is)
      (case ha => k_is)
      (case hn => k_is)
      (case ht => k_is)
      (case hm => k_is)
      (case hb => exact fun _ _ _ _ _ _ us hl => match us, hl with | [_, _], _ => rfl)
      (case hkb => exact fun _ _ _ _ _ _ us ws h1 h2 => match us, ws, h1, h2 with | [_], [_], _, _ => rfl)
    obtain ⟨C12, B12, ⟨U12⟩, gB12⟩ : ∃ C B : Addr, Nonempty (Ts.ErU _ mg C B "NotSure" "NotSure.__init__" Ts.s_NotSure_init ["box"]) ∧ mg "BoxError" = some (.ref B) := by
      refine' Ts.erU KX G ?aC ?aB ?xL ?sa ?ga ?gg ?nf ?a1 ?t1 ?l1 ?c1 ?k1 ?kC ?eC ?tC ?hC ?ha ?hn ?ht ?hm ?hb ?hkb
      (case aC => k_is)
      (case aB => k_is)
      (case xL => k_is)
      (case sa => k_is)
      (case ga => k_is)
      (case gg => k_is)
      (case nf => exact fun p hp => by rcases List.mem_singleton.mp hp with rfl; k_is)
      (case a1 => k_is)
      (case t1 => k_is)
      (case l1 => k_is)
      (case c1 => k_is)
      (case k1 => k_is)
      (case kC => k_is)
      (case eC => k_is)
      (case tC => k_is)
      (case hC => k_is)
      (case ha => k_is)
      (case hn => k_is)
      (case ht => k_is)
      (case hm => k_is)
      (case hb => exact fun _ _ _ _ _ _ us hl => match us, hl with | [_, _], _ => rfl)
      (case hkb => exact fun _ _ _ _ _ _ us ws h1 h2 => match us, ws, h1, h2 with | [_], [_], _, _ => rfl)
    obtain ⟨C13, B13, ⟨U13⟩, gB13⟩ : ∃ C B : Addr, Nonempty (Ts.ErU _ mg C B "BadLine" "BadLine.__init__" Ts.s_BadLine_init ["index"]) ∧ mg "BoxError" = some (.ref B) := by
      refine' Ts.erU KX G ?aC ?aB ?xL ?sa ?ga ?gg ?nf ?a1 ?t1 ?l1 ?c1 ?k1 ?kC ?eC ?tC ?hC ?ha ?hn ?ht ?hm ?hb ?hkb
      (case aC => k_is)
      (case aB => k_is)
      (case xL => k_is)
      (case sa => k_is)
      (case ga => k_is)
      (case gg => k_is)
      (case nf => exact fun p hp => by rcases List.mem_singleton.mp hp with rfl; k_is)
      (case a1 => k_is)
      (case t1 => k_is)
      (case l1 => k_is)
      (case c1 => k_is)
      (case k1 => k_is)
      (case kC => k_is)
      (case eC => k_is)
      (case tC => k_is)
      (case hC => k_is)
      (case ha => k_is)
      (case hn => k_is)
      (case ht => k_is)
      (case hm => k_is)
      (case hb => exact fun _ _ _ _ _ _ us hl => match us, hl with | [_, _], _ => rfl)
      (case hkb => exact fun _ _ _ _ _ _ us ws h1 h2 => match us, ws, h1, h2 with | [_], [_], _, _ => rfl)
    obtain ⟨C14, B14, ⟨U14⟩, gB14⟩ : ∃ C B : Addr, Nonempty (Ts.ErU _ mg C B "BadMove" "BadMove.__init__" Ts.s_BadMove_init ["box", "into"]) ∧ mg "BoxError" = some (.ref B) := by
      refine' Ts.erU KX G ?aC ?aB ?xL ?sa ?ga ?gg ?nf ?a1 ?t1 ?l1 ?c1 ?k1 ?kC ?eC ?tC ?hC ?ha ?hn ?ht ?hm ?hb ?hkb
      (case aC => k_is)
      (case aB => k_is)
      (case xL => k_is)
      (case sa => k_is)
      (case ga => k_is)
      (case gg => k_is)
      (case nf => exact fun p hp => by rcases List.mem_cons.mp hp with rfl | hp; k_is; rcases List.mem_singleton.mp hp with rfl; k_is)
      (case a1 => k_is)
      (case t1 => k_is)
      (case l1 => k_is)
      (case c1 => k_is)
      (case k1 => k_is)
      (case kC => k_is)
      (case eC => k_is)
      (case tC => k_is)
      (case hC => k_is)
      (case ha => k_is)
      (case hn => k_is)
      (case ht => k_is)
      (case hm => k_is)
      (case hb => exact fun _ _ _ _ _ _ us hl => match us, hl with | [_, _, _], _ => rfl)
      (case hkb => exact fun _ _ _ _ _ _ us ws h1 h2 => match us, ws, h1, h2 with | [_], [_, _], _, _ => rfl)
    obtain ⟨C15, B15, ⟨U15⟩, gB15⟩ : ∃ C B : Addr, Nonempty (Ts.ErU _ mg C B "Barred" "Barred.__init__" Ts.s_Barred_init ["one", "other"]) ∧ mg "BoxError" = some (.ref B) := by
      refine' Ts.erU KX G ?aC ?aB ?xL ?sa ?ga ?gg ?nf ?a1 ?t1 ?l1 ?c1 ?k1 ?kC ?eC ?tC ?hC ?ha ?hn ?ht ?hm ?hb ?hkb
      (case aC => k_is)
      (case aB => k_is)
      (case xL => k_is)
      (case sa => k_is)
      (case ga => k_is)
      (case gg => k_is)
      (case nf => exact fun p hp => by rcases List.mem_cons.mp hp with rfl | hp; k_is; rcases List.mem_singleton.mp hp with rfl; k_is)
      (case a1 => k_is)
      (case t1 => k_is)
      (case l1 => k_is)
      (case c1 => k_is)
      (case k1 => k_is)
      (case kC => k_is)
      (case eC => k_is)
      (case tC => k_is)
      (case hC => k_is)
      (case ha => k_is)
      (case hn => k_is)
      (case ht => k_is)
      (case hm => k_is)
      (case hb => exact fun _ _ _ _ _ _ us hl => match us, hl with | [_, _, _], _ => rfl)
      (case hkb => exact fun _ _ _ _ _ _ us ws h1 h2 => match us, ws, h1, h2 with | [_], [_, _], _, _ => rfl)
    obtain ⟨C16, B16, Z16, I16, gB16⟩ : ∃ C B : Addr, Ts.ErZ _ mg C "BadDefault" ∧ Ts.CI _ C B "BadDefault" ∧ mg "BoxError" = some (.ref B) := by
      refine' Ts.erZ KX G ?aC ?aB ?xL ?xq ?kC ?ga ?gg ?eC ?tC ?hC ?ha ?hn ?ht ?hm
      (case aC => k_is)
      (case aB => k_is)
      (case xL => k_is)
      (case xq => k_exc)
      (case kC => k_is)
      (case ga => k_is)
      (case gg => k_is)
      (case eC => k_is)
      (case tC => k_is)
      (case hC => k_is)
      (case ha => k_is)
      (case hn => k_is)
      (case ht => k_is)
      (case hm => k_is)
    obtain ⟨C17, B17, Z17, I17, gB17⟩ : ∃ C B : Addr, Ts.ErZ _ mg C "UnlikeTrees" ∧ Ts.CI _ C B "UnlikeTrees" ∧ mg "BoxError" = some (.ref B) := by
      refine' Ts.erZ KX G ?aC ?aB ?xL ?xq ?kC ?ga ?gg ?eC ?tC ?hC ?ha ?hn ?ht ?hm
      (case aC => k_is)
      (case aB => k_is)
      (case xL => k_is)
      (case xq => k_exc)
      (case kC => k_is)
      (case ga => k_is)
      (case gg => k_is)
      (case eC => k_is)
      (case tC => k_is)
      (case hC => k_is)
      (case ha => k_is)
      (case hn => k_is)
      (case ht => k_is)
      (case hm => k_is)
    obtain ⟨C18, B18, Z18, I18, gB18⟩ : ∃ C B : Addr, Ts.ErZ _ mg C "LockedTree" ∧ Ts.CI _ C B "LockedTree" ∧ mg "BoxError" = some (.ref B) := by
      refine' Ts.erZ KX G ?aC ?aB ?xL ?xq ?kC ?ga ?gg ?eC ?tC ?hC ?ha ?hn ?ht ?hm
      (case aC => k_is)
      (case aB => k_is)
      (case xL => k_is)
      (case xq => k_exc)
      (case kC => k_is)
      (case ga => k_is)
      (case gg => k_is)
      (case eC => k_is)
      (case tC => k_is)
      (case hC => k_is)
      (case ha => k_is)
      (case hn => k_is)
      (case ht => k_is)
      (case hm => k_is)
    obtain ⟨BB, ZB, IB⟩ : ∃ B : Addr, Ts.ErZ _ mg B "BoxError" ∧ Ts.CB _ B := by
      refine' Ts.erB KX G ?aC ?xL ?xq ?kC ?ga ?gg ?eC ?tC ?hC ?ha ?hn ?ht ?hm
      (case aC => k_is)
      (case xL => k_is)
      (case xq => k_exc)
      (case kC => k_is)
      (case ga => k_is)
      (case gg => k_is)
      (case eC => k_is)
      (case tC => k_is)
      (case hC => k_is)
      (case ha => k_is)
      (case hn => k_is)
      (case ht => k_is)
      (case hm => k_is)
    obtain rfl := Ts.same_ref ZB.g gB0
    obtain rfl := Ts.same_ref ZB.g gB1
    obtain rfl := Ts.same_ref ZB.g gB2
    obtain rfl := Ts.same_ref ZB.g gB3
    obtain rfl := Ts.same_ref ZB.g gB4
    obtain rfl := Ts.same_ref ZB.g gB5
    obtain rfl := Ts.same_ref ZB.g gB6
    obtain rfl := Ts.same_ref ZB.g gB7
    obtain rfl := Ts.same_ref ZB.g gB8
    obtain rfl := Ts.same_ref ZB.g gB9
    obtain rfl := Ts.same_ref ZB.g gB10
    obtain rfl := Ts.same_ref ZB.g gB11
    obtain rfl := Ts.same_ref ZB.g gB12
    obtain rfl := Ts.same_ref ZB.g gB13
    obtain rfl := Ts.same_ref ZB.g gB14
    obtain rfl := Ts.same_ref ZB.g gB15
    obtain rfl := Ts.same_ref ZB.g gB16
    obtain rfl := Ts.same_ref ZB.g gB17
    obtain rfl := Ts.same_ref ZB.g gB18
    have e := hmg.symm.trans Dlaw.g
    cases e
    refine ⟨Dlaw.fd, fun s v => bL s [v] rfl, fun base _ _ => ?_⟩
    have CIs : ∀ i, i < 19 → Ts.CI _ (([C0, C1, C2, C3, C4, C5, C6, C7, C8, C9, C10, C11, C12, C13, C14, C15, C16, C17, C18] : List Addr).getD i 0) BB (Ts.nmT i) := fun i hi => match i, hi with
      | 0, _ => U0.ci
      | 1, _ => U1.ci
      | 2, _ => U2.ci
      | 3, _ => U3.ci
      | 4, _ => U4.ci
      | 5, _ => U5.ci
      | 6, _ => U6.ci
      | 7, _ => U7.ci
      | 8, _ => U8.ci
      | 9, _ => U9.ci
      | 10, _ => U10.ci
      | 11, _ => U11.ci
      | 12, _ => U12.ci
      | 13, _ => U13.ci
      | 14, _ => U14.ci
      | 15, _ => U15.ci
      | 16, _ => I16
      | 17, _ => I17
      | 18, _ => I18
      | n + 19, h => absurd h (by omega)
    have ECs : ∀ i, i < 19 → L2.ExcC _ (([C0, C1, C2, C3, C4, C5, C6, C7, C8, C9, C10, C11, C12, C13, C14, C15, C16, C17, C18] : List Addr).getD i 0) := fun i hi => match i, hi with
      | 0, _ => U0.E
      | 1, _ => U1.E
      | 2, _ => U2.E
      | 3, _ => U3.E
      | 4, _ => U4.E
      | 5, _ => U5.E
      | 6, _ => U6.E
      | 7, _ => U7.E
      | 8, _ => U8.E
      | 9, _ => U9.E
      | 10, _ => U10.E
      | 11, _ => U11.E
      | 12, _ => U12.E
      | 13, _ => U13.E
      | 14, _ => U14.E
      | 15, _ => U15.E
      | 16, _ => Z16.E
      | 17, _ => Z17.E
      | 18, _ => Z18.E
      | n + 19, h => absurd h (by omega)
    have T : Ts.Tab PySem.Challenge.rw_turnsets_k22_errors_made.prog w _ mg base := ⟨fun i => ([C0, C1, C2, C3, C4, C5, C6, C7, C8, C9, C10, C11, C12, C13, C14, C15, C16, C17, C18] : List Addr).getD i 0, BB,
      U0.to (Ts.ok_BadRow_init U0.F U0.O U0.nf),
      U1.to (Ts.ok_NoBox_init U1.F U1.O U1.nf),
      U2.to (Ts.ok_NotShut_init U2.F U2.O U2.nf),
      U3.to (Ts.ok_Locked_init U3.F U3.O U3.nf),
      U4.to (Ts.ok_BadDeed_init U4.F U4.O U4.nf),
      U5.to (Ts.ok_Clash_init U5.F U5.O U5.nf),
      U6.to (Ts.ok_BadRule_init U6.F U6.O U6.nf),
      U7.to (Ts.ok_BadWish_init U7.F U7.O U7.nf),
      U8.to (Ts.ok_BadNumber_init U8.F U8.O U8.nf),
      U9.to (Ts.ok_TooDear_init U9.F U9.O U9.nf),
      U10.to (Ts.ok_BadRange_init U10.F U10.O U10.nf),
      U11.to (Ts.ok_BadTable_init U11.F U11.O U11.nf),
      U12.to (Ts.ok_NotSure_init U12.F U12.O U12.nf),
      U13.to (Ts.ok_BadLine_init U13.F U13.O U13.nf),
      U14.to (Ts.ok_BadMove_init U14.F U14.O U14.nf),
      U15.to (Ts.ok_Barred_init U15.F U15.O U15.nf),
      Z16, Z17, Z18, ZB, fun i j hi hj => by
        by_cases e : i = j
        · subst e; rw [decide_eq_true rfl]; exact Ts.kit_self
        · rw [decide_eq_false e]; exact Ts.ci_M (CIs i hi) (CIs j hj) IB (Ts.nm_ne i hi j hj e) (Ts.nm_box j hj), fun i hi => Ts.ci_B (CIs i hi) IB (Ts.nm_box i hi), fun i hi => Ts.ci_V (CIs i hi), Ts.cb_V IB, Ts.cb_M (CIs 0 (by decide)) IB (Ts.nm_box 0 (by decide)), Ts.cb_M (CIs 1 (by decide)) IB (Ts.nm_box 1 (by decide)), ECs⟩
    exact Ts.ok_law T Dlaw B hAny hVE DLstream DLdraw DLpick DLmade DLkinds DLfields
