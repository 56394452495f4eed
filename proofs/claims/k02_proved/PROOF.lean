import PyProof.Rows.All
import Wide.All
import OpenK.AllK
import Wide.FinOn
import HandS.ForMost
import HandS.IsInst
import HandS.Conv
import HandS.DictComp
import HandS.Deep
import HandS.NoneIn
import HandS.Style
import HandS.TupAny
import HandS.OwnEq
import HandS.More
import HandS.Flow
import HandS.Codes
import HandS.Walk
import HandS.StrMore
import KE.GoesMore
import KE.GoesEnum
import HandS.List
import HandS.SetFor
import HandS.DeepEq
import PyProof.EqKinds
import PyProof.NeKinds
import HandS.ExcInit
import HandS.ExcField
import HandS.WordsExc
import HandS.Lambda
import HandS.Text
import HandS.Exc
import HandS.TryMany
import HandS.EndTab
import KE.KNestM
import PySem.Challenge.RW_turnsets_k02_trees_refused
set_option Elab.async false
set_option linter.all false

set_option maxRecDepth 100000
set_option maxHeartbeats 4000000
namespace Ts
open PySem L2
section
variable {X : Cx} {CX : CXT} {k : Nat} {f C : Addr} {fd : FuncData} {ps : List Str} {sp : Sp} {E : XK}
/-- a def of the text run below a builtin of this body -/
theorem run_at {A : Around} {pins : List (Addr × Obj)} {σ : St} {H : Hp} {s : Shared} {Q : VK} {us : List Value} {vs : List V} (F : FnOk X.prog X.w X.K X.mg X.base CX k f fd ps sp) (hr : Room k A) (hfr : A.frames = X.A.frames) (hb : Binds X.K fd ps []) (hx : Passes CX X E)
    (I : Inv X pins σ H s) (r : Vals vs us) (h : sp vs H Q E) : wpAny (model X.prog X.w) A (call (.ref f) us) (EP X pins σ Q) X.xe s := by
  have hl : us.length = ps.length := by rw [← r.length]; exact F.len _ _ _ _ h
  have e0 : Env0 X.prog X.w X.K X.mg X.base A X.stack s H := by
    have e := I.env0
    exact ⟨by rw [hfr]; exact e.frames, e.mod, e.bs, e.bsz, e.funs, e.frf, e.hok, e.bare⟩
  refine wpAny_call (codeAny_mono (F.run A X.stack s H ⟨us, []⟩ us vs Q E hr e0 (by
    have := hb s us I.kIn (by simpa using hl)
    simpa using this) r h) fun r s' hq => ?_)
  cases r with
  | error e => exact hx pins σ H s e s' I hq
  | ok fl =>
    cases fl with
    | ret u => exact I.after hq
    | next => exact False.elim hq
    | brk => exact False.elim hq
    | cont => exact False.elim hq
/-- x in o, o of an own class with its own look -/
def rInC (C : Addr) (sp : Sp) (E : XK) : R2 := fun x y H Q => ∃ a dx fs, y = .ref a ∧ H a = some (.ins C dx fs) ∧ sp [.ref a, x] H (fun v H' => ∃ b, v = .bl b ∧ Q (.bl b) H') E
def rNotInC (C : Addr) (sp : Sp) (E : XK) : R2 := fun x y H Q => ∃ a dx fs, y = .ref a ∧ H a = some (.ins C dx fs) ∧ sp [.ref a, x] H (fun v H' => ∃ b, v = .bl b ∧ Q (.bl (!b)) H') E
theorem op_inC (F : FnOk X.prog X.w X.K X.mg X.base CX k f fd ps sp) (m : Meth X.K C "__contains__" f) (hr : Room k X.A) (hb : Binds X.K fd ps []) (hx : Passes CX X E) : OpR X (compareOp .In) (rInC C sp E) := by
  intro pins s σ H x y v u Q I rx ry hq
  obtain ⟨a, dx, fs, rfl, ha, hsp⟩ := hq
  cases ry
  obtain ⟨mA, J, _⟩ := ins_get I.hok ha
  obtain ⟨od, J, _⟩ := J.look
  obtain ⟨mm, hF⟩ := I.fr
  refine PySem.W.in_K hF I.ok.mod.kin J m.at_ m.fn ?_
  refine wpAny_mono (run_at F hr rfl hb hx I (us := [.ref a, v]) (.cons (show RelV (.ref a) (.ref a) from rfl) (.cons rx .nil)) hsp) (fun r s' hq => ?_) fun _ _ x => x
  obtain ⟨z, H', I', rz, b, rfl, q⟩ := hq
  cases rz
  exact wpAny_truthy_bool ⟨.bl b, H', I', rfl, q⟩
theorem op_notinC (F : FnOk X.prog X.w X.K X.mg X.base CX k f fd ps sp) (m : Meth X.K C "__contains__" f) (hr : Room k X.A) (hb : Binds X.K fd ps []) (hx : Passes CX X E) : OpR X (compareOp .NotIn) (rNotInC C sp E) := by
  intro pins s σ H x y v u Q I rx ry hq
  obtain ⟨a, dx, fs, rfl, ha, hsp⟩ := hq
  cases ry
  obtain ⟨mA, J, _⟩ := ins_get I.hok ha
  obtain ⟨od, J, _⟩ := J.look
  obtain ⟨mm, hF⟩ := I.fr
  refine PySem.W.notIn_K hF I.ok.mod.kin J m.at_ m.fn ?_
  refine wpAny_mono (run_at F hr rfl hb hx I (us := [.ref a, v]) (.cons (show RelV (.ref a) (.ref a) from rfl) (.cons rx .nil)) hsp) (fun r s' hq => ?_) fun _ _ x => x
  obtain ⟨z, H', I', rz, b, rfl, q⟩ := hq
  cases rz
  exact wpAny_truthy_bool ⟨.bl (!b), H', I', rfl, q⟩
/-- len(o) -/
def rLenC (C : Addr) (sp : Sp) (E : XK) : List V → Hp → VK → Prop := fun xs H Q => ∃ a dx fs, xs = [.ref a] ∧ H a = some (.ins C dx fs) ∧ sp [.ref a] H (fun v H' => ∃ n : Int, v = .int n ∧ (0 ≤ n ∧ n < 2 ^ 63) ∧ Q (.int n) H') E
theorem call_lenC (F : FnOk X.prog X.w X.K X.mg X.base CX k f fd ps sp) (m : Meth X.K C "__len__" f) (hr : Room (k + 1) X.A) (hb : Binds X.K fd ps []) (hx : Passes CX X E) : CallR X (.builtin "len") (rLenC C sp E) := by
  intro pins s σ H xs us Q I r hq
  obtain ⟨a, dx, fs, rfl, ha, hsp⟩ := hq
  obtain ⟨u, rfl, ru⟩ := vals1 r
  cases ru
  obtain ⟨mA, J, _⟩ := ins_get I.hok ha
  obtain ⟨od, J, _⟩ := J.look
  obtain ⟨mm, hF⟩ := I.fr
  refine PySem.W.len_K hF I.ok.mod.kin J m.at_ m.fn ?_
  refine wpAny_mono (run_at F hr.in1 rfl hb hx I (us := [.ref a]) (.cons (show RelV (.ref a) (.ref a) from rfl) .nil) hsp) (fun r s' hq => ?_) fun _ _ x => x
  obtain ⟨z, H', I', rz, n, rfl, hn, q⟩ := hq
  obtain ⟨t, rfl⟩ := rz
  exact ⟨hn, .int n, H', I'.tok _, ⟨_, rfl⟩, q⟩
/-- the sort of a value, as == wants to know it -/
inductive TyE (H : Hp) : V → Value → Prop where
  | non : TyE H .non (.type "NoneType")
  | bl (x : Bool) : TyE H (.bl x) (.type "bool")
  | int (i : Int) : TyE H (.int i) (.type "int")
  | str (x : Str) : TyE H (.str x) (.type "str")
  | lst {a : Addr} {xs : List V} (e : H a = some (.lst xs)) : TyE H (.ref a) (.type "list")
  | tup {a : Addr} {xs : List V} (e : H a = some (.tup xs)) : TyE H (.ref a) (.type "tuple")
  | dK {a : Addr} {kvs : List (Key × V)} (e : H a = some (.dK kvs)) : TyE H (.ref a) (.type "dict")
  | ins {a C dx : Addr} {fs : List (Str × V)} (e : H a = some (.ins C dx fs)) : TyE H (.ref a) (.ref C)
theorem ty_looks {pins : List (Addr × Obj)} {σ : St} {H : Hp} {s : Shared} {y : V} {u tb : Value} (I : Inv X pins σ H s) (r : RelV y u) (ty : TyE H y tb) : PySem.W.Looks (model X.prog X.w) s.heap (typeOf u) tb := by
  have lk : ∀ {a : Addr} {o : Obj} {c : Value}, s.heap.get? a = some o → o.cls = c → PySem.W.Looks (model X.prog X.w) s.heap (typeOf (.ref a)) c := fun {a o c} e h => h ▸ (PySem.W.Looks.ld e).andThen .now
  cases ty with
  | non => cases (show u = Value.none from r); exact PySem.W.Looks.of_pure rfl
  | bl y => cases (show u = Value.bool y from r); exact PySem.W.Looks.of_pure rfl
  | int i => obtain ⟨t, q⟩ := (show ∃ t, u = Value.int i t from r); cases q; exact PySem.W.Looks.of_pure rfl
  | str y => obtain ⟨t, q⟩ := (show ∃ t, u = Value.str y t from r); cases q; exact PySem.W.Looks.of_pure rfl
  | @lst a xs ea =>
    cases (show u = Value.ref a from r)
    obtain ⟨_, _, n, _, h1⟩ := (show ObjOk X.prog X.w H s.heap a (.lst xs) from I.hok a _ ea)
    exact lk h1 rfl
  | @tup a xs ea =>
    cases (show u = Value.ref a from r)
    obtain ⟨_, _, _, o, h1, h2, _⟩ := (show ObjOk X.prog X.w H s.heap a (.tup xs) from I.hok a _ ea)
    exact lk h1 h2
  | @dK a kvs ea =>
    cases (show u = Value.ref a from r)
    obtain ⟨_, _, vs, _, o, es, ep, h1, h2, _⟩ := (show ObjOk X.prog X.w H s.heap a (.dK kvs) from I.hok a _ ea)
    exact lk h1 h2.1
  | @ins a C dx fs ea =>
    cases (show u = Value.ref a from r)
    obtain ⟨mA, J, _⟩ := ins_get I.hok ea
    obtain ⟨od, J, _⟩ := J.look
    exact J.type
/-- o == y -/
def rEqC (K : PySem.W.Frag) (C : Addr) (sp : Sp) (E : XK) : R2 := fun x y H Q => ∃ a dx fs tb, x = .ref a ∧ H a = some (.ins C dx fs) ∧ TyE H y tb ∧ PySem.W.notFirst K C tb = true ∧ sp [.ref a, y] H (fun v H' => ∃ b, v = .bl b ∧ Q (.bl b) H') E
def rNeC (K : PySem.W.Frag) (C : Addr) (sp : Sp) (E : XK) : R2 := fun x y H Q => ∃ a dx fs tb, x = .ref a ∧ H a = some (.ins C dx fs) ∧ TyE H y tb ∧ PySem.W.notFirst K C tb = true ∧ sp [.ref a, y] H (fun v H' => ∃ b, v = .bl b ∧ Q (.bl (!b)) H') E
theorem op_eqC (F : FnOk X.prog X.w X.K X.mg X.base CX k f fd ps sp) (m : Meth X.K C "__eq__" f) (hr : Room k X.A) (hb : Binds X.K fd ps []) (hx : Passes CX X E) : OpR X (compareOp .Eq) (rEqC X.K C sp E) := by
  intro pins s σ H x y v u Q I rx ry hq
  obtain ⟨a, dx, fs, tb, rfl, ha, ty, hn, hsp⟩ := hq
  cases rx
  obtain ⟨mA, J, _⟩ := ins_get I.hok ha
  obtain ⟨od, J, _⟩ := J.look
  obtain ⟨mm, hF⟩ := I.fr
  show wpAny (model X.prog X.w) X.A (richCompare .Eq _ u) (EP X pins σ Q) X.xe s
  refine PySem.W.cmp_K (op := .Eq) (tb := tb) hr.units0 hF I.ok.mod.kin J (ty_looks I ry ty) hn m.at_ m.fn ?_
  refine wpAny_mono (run_at F hr rfl hb hx I (us := [.ref a, u]) (.cons (show RelV (.ref a) (.ref a) from rfl) (.cons ry .nil)) hsp) (fun r s' hq => ?_) fun _ _ x => x
  obtain ⟨z, H', I', rz, b, rfl, q⟩ := hq
  cases rz
  exact ⟨.bl b, H', I', rfl, q⟩
section
open PySem.W
open PyProof.Rows (Fr)
variable {prog : Program} {w : World} {A : Around} {E : Value → Shared → Prop} {s : Shared} {K : Frag} {h₀ : Heap} {L : Addr} {m : Str → Option Value} {x f C : Addr} {ox : Obj} {od : Option Obj} {b tb : Value}
theorem ne_own_K {Q : Value → Shared → Prop} (hu : A.units + 1 < cLine) (F : Fr h₀ L s.heap m) (X₀ : K.In h₀) (I : InstAt s.heap x ox C od) (hb : Looks (model prog w) s.heap (typeOf b) tb) (hn : notFirst K C tb = true)
    (hne : findIn K (.ref C) "__ne__" = some (some (.builtin "object.__ne__"))) (hs : findIn K (.ref C) "__eq__" = some (some (.ref f))) (hf : isFn K (.ref f) = true) (ho : subIn K (.ref C) (.type "object") = some true)
    (h : wpAny (model prog w) A.in1 (call (.ref f) [.ref x, b]) (fun v s' => ∃ r, v = .bool r ∧ Q (.bool (!r)) s') E s) : wpAny (model prog w) A (richCompare .NotEq (.ref x) b) Q E s := by
  have X := X₀.keeps F.keep
  have body : wpAny (model prog w) A.in1 (Builtin.«object.__ne__» ⟨[.ref x, b], []⟩) (GQ.FinOf prog w A (wants (fun v s' => ∃ r, v = .bool r ∧ Q v s') E)) (fun e s' => wants (fun v s' => ∃ r, v = .bool r ∧ Q v s') E (.error e) s') s := by
    unfold Builtin.«object.__ne__»
    repeat (first
      | with_reducible refine wpAny_cRoomFor hu ?_
      | (refine wpAny_bind (m := callSpecialIfBound? (.ref x) (Str.ofString "__eq__") [b]) (ifBound_K X I hs hf (wpAny_mono h (fun r s' hr => by
          obtain ⟨r, rfl, hq⟩ := hr
          repeat (first | exact ⟨_, rfl, hq⟩ | exact wpAny_pure ⟨_, rfl, hq⟩ | (refine wpAny_bind (m := truthy (.bool _)) (wpAny_truthy_bool ?_)) | wp_step)) fun _ _ e => e)))
      | wp_step)
  have bind : bindSpecial (.builtin "object.__ne__") (.ref x) = pure (.builtin "object.__ne__", [.ref x]) := PySem.F.cmp_object.ne.bind (.ref x)
  have one : wpAny (model prog w) A (tryCompare (.ref x) "__ne__" b) (fun r s' => ∃ v, r = some v ∧ Q v s') E s := by
    unfold tryCompare
    refine wpAny_bind ?_
    simp only [callSpecialIfBound?, bindSpecialIfBound?]
    refine wpAny_holding (wpAny_bind (wpAny_bind (wpAny_bind (I.type.here ((looks_findIn X hne).here ?_)))))
    have fin : wpAny (model prog w) A (call (.builtin "object.__ne__") ([.ref x] ++ [b])) (fun v s' => ∃ r, v = .bool r ∧ Q v s') E s :=
      wpAny_call (codeAny_call_builtin PySem.F.cmp_object.ne.plain PySem.F.cmpEntry_ne (check_slot PySem.F.cmpKind_ne PySem.F.cmpSplit_ne (I.type.andThen (looks_subIn X ho)) (PySem.F.cmpArgs_ne _ _) body))
    simp only [bind]
    refine wpAny_bind (wpAny_askSetting (wpAny_ite ?_))
    split
    · refine wpAny_bind (wpAny_pure (wpAny_pure ?_))
      refine wpAny_bind (wpAny_mono fin (fun v s' z => ?_) fun _ _ e => e)
      obtain ⟨r, rfl, q⟩ := z
      refine wpAny_pure ?_
      exact wpAny_pure ⟨_, rfl, q⟩
    · refine wpAny_tryCatch (wpAny_bind (wpAny_pure (wpAny_pure ?_)))
      refine wpAny_bind (wpAny_mono fin (fun v s' z => ?_) fun _ _ e => e)
      obtain ⟨r, rfl, q⟩ := z
      refine wpAny_pure ?_
      exact wpAny_pure ⟨_, rfl, q⟩
  unfold richCompare
  simp only [oneThing_ref]
  refine wpAny_holding (wpAny_bind (wpAny_cRoomFor (Nat.lt_of_succ_lt hu) ?_))
  refine wpAny_bind (I.type.here (wpAny_bind (hb.here ?_)))
  split
  · rename_i q
    have e : subIn K tb (.ref C) = some false := by
      rcases Bool.or_eq_true_iff.mp hn with e | e
      · rw [beq_iff_eq.mp e] at q; simp at q
      · exact beq_iff_eq.mp e
    refine wpAny_bind ((looks_subIn X e).here ?_)
    simp only [Bool.false_eq_true, if_false]
    refine wpAny_bind (wpAny_mono one (fun r s' z => ?_) fun _ _ e => e)
    obtain ⟨v, rfl, hq⟩ := z
    exact wpAny_pure hq
  · refine wpAny_bind (wpAny_pure ?_)
    simp only [Bool.false_eq_true, if_false]
    refine wpAny_bind (wpAny_mono one (fun r s' z => ?_) fun _ _ e => e)
    obtain ⟨v, rfl, hq⟩ := z
    exact wpAny_pure hq
end
section
variable {X : Cx} {CX : CXT} {k : Nat} {f C : Addr} {fd : FuncData} {ps : List Str} {sp : Sp} {E : XK}
theorem op_neC (F : FnOk X.prog X.w X.K X.mg X.base CX k f fd ps sp) (m : Meth X.K C "__eq__" f) (hne : PySem.W.findIn X.K (.ref C) "__ne__" = some (some (.builtin "object.__ne__"))) (ho : PySem.W.subIn X.K (.ref C) (.type "object") = some true) (hr : Room (k + 1) X.A) (hb : Binds X.K fd ps []) (hx : Passes CX X E) : OpR X (compareOp .NotEq) (rNeC X.K C sp E) := by
  intro pins s σ H x y v u Q I rx ry hq
  obtain ⟨a, dx, fs, tb, rfl, ha, ty, hn, hsp⟩ := hq
  cases rx
  obtain ⟨mA, J, _⟩ := ins_get I.hok ha
  obtain ⟨od, J, _⟩ := J.look
  obtain ⟨mm, hF⟩ := I.fr
  show wpAny (model X.prog X.w) X.A (richCompare .NotEq _ u) (EP X pins σ Q) X.xe s
  refine ne_own_K (tb := tb) (by have := hr.un; omega) hF I.ok.mod.kin J (ty_looks I ry ty) hn hne m.at_ m.fn ho ?_
  refine wpAny_mono (run_at F hr.in1 rfl hb hx I (us := [.ref a, u]) (.cons (show RelV (.ref a) (.ref a) from rfl) (.cons ry .nil)) hsp) (fun r s' hq => ?_) fun _ _ x => x
  obtain ⟨z, H', I', rz, b, rfl, q⟩ := hq
  cases rz
  exact ⟨b, rfl, .bl (!b), H', I', rfl, q⟩
end
end
end Ts

set_option maxRecDepth 100000
set_option maxHeartbeats 4000000
namespace Ts
open PySem L2
/-! ### enumerate(tuple) -/
set_option maxHeartbeats 4000000 in
theorem meets_enum_T (t : Addr) (its : Array Value) :
    Meets (Builtin.«enumerate.__new__» ⟨[.type "enumerate", .ref t], []⟩) (fun _ R s => s.heap.IsTuple t its ∧
      R (.ok (.ret (.ref (s.heap.push { cls := .type "tuple_iterator", data := .fields #[.ref t, .int 0 0] }).objs.size)))
        { s with heap := (s.heap.push { cls := .type "tuple_iterator", data := .fields #[.ref t, .int 0 0] }).push { cls := .type "enumerate", data := .fields #[.none, .bool false, .ref s.heap.objs.size, rawInt 0, .none, .none] } }) :=
  .of_wp fun prog w A R s h => by
    obtain ⟨hp, g, d, tk, os⟩ := s
    obtain ⟨hT, h⟩ := h
    have hsub := sub_enumerate
    wp_walk
    refine wpAny_stack_any fun st => wpAny_pure ?_
    split
    · rename_i c _ _ _ _ _
      cases (c == Value.type "enumerate")
      · wp_walk using wpAny_pyIter_tuple hT
        exact ⟨_, rfl, h⟩
      · wp_walk using wpAny_pyIter_tuple hT
        exact ⟨_, rfl, h⟩
    · wp_walk using wpAny_pyIter_tuple hT
      exact ⟨_, rfl, h⟩

section
variable {prog : Program} {w : World} {A : Around} {E : Value → Shared → Prop} {s : Shared}
theorem call_enum_T {t : Addr} {its : Array Value} {Q : Value → Shared → Prop} (hT : s.heap.IsTuple t its)
    (k : ∀ g, IsEnum g (s.heap.objs.size + 1) s.heap.objs.size 0 .none → g.IsTupleIter s.heap.objs.size t 0 → (∀ b o, s.heap.get? b = some o → g.get? b = some o) → Q (.ref (s.heap.objs.size + 1)) { s with heap := g }) :
    wpAny (model prog w) A (call (.type "enumerate") [.ref t]) Q E s := by
  refine callType_new F.called_enumerate (by decide) (F.typeCall_enumerate_1 _) (F.newCall_enumerate_1 _) (fun o => F.args_object_init_2 o _) F.entry_enumerate_new (meets_enum_T t its) ⟨hT, ?_⟩
  have z : (s.heap.push { cls := .type "tuple_iterator", data := .fields #[.ref t, .int 0 0] }).objs.size = s.heap.objs.size + 1 := Heap.size_push ..
  show _ ∧ _
  rw [z]
  have en : IsEnum ((s.heap.push { cls := .type "tuple_iterator", data := .fields #[.ref t, .int 0 0] }).push { cls := .type "enumerate", data := .fields #[.none, .bool false, .ref s.heap.objs.size, rawInt 0, .none, .none] }) (s.heap.objs.size + 1) s.heap.objs.size 0 .none := by
    have q := Heap.get?_push_size (s.heap.push { cls := .type "tuple_iterator", data := .fields #[.ref t, .int 0 0] }) (o := { cls := .type "enumerate", data := .fields #[.none, .bool false, .ref s.heap.objs.size, rawInt 0, .none, .none] }) rfl
    rw [z] at q
    exact q
  exact ⟨⟨_, en, rfl⟩, k _ en ⟨_, Heap.get?_push_of_some _ (Heap.get?_push_size _ rfl), rfl, rfl⟩ fun b o y => Heap.get?_push_of_some _ (Heap.get?_push_of_some _ y)⟩
end
/-- the tuple at a as it stands at each turn, each item in a new pair -/
def IteT (K : PySem.W.Frag) (a : Addr) : It :=
  ⟨fun i H => ∃ (xs : List V) (x : V), SqT K H a xs ∧ xs[i]? = some x, fun i H v H' => ∃ T x, v = .ref T ∧ H T = none ∧ H' = upd H T (.tup [.int (i : Nat), x]) ∧ ∀ xs, SqT K H a xs → xs[i]? = some x, fun i H => ∃ xs : List V, SqT K H a xs ∧ xs.length = i⟩
theorem turn_enumT {P : Program} {w : World} {K : PySem.W.Frag} {elts : List Expr} {kk : Nat} {tpos : Pos} (a e it : Addr) :
    Turn P w K (.Tuple elts kk tpos) (IteT K a) [e, it] e (fun i h => (∃ old, IsEnum h e it ((i : Nat) : Int) old) ∧ h.IsTupleIter it a i ∧ e ≠ it ∧ a ≠ it ∧ e ≠ a) where
  mem := by simp
  obj := fun i h st b hb => by
    obtain ⟨⟨old, en⟩, ⟨o, ho, hc, hd⟩, _⟩ := st
    rcases (show b = e ∨ b = it by simpa using hb) with z | z
    · rw [z]; exact ⟨_, en, fun v q => nomatch q⟩
    · rw [z]; exact ⟨o, ho, fun v q => by rw [hd] at q; cases q⟩
  keep := fun i h h' st k => let ⟨⟨old, en⟩, hi, r⟩ := st; ⟨⟨old, k e (by simp) _ en⟩, hi.at fun o y => k it (by simp) o y, r⟩
  item := by
    intro X hP hw hK hc i pins s σ H E I hf st hg
    subst hP hw hK
    obtain ⟨⟨old, en⟩, hit, hne, hai, hea⟩ := st
    obtain ⟨xs, x, hq, hx⟩ := hg
    obtain ⟨its, rv, p, hz⟩ := I.tuple hq
    obtain ⟨u, hu, ru⟩ := rv.get hx
    have pT : s.heap.IsTuple a its.toArray := p
    have hil : i < its.toArray.size := by
      have q := (List.getElem?_eq_some_iff.mp hu).1
      simpa using q
    have l1 : e < s.heap.objs.size := Heap.lt_size en
    have l2 : it < s.heap.objs.size := by obtain ⟨_, q, _⟩ := hit; exact Heap.lt_size q
    have hh1 : X.A.in1.handled = none := I.ok.hd hc
    refine wpAny_pyNext_enum_itemD (Draws.tuple hh1 it a hai its.toArray) en ⟨hit, pT⟩ hil hne (by simp [hne, hea]) fun x' g tk hx' ho st' hT hsz hk => ?_
    have ex : x' = u := by
      have q : its.toArray[i]? = some u := by simpa using hu
      rw [q] at hx'
      exact (Option.some.inj hx').symm
    subst ex
    refine ⟨_, rfl, wpAny_letOwnedTupleGo_enum (s := { s with heap := g, toks := tk + 1 }) ho fun g2 he' sb => ?_⟩
    have hT2 : g2.get? s.heap.objs.size = some { cls := .type "tuple", data := .seq #[.int i tk, x'] } := (sb.2 _ (Nat.ne_of_gt l1)).trans hT
    have new : ObjOk X.prog X.w (upd H s.heap.objs.size (.tup [.int (i : Nat), x])) g2 s.heap.objs.size (.tup [.int (i : Nat), x]) :=
      ⟨by show 2 ≤ sizeLine; decide, [.int i tk, x'], .cons ⟨_, rfl⟩ (.cons ru .nil), ⟨_, hT2, rfl, _, rfl⟩⟩
    have I1 : Inv X pins σ (upd H s.heap.objs.size (.tup [.int (i : Nat), x])) { s with heap := g2, toks := tk + 1 } :=
      I.turnedNew (ch := [e, it]) (fun b o hb y => (sb.2 b (fun z => hb (by simp [z]))).trans (hk b o (fun z => hb (by simp [z])) (fun z => hb (by simp [z])) y)) hf (Nat.le_refl _) new
    refine ⟨.ref s.heap.objs.size, _, I1, rfl, ⟨_, x, rfl, I.hok.fresh (Nat.le_refl _), rfl, fun ys hy => by rw [I.tuple_inj hy hq]; exact hx⟩, ⟨⟨x', ?_⟩, st'.1.at fun o y => (sb.2 it (Ne.symm hne)).trans y, hne, hai, hea⟩, fun b hb => ?_⟩
    · rw [show ((i + 1 : Nat) : Int) = (i : Int) + 1 by omega]
      exact he'
    · have lb : b < s.heap.objs.size := by
        rcases (show b = e ∨ b = it by simpa using hb) with z | z
        · rw [z]; exact l1
        · rw [z]; exact l2
      rw [upd_ne (Nat.ne_of_lt lb)]
      exact (hf b hb).1
  done := by
    intro X hP hw hK hc i pins s σ H E I hf st hg
    subst hP hw hK
    obtain ⟨⟨old, en⟩, hit, hne, hai, hea⟩ := st
    obtain ⟨xs, hq, hx⟩ := hg
    obtain ⟨its, rv, p, hz⟩ := I.tuple hq
    have pT : s.heap.IsTuple a its.toArray := p
    have hh1 : X.A.in1.handled = none := I.ok.hd hc
    have ei : its.toArray.size = i := by rw [← hx, rv.length]; simp
    obtain ⟨f0, f1, f2, f3, f4, f5⟩ := hf it (by simp)
    refine wpAny_pyNext_enum_endD (Draws.tuple hh1 it a hai its.toArray) en (by rw [ei]; exact ⟨hit, pT⟩) fun g eb => ⟨rfl, I.turned (t' := s.toks) (fun b o hb y => eb b o hb y) f0 f1 f3 f4 f5⟩
  self := fun A i s Q E st h => let ⟨⟨_, en⟩, _⟩ := st; wpAny_pyIter_enum en h
def iEnumT (K : PySem.W.Frag) (ta : TA) : TI := fun σ H R => ta σ H fun vs H1 => ∃ a xs, vs = [.ref a] ∧ SqT K H1 a xs ∧ R (IteT K a) H1
theorem pi_enumT {X : Cx} {e : Expr} {ta : TA} {p pos tpos : Pos} {elts : List Expr} {kk : Nat} (hg : Gl X "enumerate") (hm : X.mg "enumerate" = none) (ha : PA X [e] ta) (hs : starEach [e] X.env = [(false, eval e X.env)] := by rfl) :
    PI X (.Tuple elts kk tpos) (.Call (.Name "enumerate" p) [e] [] pos) (iEnumT X.K ta) := by
  refine ⟨fun pins s σ H R I h => ?_⟩
  refine wpAny_Call_Name_kw (ld_blt I hg hm PyProof.Rows.boot_enumerate (PyProof.Rows.callWith_type1 (thn (ha.run pos pins s σ H _ I h) fun us s1 z => ?_) hs rfl))
  obtain ⟨vs, H1, I1, r1, a, xs, ex, hq, q⟩ := z
  subst ex
  obtain ⟨u, rfl, ru⟩ := vals1 r1
  cases ru
  obtain ⟨its, rv, p', hz⟩ := I1.tuple hq
  have pT : s1.heap.IsTuple a its.toArray := p'
  obtain ⟨oa, hoa, _⟩ := id pT
  have la : a < s1.heap.objs.size := Heap.lt_size hoa
  refine call_enum_T pT fun g en hit hk => wpAny_pyIter_enum en ?_
  have I2 : Inv X pins σ H1 { s1 with heap := g } := I1.kept (t' := s1.toks) hk
  refine ⟨s1.heap.objs.size + 1, [s1.heap.objs.size + 1, s1.heap.objs.size], _, _, H1, rfl, I2, turn_enumT a (s1.heap.objs.size + 1) s1.heap.objs.size, ⟨⟨.none, en⟩, hit, Nat.succ_ne_self _, Nat.ne_of_lt la, Nat.ne_of_gt (Nat.lt_succ_of_lt la)⟩, fun b hb => ?_, q⟩
  have ge : s1.heap.objs.size ≤ b := by
    rcases (show b = s1.heap.objs.size + 1 ∨ b = s1.heap.objs.size by simpa using hb) with z | z
    · rw [z]; exact Nat.le_add_right _ _
    · rw [z]; exact Nat.le_refl _
  exact I1.fpOk ge (I1.hok.fresh ge)
theorem walk_enumT {K : PySem.W.Frag} {a : Addr} {xs : List V} : Walk (IteT K a) xs.length (fun H => SqT K H a xs) (YPair (fun i => some (.int (i : Nat))) (fun i => xs[i]?)) := by
  refine ⟨fun i _ hi q => ⟨xs, xs[i], q, by simp [hi]⟩, fun _ q => ⟨xs, q, rfl⟩, fun i H v H' _ q y => ?_⟩
  obtain ⟨T, x, y1, y2, y3, y4⟩ := y
  exact ⟨T, .int (i : Nat), x, y1, y2, y3, rfl, y4 xs q⟩
/-! ### one rule or another -/
section
variable {X : Cx} {e : Expr}
theorem pe_or' {t u : TE} (a : PE X e t) (b : PE X e u) : PE X e (fun σ H Q => t σ H Q ∨ u σ H Q) := ⟨fun pins s σ H Q I h => h.elim (a.run pins s σ H Q I) (b.run pins s σ H Q I)⟩
theorem pg_or {t u : TG} (a : PG X e t) (b : PG X e u) : PG X e (fun v σ H Q => t v σ H Q ∨ u v σ H Q) := ⟨fun pins s σ H v w Q I r h => h.elim (a.run pins s σ H v w Q I r) (b.run pins s σ H v w Q I r)⟩
theorem pi_or {tg : Expr} {t u : TI} (a : PI X tg e t) (b : PI X tg e u) : PI X tg e (fun σ H R => t σ H R ∨ u σ H R) := ⟨fun pins s σ H R I h => h.elim (a.run pins s σ H R I) (b.run pins s σ H R I)⟩
theorem op_or' {f : Value → Value → Sem Value} {r q : R2} (a : OpR X f r) (b : OpR X f q) : OpR X f (fun x y H Q => r x y H Q ∨ q x y H Q) := fun pins s σ H x y v u Q I rx ry h => h.elim (a pins s σ H x y v u Q I rx ry) (b pins s σ H x y v u Q I rx ry)
theorem ps_or {st : Stmt} {t u : TS} (a : PS X st t) (b : PS X st u) : PS X st (fun D σ H => t D σ H ∨ u D σ H) := ⟨fun pins s σ H D I h => h.elim (a.run pins s σ H D I) (b.run pins s σ H D I)⟩
theorem call_or {f : Value} {r q : List V → Hp → VK → Prop} (a : CallR X f r) (b : CallR X f q) : CallR X f (fun xs H Q => r xs H Q ∨ q xs H Q) := fun pins s σ H xs us Q I rv h => h.elim (a pins s σ H xs us Q I rv) (b pins s σ H xs us Q I rv)
end
end Ts

set_option maxRecDepth 100000
set_option maxHeartbeats 4000000
namespace Ts
open PySem L2
section
variable {X : Cx}
/-- a local takes a dict comprehension on one line -/
theorem ps_setDc {i : Nat} {y : Str} {py : Pos} {kx vx tg iter : Expr} {ifs : List Expr} {scope : Scope} {own : List (Str × Nat)} {pos spos : Pos} {wi : TI} {g : TG} {tt : TT} {tk tv : TE} (hc : X.calm = true) (hN : X.N.Nodup) (hy : X.N[i]? = some y) (hyl : X.env.scope.names.lookup y = some .local)
    (hsw : swapsWith (.DictComp kx vx [⟨tg, iter, ifs, 0⟩] scope pos) (some (.Name y py)) spos.line X.env = pure true) (hi : PI X tg iter wi) (ok : BlkOk X.N X.env.scope scope own)
    (hg : ∀ (s : Shared) (H : Hp) (C : Addr) (cl : List (Str × Addr)) (fp : List Addr), PG (X.blk s H scope (compEnvC scope cl C X.env) fp) tg g) (ht : ∀ (s : Shared) (H : Hp) (C : Addr) (cl : List (Str × Addr)) (fp : List Addr), PTs (X.blk s H scope (compEnvC scope cl C X.env) fp) ifs tt)
    (hk : ∀ (s : Shared) (H : Hp) (C : Addr) (cl : List (Str × Addr)) (fp : List Addr), PE (X.blk s H scope (compEnvC scope cl C X.env) fp) kx tk)
    (he : ∀ (s : Shared) (H : Hp) (C : Addr) (cl : List (Str × Addr)) (fp : List Addr), PE (X.blk s H scope (compEnvC scope cl C X.env) fp) vx tv) (hs : ∀ x, foldedSetIterable iter X.env x = pure x := by intro _; rfl) :
    PS X (.Assign [.Name y py] (.DictComp kx vx [⟨tg, iter, ifs, 0⟩] scope pos) spos) (tAsg (tDc wi g tt tk tv (own.map (·.2))) (gName i)) := by
  refine ⟨fun pins s σ H D I h => ?_⟩
  rw [exec_Assign_Name_used _ _ _ _ hsw]
  refine wpAny_bind (wpAny_standAt (wpAny_bind ?_))
  show wpAny _ X.A (do let _ ← comprehension (.DictComp kx vx [⟨tg, iter, ifs, 0⟩] scope pos) scope X.env (firstIterPos [⟨tg, iter, ifs, 0⟩] pos) newDict false (eval iter X.env) (some (assign (.Name y py) X.env))) _ _ s
  have h' : tDc wi g tt tk tv (own.map (·.2)) σ H (fun x H1 => gName i x σ H1 D.nx) := h
  refine wpAny_bind (thn (dc_core (Qf := fun _ s' => SP X pins D .next s') hc hN I hi ok hg ht hk he hs h' fun L C s' m H' I' q hn f => ?_) fun _ s' z => wpAny_pure (wpAny_pure z))
  show wpAny _ _ (assign (.Name y py) X.env (.ref L)) _ _ _
  refine wpAny_assign_Name (store_ok2 (v := V.ref L) I' hN hy (.inl hyl) rfl (fun s2 I2 ⟨a, sb, za⟩ => ?_) (.inr hyl))
  obtain ⟨f0, f1, f2, f3, f4, f5⟩ := f
  have ca : C ≠ a := by
    rcases za with z | z
    · rw [z]; exact f1
    · exact fun e => f4 y a z e.symm
  refine ⟨m, hn.sameBut sb ca, fun h3 sb3 => ?_⟩
  exact ⟨_, H', I2.turned (t' := s2.toks) (fun b o hb e => (sb3.2 b hb).trans e) f0 f1 f3 f4 f5, q⟩
theorem swd_true {kx vx : Expr} {gs : List Comprehension} {scope : Scope} {pos py : Pos} {y : Str} {l : Nat} {env : Env} (hk : env.scope.kind = .function) (hy : env.scope.names.lookup y = some .local) (hl : (py.line == pos.line) = true)
    (ha : (scope.names.any fun (n, k) => n == y && (k == .local || k == .cell)) = false) : swapsWith (.DictComp kx vx gs scope pos) (some (.Name y py)) l env = pure true := by
  have k1 : env.kindOf y = some .local := hy
  have k2 : env.blockKind = .function := by unfold Env.blockKind; rw [hk]; rfl
  unfold swapsWith
  simp only [k1, k2, ha, Expr.pos, hl]
  rfl
/-- a dict comprehension over what walks -/
theorem dc_it {J : It} {n : Nat} {G : Hp → Prop} {Y : Nat → Hp → V → Hp → Prop} (w : Walk J n G Y) {g : TG} {tt : TT} {tk tv : TE} {vs : List Nat} {σ : St} {H1 : Hp} {D : Addr} {Qd : Hp → Prop} (Pv : Nat → Hp → Prop) (h0 : Pv 0 (upd H1 D (.dK []))) (hG : ∀ i H, i ≤ n → Pv i H → G H)
    (hs : ∀ i x H H', i < n → Pv i H → Y i H x H' → g x (wipe σ vs) H' fun σ2 H2 => wipe σ2 vs = wipe σ vs ∧ tt σ2 H2 fun b H3 =>
      if b = true then tk σ2 H3 fun y H4 => tv σ2 H4 fun z H5 => ∃ kvs k, y = kV k ∧ H5 D = some (.dK kvs) ∧ kvs.length < sizeLine ∧ Pv (i + 1) (upd H5 D (.dK (putK kvs k z))) else Pv (i + 1) H3) (hd : ∀ H, Pv n H → Qd H) :
    ∃ W : Nat → Nat → Hp → Prop, (∃ m, W 0 m (upd H1 D (.dK []))) ∧ ∀ i m H, W i m H →
      (J.stop i H ∧ Qd H) ∨ (J.go i H ∧ ∃ Nx : Hp → Prop, (∀ H', Nx H' → ∃ m', m' < m ∧ W (i + 1) m' H') ∧ ∀ x H', J.yld i H x H' → g x (wipe σ vs) H' fun σ2 H2 => wipe σ2 vs = wipe σ vs ∧ tt σ2 H2 fun b H3 =>
        if b = true then tk σ2 H3 fun y H4 => tv σ2 H4 fun z H5 => ∃ kvs k, y = kV k ∧ H5 D = some (.dK kvs) ∧ kvs.length < sizeLine ∧ Nx (upd H5 D (.dK (putK kvs k z))) else Nx H3) := by
  refine ⟨fun i m H => m = n - i ∧ i ≤ n ∧ Pv i H, ⟨n, by simp, Nat.zero_le _, h0⟩, ?_⟩
  rintro i m H ⟨rfl, le, p⟩
  have q := hG i H le p
  by_cases lt : i < n
  · exact .inr ⟨w.goes i H lt q, Pv (i + 1), fun H' p' => ⟨n - (i + 1), by omega, rfl, lt, p'⟩, fun x H' y => hs i x H H' lt p (w.yields i H x H' lt q y)⟩
  · obtain rfl : i = n := by omega
    exact .inl ⟨w.stops H q, hd H p⟩
end
end Ts

set_option maxRecDepth 100000
namespace Ts
open PySem L2
def top (i : Nat) : Stmt := PySem.Challenge.pw_turnsets_k02_trees_refused.main.body.getD i (.Pass ⟨0, 0, 0, 0⟩)
abbrev s__wall : Stmt := top 0
abbrev s_BadRow_init : Stmt := inClass (top 3) 0
abbrev s_NoBox_init : Stmt := inClass (top 4) 0
abbrev s_NotShut_init : Stmt := inClass (top 5) 0
abbrev s_is_name : Stmt := top 12
abbrev s_is_number : Stmt := top 13
abbrev s_is_price : Stmt := top 14
abbrev s_is_row : Stmt := top 15
abbrev s_check_rows : Stmt := top 16
abbrev s_check_box : Stmt := top 17
abbrev s_Tree_init : Stmt := inClass (top 18) 0
abbrev s_Tree_eq : Stmt := inClass (top 18) 1
abbrev s_Tree_len : Stmt := inClass (top 18) 2
abbrev s_Tree_contains : Stmt := inClass (top 18) 3
abbrev s_Tree_rows : Stmt := inClass (top 18) 4
abbrev s_Tree_folder : Stmt := inClass (top 18) 5
abbrev s_Tree_kind : Stmt := inClass (top 18) 6
abbrev s_Tree_price : Stmt := inClass (top 18) 7
abbrev s_Tree_inside : Stmt := inClass (top 18) 8
abbrev s_Tree_below : Stmt := inClass (top 18) 9
abbrev s_Tree_way : Stmt := inClass (top 18) 10
abbrev s_Tree_steps : Stmt := inClass (top 18) 11
abbrev s_Tree_more : Stmt := inClass (top 18) 12
abbrev s_Tree_less : Stmt := inClass (top 18) 13
abbrev s_Tree_moved : Stmt := inClass (top 18) 14
abbrev s_Tree_opened : Stmt := inClass (top 18) 15
abbrev s_L_stream : Stmt := top 20
abbrev s_L_draw : Stmt := top 21
abbrev s_L_pick : Stmt := top 22
abbrev s_L_name : Stmt := top 23
abbrev s_L_kinds : Stmt := top 24
abbrev s_L_prices : Stmt := top 25
abbrev s_L_rows : Stmt := top 26
abbrev s_L_is_name : Stmt := top 27
abbrev s_L_fits : Stmt := top 28
abbrev s_L_due : Stmt := top 29
abbrev s_L_refused : Stmt := top 30
abbrev s_L_spoilt : Stmt := top 31
abbrev s_law : Stmt := top 32
end Ts

set_option maxRecDepth 100000
set_option maxHeartbeats 4000000
namespace Ts
open PySem L2
/-! ### how a def stands -/
structure DefAt (K : PySem.W.Frag) (mg : Str → Option Value) (x : Str) (st : Stmt) (ps : List Str) where
  f : Addr
  fd : FuncData
  F : Fun K x x st f fd
  b : Binds K fd ps []
  g : mg x = some (.ref f)
structure MethAt (K : PySem.W.Frag) (C : Addr) (x q : Str) (st : Stmt) (ps : List Str) where
  f : Addr
  fd : FuncData
  F : Fun K x q st f fd
  b : Binds K fd ps []
  m : Meth K C x f
structure TxB (mg : Str → Option Value) : Prop where
  len : mg "len" = none
  abs : mg "abs" = none
  int : mg "int" = none
  str : mg "str" = none
  bool : mg "bool" = none
  list : mg "list" = none
  tuple : mg "tuple" = none
  dict : mg "dict" = none
  range : mg "range" = none
  enumerate : mg "enumerate" = none
  isinstance : mg "isinstance" = none
  all : mg "all" = none
theorem lk {l : List (Option V)} {i : Nat} {v : V} (h : l[i]? = some (some v)) : l[i]? = some (some v) := h
/-! ### the draws -/
/-- all but a is kept -/
def SB (a : Addr) (H H' : Hp) : Prop := ∀ b o, b ≠ a → H b = some o → H' b = some o
theorem SB.refl (a : Addr) (H : Hp) : SB a H H := fun _ _ _ h => h
theorem SB.trans {a : Addr} {H H1 H2 : Hp} (x : SB a H H1) (y : SB a H1 H2) : SB a H H2 := fun b o n h => y b o n (x b o n h)
theorem SB.of {a : Addr} {H H' : Hp} (x : Same H H') : SB a H H' := fun b o _ h => x b o h
theorem Same.new {H : Hp} {p : Addr} {o : HO} (h : H p = none) : Same H (upd H p o) := fun b u e => by rw [upd_ne (ne_of_none e h)]; exact e
theorem SB.upd {a p : Addr} {H : Hp} {o : HO} (h : H p = none) : SB a H (L2.upd H p o) := SB.of (Same.new h)
theorem SB.seqL {K : PySem.W.Frag} {a l : Addr} {H H' : Hp} {xs : List V} (x : SB a H H') (n : l ≠ a) (h : SqL K H l xs) : SqL K H' l xs := by
  rcases h with (h | ⟨o, h⟩) | h
  · exact .inl (.inl (x _ _ n h))
  · exact .inl (.inr ⟨o, x _ _ n h⟩)
  · exact .inr h
theorem SB.free {a b : Addr} {H H' : Hp} (x : SB a H H') (n : b ≠ a) (h : H' b = none) : H b = none := by
  cases q : H b with
  | none => rfl
  | some o =>
    rw [x b o n q] at h
    cases h
/-- at a a stream of draws of which at most n are mixed numbers -/
def Stm (H : Hp) (a : Addr) (n : Int) : Prop := ∃ x y z : Int, H a = some (.lst [.int x, .int y, .int z]) ∧ 0 ≤ x ∧ 0 ≤ y ∧ y < 1099511627776 ∧ 0 ≤ z ∧ z ≤ n
theorem Stm.mono {H : Hp} {a : Addr} {n m : Int} (h : Stm H a n) (k : n ≤ m) : Stm H a m := by
  obtain ⟨x, y, z, e, h1, h2, h3, h4, h5⟩ := h
  exact ⟨x, y, z, e, h1, h2, h3, h4, Int.le_trans h5 k⟩
theorem Stm.ne {H : Hp} {a p : Addr} {n : Int} (h : Stm H a n) (hp : H p = none) : a ≠ p := by
  obtain ⟨x, y, z, e, _⟩ := h
  exact ne_of_none e hp
theorem Stm.same {H H' : Hp} {a : Addr} {n : Int} (h : Stm H a n) (s : Same H H') : Stm H' a n := by
  obtain ⟨x, y, z, e, r⟩ := h
  exact ⟨x, y, z, s _ _ e, r⟩
theorem Stm.upd {H : Hp} {a p : Addr} {o : HO} {n : Int} (h : Stm H a n) (hp : H p = none) : Stm (upd H p o) a n := h.same (Same.new hp)
theorem ne_lit {i : Int} (h : i ≠ 0) : i ≠ 0 := h
theorem fm_in (q : Int) {m : Int} (h : 1 ≤ m) : 0 ≤ q.fmod m ∧ q.fmod m < m := by
  rw [Int.fmod_eq_emod_of_nonneg q (by omega)]
  exact ⟨Int.emod_nonneg _ (by omega), Int.emod_lt_of_pos _ (by omega)⟩
def spStream (K : PySem.W.Frag) : Sp := fun vs H Q _ => ∃ (a : Addr) (ns : List Int) (k : Int), vs = [.ref a, .int k] ∧ SqL K H a (ns.map V.int) ∧ 0 ≤ k ∧ k ≤ 1000 ∧
  ∀ (p : Addr) (x y : Int), H p = none → 0 ≤ x → 0 ≤ y → y < 1099511627776 → Q (.ref p) (upd H p (.lst [.int x, .int y, .int 0]))
def spDraw : Sp := fun vs H Q _ => ∃ (a : Addr) (m n : Int), vs = [.ref a, .int m] ∧ Stm H a n ∧ n ≤ 1099511627776 ∧ 1 ≤ m ∧ m ≤ 1000000 ∧
  ∀ (r : Int) (H' : Hp), 0 ≤ r → r < m → Stm H' a (n + 1) → (∀ b, b ≠ a → H' b = H b) → Q (.int r) H'
section
variable {P : Program} {w : World} {K : PySem.W.Frag} {mg : Str → Option Value} {base : Heap}
theorem sc_stream : FnScope ["_law_script", "_law_k", "_law_cell"] ["_law_script", "_law_k"] (defScope s_L_stream) := ⟨rfl, rfl, rfl, by decide +kernel, rfl, by decide +kernel, by decide +kernel⟩
theorem ok_stream (D : DefAt K mg "_law_stream" s_L_stream ["_law_script", "_law_k"]) (B : TxB mg) : FnOk P w K mg base CX0 2 D.f D.fd ["_law_script", "_law_k"] (spStream K) := by
  refine D.F.ok sc_stream (fun vs H Q E h => ?_) (fun cdv A outer s H vs Q E hr h => ?_)
  · obtain ⟨a, ns, k, rfl, _⟩ := h
    rfl
  · obtain ⟨a, ns, k, rfl, hS, h0, h1, hq⟩ := h
    refine ⟨_, pss_cons (ps_set (i := 2) sc_stream.nd rfl (.inl rfl) (pe_ifExp (pt_cmpR op_lt (pv 1) (pe_callB call_len_seq (by rfl) B.len PySem.boot_len (pa_cons (pv 0) pa_nil)) (nomark _)) (pe_callB call_abs (by rfl) B.abs (by decide +kernel) (pa_cons (pe_ix ix_list (pv 0) (pv 1) (fun _ _ => rfl)) pa_nil)) pe_int))
      (pss_one (ps_ret (pe_lst (pa_cons (pe_ifExp (pt_cmpR op_ge (pv 2) (pe_op op_pow pe_int pe_int) (nomark _)) (pv 2) pe_int) (pa_cons (pe_op op_add (pe_op op_modN (pe_callTy call_int1 (by rfl) B.int (by decide +kernel) (pa_cons (pv 2) pa_nil)) pe_int) (pe_op op_mul pe_int (pv 1))) (pa_cons pe_int pa_nil)))))), ?_⟩
    refine ⟨_, rfl, _, rfl, a, _, rfl, .inl hS, _, _, rfl, rfl, _, rfl, ?_⟩
    have fin : ∀ c : Int, 0 ≤ c → 0 ≤ c.fmod 2147483647 + 31 * k ∧ c.fmod 2147483647 + 31 * k < 1099511627776 := fun c hc => by
      have e := Int.fmod_eq_emod_of_nonneg c (show (0 : Int) ≤ 2147483647 by decide)
      omega
    refine ite2 (fun h => ?_) (fun h => ?_)
    · have hlt := of_decide_eq_true h
      rw [List.length_map] at hlt
      obtain ⟨v, hv⟩ : ∃ v, ns[k.toNat]? = some v := ⟨ns[k.toNat]'(by omega), List.getElem?_eq_getElem (by omega)⟩
      refine ⟨_, rfl, _, rfl, a, _, _, .int v, rfl, rfl, hS, at_of (j := k.toNat) (by omega) (by rw [List.getElem?_map, hv]; rfl), _, rfl, ?_⟩
      have hc : (0 : Int) ≤ if v < 0 then -v else v := by split <;> omega
      generalize (if v < 0 then -v else v) = c at hc
      refine ⟨_, rfl, _, _, rfl, rfl, ⟨by decide, by decide, by decide⟩, _, _, rfl, rfl, _, rfl, ?_⟩
      refine ite2 (fun h => ?_) (fun h => ?_)
      · exact ⟨_, rfl, _, rfl, .inl ⟨_, rfl, _, _, rfl, rfl, ne_lit (by decide), _, rfl, _, _, rfl, rfl, .inl ⟨by decide, by decide⟩, _, _, rfl, rfl, (by show 3 ≤ sizeLine; decide), fun p hp => hq p _ _ hp hc (fin c hc).1 (fin c hc).2⟩⟩
      · exact ⟨_, rfl, .inl ⟨_, rfl, _, _, rfl, rfl, ne_lit (by decide), _, rfl, _, _, rfl, rfl, .inl ⟨by decide, by decide⟩, _, _, rfl, rfl, (by show 3 ≤ sizeLine; decide), fun p hp => hq p _ _ hp (by decide) (fin c hc).1 (fin c hc).2⟩⟩
    · have hc : (0 : Int) ≤ 0 := Int.le_refl 0
      refine ⟨_, rfl, _, _, rfl, rfl, ⟨by decide, by decide, by decide⟩, _, _, rfl, rfl, _, rfl, ?_⟩
      refine ite2 (fun h => ?_) (fun h => ?_)
      · exact ⟨_, rfl, _, rfl, .inl ⟨_, rfl, _, _, rfl, rfl, ne_lit (by decide), _, rfl, _, _, rfl, rfl, .inl ⟨by decide, by decide⟩, _, _, rfl, rfl, (by show 3 ≤ sizeLine; decide), fun p hp => hq p _ _ hp hc (fin 0 hc).1 (fin 0 hc).2⟩⟩
      · exact ⟨_, rfl, .inl ⟨_, rfl, _, _, rfl, rfl, ne_lit (by decide), _, rfl, _, _, rfl, rfl, .inl ⟨by decide, by decide⟩, _, _, rfl, rfl, (by show 3 ≤ sizeLine; decide), fun p hp => hq p _ _ hp (by decide) (fin 0 hc).1 (fin 0 hc).2⟩⟩
theorem sc_draw : FnScope ["_law_stream_here", "_law_many", "_law_digit", "_law_spread"] ["_law_stream_here", "_law_many"] (defScope s_L_draw) := ⟨rfl, rfl, rfl, by decide +kernel, rfl, by decide +kernel, by decide +kernel⟩
theorem ok_draw (D : DefAt K mg "_law_draw" s_L_draw ["_law_stream_here", "_law_many"]) (B : TxB mg) : FnOk P w K mg base CX0 2 D.f D.fd ["_law_stream_here", "_law_many"] spDraw := by
  refine D.F.ok sc_draw (fun vs H Q E h => ?_) (fun cdv A outer s H vs Q E hr h => ?_)
  · obtain ⟨a, m, n, rfl, _⟩ := h
    rfl
  · obtain ⟨a, m, n, rfl, ⟨x, y, z, e, hx, hy, hy1, hz, hzn⟩, hn, hm, hm1, hq⟩ := h
    have eS := SqL.of (K := K) e
    refine ⟨_, pss_cons (ps_if (pt_cmpR op_gt (pe_ix ix_list (pv 0) pe_int (fun _ _ => rfl)) pe_int (nomark _))
        (pss_cons (ps_set (i := 2) sc_draw.nd rfl (.inl rfl) (pe_op op_modN (pe_callTy call_int1 (by rfl) B.int (by decide +kernel) (pa_cons (pe_ix ix_list (pv 0) pe_int (fun _ _ => rfl)) pa_nil)) (pv 1)))
        (pss_cons (ps_asg (pe_op op_fdivN (pe_ix ix_list (pv 0) pe_int (fun _ _ => rfl)) (pv 1)) (pg_sub (pv 0) pe_int set_list))
        (pss_one (ps_ret (pv 2))))) pss_nil)
      (pss_cons (ps_asg (pe_op op_add (pe_ix ix_list (pv 0) pe_int (fun _ _ => rfl)) pe_int) (pg_sub (pv 0) pe_int set_list))
      (pss_cons (ps_set (i := 3) sc_draw.nd rfl (.inl rfl) (pe_op op_modN (pe_op op_pow (pe_callTy call_int1 (by rfl) B.int (by decide +kernel) (pa_cons (pe_op op_add (pe_op op_add (pe_ix ix_list (pv 0) pe_int (fun _ _ => rfl)) (pe_op op_mul pe_int (pe_ix ix_list (pv 0) pe_int (fun _ _ => rfl)))) pe_int) pa_nil)) pe_int) pe_int))
      (pss_one (ps_ret (pe_op op_modN (pe_op op_fdivN (pe_op op_modN (pe_callTy call_int1 (by rfl) B.int (by decide +kernel) (pa_cons (pe_op op_mul (pe_op op_add (pv 3) (pe_ix ix_list (pv 0) pe_int (fun _ _ => rfl))) pe_int) pa_nil)) pe_int) pe_int) (pv 1)))))), ?_⟩
    have g0 : ∀ x y z : Int, atI [V.int x, .int y, .int z] 0 = some (.int x) := fun _ _ _ => rfl
    have g1 : ∀ x y z : Int, atI [V.int x, .int y, .int z] 1 = some (.int y) := fun _ _ _ => rfl
    have g2 : ∀ x y z : Int, atI [V.int x, .int y, .int z] 2 = some (.int z) := fun _ _ _ => rfl
    refine ⟨_, rfl, a, _, _, _, rfl, rfl, eS, g0 _ _ _, _, _, rfl, rfl, _, rfl, ?_⟩
    refine ite2 (fun h => ?_) (fun h => ?_)
    · have hx0 := of_decide_eq_true h
      refine ⟨_, rfl, a, _, _, _, rfl, rfl, eS, g0 _ _ _, .inl ⟨_, rfl, _, rfl, _, _, rfl, rfl, (by omega), ?_⟩⟩
      refine ⟨_, rfl, a, _, _, _, rfl, rfl, eS, g0 _ _ _, _, rfl, _, _, rfl, rfl, ⟨by omega, by omega⟩, _, rfl, a, _, _, 0, rfl, rfl, e, rfl, _, rfl, ?_⟩
      have e2 := Int.fdiv_eq_ediv_of_nonneg x (show (0 : Int) ≤ m by omega)
      exact hq _ _ (fm_in _ hm).1 (fm_in _ hm).2 ⟨x.fdiv m, y, z, upd_same, by rw [e2]; exact Int.ediv_nonneg hx (by omega), hy, hy1, hz, by omega⟩ fun b hb => upd_ne hb
    · refine ⟨_, rfl, a, _, _, _, rfl, rfl, eS, g2 _ _ _, _, _, rfl, rfl, _, rfl, a, _, _, 2, rfl, rfl, e, rfl, ?_⟩
      have e' : (upd H a (.lst [V.int x, .int y, .int (z + 1)])) a = some (.lst [V.int x, .int y, .int (z + 1)]) := upd_same
      have eS' := SqL.of (K := K) e'
      refine ⟨_, rfl, a, _, _, _, rfl, rfl, eS', g1 _ _ _, _, rfl, a, _, _, _, rfl, rfl, eS', g2 _ _ _, _, _, rfl, rfl, .inl ⟨by decide, by decide⟩, _, _, rfl, rfl, _, _, rfl, rfl, .inl ⟨_, rfl, _, _, rfl, rfl, ⟨by decide, by decide, by omega⟩, _, _, rfl, rfl, ne_lit (by decide), ?_⟩⟩
      have e3 := Int.fmod_eq_emod_of_nonneg ((y + 7919 * (z + 1) + 104729) ^ (5 : Int).toNat) (show (0 : Int) ≤ 2147483647 by decide)
      generalize (y + 7919 * (z + 1) + 104729) ^ (5 : Int).toNat = g at e3
      have b1 := Int.emod_nonneg g (show (2147483647 : Int) ≠ 0 by decide)
      have b2 := Int.emod_lt_of_pos g (show (0 : Int) < 2147483647 by decide)
      rw [← e3] at b1 b2
      generalize g.fmod 2147483647 = u at b1 b2
      refine ⟨_, rfl, _, rfl, a, _, _, _, rfl, rfl, eS', g2 _ _ _, _, _, rfl, rfl, _, _, rfl, rfl, .inl ⟨by omega, by omega⟩, .inl ⟨_, rfl, _, _, rfl, rfl, ne_lit (by decide), _, _, rfl, rfl, ⟨by decide, by decide⟩, _, rfl, _, _, rfl, rfl, by omega, ?_⟩⟩
      exact hq _ _ (fm_in _ hm).1 (fm_in _ hm).2 ⟨x, y, z + 1, upd_same, hx, hy, hy1, by omega, by omega⟩ fun b hb => upd_ne hb
end
end Ts

set_option maxRecDepth 100000
set_option maxHeartbeats 4000000
namespace Ts
open PySem L2
/-- an item of a list, or a sign of a text, that is drawn -/
def spPick (K : PySem.W.Frag) : Sp := fun vs H Q _ =>
  (∃ (a l : Addr) (n : Int) (xs : List V), vs = [.ref a, .ref l] ∧ Stm H a n ∧ n ≤ 1099511627776 ∧ l ≠ a ∧ SqL K H l xs ∧ 1 ≤ xs.length ∧ xs.length ≤ 1000000 ∧
    ∀ (v : V) (H' : Hp), v ∈ xs → Stm H' a (n + 1) → SB a H H' → (∀ b, H b = none → H' b = none) → Q v H') ∨
  (∃ (a : Addr) (z : Str) (n : Int), vs = [.ref a, .str z] ∧ Stm H a n ∧ n ≤ 1099511627776 ∧ 1 ≤ z.length ∧ z.length ≤ 1000000 ∧
    ∀ (c : Nat) (H' : Hp), c ∈ z.cps.toList → Stm H' a (n + 1) → SB a H H' → (∀ b, H b = none → H' b = none) → Q (.str ⟨#[c]⟩) H')
theorem sb_eq {a : Addr} {H H' : Hp} (h : ∀ b, b ≠ a → H' b = H b) : SB a H H' := fun b o n e => by rw [h b n]; exact e
theorem free_eq {a : Addr} {n : Int} {H H' : Hp} (s : Stm H a n) (h : ∀ b, b ≠ a → H' b = H b) (b : Addr) (hb : H b = none) : H' b = none := by rw [h b (s.ne hb).symm]; exact hb
/-- a name as it is drawn: 1, 2, 3 or 8 letters -/
def Low (z : Str) : Prop := ∀ c ∈ z.cps.toList, 97 ≤ c ∧ c ≤ 122
def Drawn (z : Str) : Prop := (z.length = 1 ∨ z.length = 2 ∨ z.length = 3 ∨ z.length = 8) ∧ Low z
def NameShape (z : Str) : Prop := ((z.length = 1 ∨ z.length = 2 ∨ z.length = 3 ∨ z.length = 8) ∨ z.length = 4) ∧ Low z
theorem Drawn.shape {z : Str} (h : Drawn z) : NameShape z := ⟨.inl h.1, h.2⟩
def spName : Sp := fun vs H Q _ => ∃ (a : Addr) (n : Int), vs = [.ref a] ∧ Stm H a n ∧ n ≤ 549755813888 ∧
  ∀ (z : Str) (H' : Hp), Drawn z → Stm H' a (n + 9) → SB a H H' → Q (.str z) H'
theorem abc_low : ∀ c ∈ ("abcdefghijklmnopqrstuvwxyz" : Str).cps.toList, 97 ≤ c ∧ c ≤ 122 := by decide +kernel
theorem abc_len : ("abcdefghijklmnopqrstuvwxyz" : Str).length = 26 := by decide +kernel
theorem join_empty : ∀ (ys : List Str), (Str.join ("" : Str) ys).cps.toList = (ys.map fun y => y.cps.toList).flatten
  | [] => rfl
  | [x] => by simp [Str.join]
  | x :: y :: r => by
    have ih := join_empty (y :: r)
    have e : ("" : Str).cps.toList = [] := by decide +kernel
    show ((x.cps ++ ("" : Str).cps) ++ (Str.join "" (y :: r)).cps).toList = _
    rw [Array.toList_append, Array.toList_append, ih, e]
    simp
theorem tYes_if {σ : St} {H : Hp} {A B : Hp → Prop} (h : A H) : tYes σ H (fun b H3 => if b = true then A H3 else B H3) := by
  show if true = true then A H else B H
  rw [if_pos rfl]
  exact h
/-- signs put together -/
def signs (cs : List Nat) : List Str := cs.map fun c => ⟨#[c]⟩
theorem join_signs (cs : List Nat) : (Txt.join ("" : Str) (signs cs)).cps.toList = cs := by
  rw [TL.join_eq, join_empty]
  unfold signs
  induction cs with
  | nil => rfl
  | cons c r ih =>
    simp only [List.map_cons, List.flatten_cons] at ih ⊢
    rw [ih]
    rfl
theorem len_toList (z : Str) : z.length = z.cps.toList.length := by simp [Str.length]
section
variable {P : Program} {w : World} {K : PySem.W.Frag} {mg : Str → Option Value} {base : Heap}
theorem sc_pick : FnScope ["_law_stream_here", "_law_things"] ["_law_stream_here", "_law_things"] (defScope s_L_pick) := ⟨rfl, rfl, rfl, by decide +kernel, rfl, by decide +kernel, by decide +kernel⟩
theorem ok_pick (D : DefAt K mg "_law_pick" s_L_pick ["_law_stream_here", "_law_things"]) (Dd : DefAt K mg "_law_draw" s_L_draw ["_law_stream_here", "_law_many"]) (B : TxB mg) : FnOk P w K mg base CX0 3 D.f D.fd ["_law_stream_here", "_law_things"] (spPick K) := by
  have G : FnOk P w K mg base CX0 2 Dd.f Dd.fd ["_law_stream_here", "_law_many"] spDraw := ok_draw Dd B
  refine D.F.ok sc_pick (fun vs H Q E h => ?_) (fun cdv A outer s H vs Q E hr h => ?_)
  · rcases h with ⟨a, l, n, xs, rfl, _⟩ | ⟨a, z, n, rfl, _⟩ <;> rfl
  · rcases h with ⟨a, l, n, xs, rfl, hs, hn, la, hl, h1, h2, hq⟩ | ⟨a, z, n, rfl, hs, hn, h1, h2, hq⟩
    · refine ⟨_, pss_one (ps_ret (pe_ix ix_list (pv 1) (pe_call G hr rfl Dd.g Dd.F.kp Dd.b .nil pass0 (pa_cons (pv 0) (pa_cons (pe_callB call_len_seq (by rfl) B.len PySem.boot_len (pa_cons (pv 1) pa_nil)) pa_nil))) (fun _ _ => rfl))), ?_⟩
      refine ⟨_, rfl, _, rfl, _, rfl, l, xs, rfl, .inl hl, a, xs.length, n, rfl, hs, hn, by omega, by omega, fun r H' r0 r1 hs' he => ?_⟩
      have hk : r.toNat < xs.length := by omega
      exact ⟨l, xs, r, xs[r.toNat], rfl, rfl, (sb_eq he).seqL la hl, at_of (j := r.toNat) (by omega) (List.getElem?_eq_getElem hk), hq _ _ (List.getElem_mem hk) hs' (sb_eq he) (free_eq hs he)⟩
    · refine ⟨_, pss_one (ps_ret (pe_item_str (pv 1) (pe_call G hr rfl Dd.g Dd.F.kp Dd.b .nil pass0 (pa_cons (pv 0) (pa_cons (pe_callB call_len (by rfl) B.len PySem.boot_len (pa_cons (pv 1) pa_nil)) pa_nil))) (fun _ _ => rfl))), ?_⟩
      refine ⟨_, rfl, _, rfl, _, rfl, _, z.length, rfl, ⟨Nat.le_trans h2 (by decide), rfl⟩, a, z.length, n, rfl, hs, hn, by omega, by omega, fun r H' r0 r1 hs' he => ?_⟩
      have hk : r.toNat < z.cps.size := by
        have : z.length = z.cps.size := rfl
        omega
      exact ⟨z, r, z.cps[r.toNat], rfl, rfl, r0, by omega, r1, Array.getElem?_eq_getElem hk, hq _ _ (by simp) hs' (sb_eq he) (free_eq hs he)⟩
theorem sc_name : FnScope ["_law_stream_here", "_law_size", "_law_k"] ["_law_stream_here"] (defScope s_L_name) := ⟨rfl, rfl, rfl, by decide +kernel, rfl, by decide +kernel, by decide +kernel⟩
theorem ok_name (D : DefAt K mg "_law_name" s_L_name ["_law_stream_here"]) (Dp : DefAt K mg "_law_pick" s_L_pick ["_law_stream_here", "_law_things"]) (Dd : DefAt K mg "_law_draw" s_L_draw ["_law_stream_here", "_law_many"]) (B : TxB mg) :
    FnOk P w K mg base CX0 4 D.f D.fd ["_law_stream_here"] spName := by
  have Gd : FnOk P w K mg base CX0 2 Dd.f Dd.fd ["_law_stream_here", "_law_many"] spDraw := ok_draw Dd B
  have Gp : FnOk P w K mg base CX0 3 Dp.f Dp.fd ["_law_stream_here", "_law_things"] (spPick K) := ok_pick Dp Dd B
  refine D.F.ok sc_name (fun vs H Q E h => ?_) (fun cdv A outer s H vs Q E hr h => ?_)
  · obtain ⟨a, n, rfl, _⟩ := h
    rfl
  · obtain ⟨a, n, rfl, hs, hn, hq⟩ := h
    refine ⟨_, pss_cons (ps_set (i := 1) sc_name.nd rfl (.inl rfl) (pe_ix ix_list (pe_lst (pa_cons pe_int (pa_cons pe_int (pa_cons pe_int (pa_cons pe_int (pa_cons pe_int pa_nil)))))) (pe_call Gd (hr.mono (by decide)) rfl Dd.g Dd.F.kp Dd.b .nil pass0 (pa_cons (pv 0) (pa_cons pe_int pa_nil))) (fun _ _ => rfl)))
      (pss_one (ps_ret (pe_join pe_str (pe_lc (own := [("_law_k", 2)]) (g := gName 2) (tt := tYes) (by rfl) sc_name.nd (pi_range1 (by rfl) B.range (pa_cons (pv 1) pa_nil)) (blkOk_by (N := ["_law_stream_here", "_law_size", "_law_k"]) (sc := defScope s_L_name) (by decide +kernel))
        (fun _ _ _ _ _ => pg_name (i := 2) sc_name.nd rfl (Or.inl rfl)) (fun _ _ _ _ _ => pts_nil) (fun _ _ _ _ _ => pe_call Gp hr rfl Dp.g Dp.F.kp Dp.b .nil pass0 (pa_cons (pv 0) (pa_cons pe_str pa_nil))))))), ?_⟩
    refine ⟨(by show 5 ≤ sizeLine; decide), fun l hl => ?_⟩
    refine ⟨_, rfl, a, 5, n, rfl, hs.upd hl, by omega, by decide, by decide, fun r H1 r0 r1 hs1 he1 => ?_⟩
    have la : l ≠ a := (hs.ne hl).symm
    have e1 : H1 l = some (.lst [V.int 1, .int 1, .int 2, .int 3, .int 8]) := by rw [he1 l la]; exact upd_same
    have sb1 : SB a H H1 := (SB.upd hl).trans (sb_eq he1)
    obtain ⟨m, hm, hm4⟩ : ∃ m : Int, atI [V.int 1, .int 1, .int 2, .int 3, .int 8] r = some (.int m) ∧ (m = 1 ∨ m = 2 ∨ m = 3 ∨ m = 8) := by
      obtain rfl | rfl | rfl | rfl | rfl : r = 0 ∨ r = 1 ∨ r = 2 ∨ r = 3 ∨ r = 4 := by omega
      · exact ⟨1, rfl, by decide⟩
      · exact ⟨1, rfl, by decide⟩
      · exact ⟨2, rfl, by decide⟩
      · exact ⟨3, rfl, by decide⟩
      · exact ⟨8, rfl, by decide⟩
    refine ⟨l, _, r, .int m, rfl, rfl, SqL.of e1, hm, ⟨_, rfl⟩, ?_⟩
    refine ⟨_, rfl, m, rfl, by omega, by omega, fun Dl hD => ?_⟩
    refine lc_range (lo := 0) (n := m.toNat) (fun i H2 => ∃ cs : List Nat, cs.length = i ∧ (∀ c ∈ cs, 97 ≤ c ∧ c ≤ 122) ∧ H2 Dl = some (.lst ((signs cs).map V.str)) ∧ Stm H2 a (n + 1 + i) ∧ SB a H1 H2) ?_ ?_ ?_
    · exact ⟨[], rfl, (fun c hc => by cases hc), upd_same, (by simpa using hs1.upd (o := .lst []) hD), SB.upd hD⟩
    · rintro i H2 hi ⟨cs, hcl, hlow, hDl, hs2, sb2⟩
      refine ⟨rfl, tYes_if ?_⟩
      have Da : Dl ≠ a := (hs1.ne hD).symm
      refine ⟨_, rfl, .inr ⟨a, _, _, rfl, hs2, by omega, by rw [abc_len]; decide, by rw [abc_len]; decide, fun c H3 hc hs3 sb3 _ => ?_⟩⟩
      refine ⟨(signs cs).map V.str, sb3 _ _ Da hDl, ?_, cs ++ [c], by simp [hcl], ?_, ?_, ?_, ?_⟩
      · rw [List.length_map]
        unfold signs
        rw [List.length_map, hcl]
        exact Nat.lt_of_lt_of_le hi (Nat.le_trans (show m.toNat ≤ 8 by omega) (by decide))
      · intro d hd
        rcases List.mem_append.mp hd with h | h
        · exact hlow d h
        · rw [List.mem_singleton.mp h]; exact abc_low c hc
      · rw [upd_same]; simp [signs]
      · have q := hs3
        obtain ⟨x, y, z, e, r⟩ := q
        refine ⟨x, y, z, ?_, r.1, r.2.1, r.2.2.1, r.2.2.2.1, by have := r.2.2.2.2; push_cast; omega⟩
        rw [upd_ne Da.symm]; exact e
      · intro b o hb e
        rw [upd_ne (fun q => by rw [q, hD] at e; cases e)]
        exact sb3 b o hb (sb2 b o hb e)
    · rintro H2 ⟨cs, hcl, hlow, hDl, hs2, sb2⟩
      refine ⟨_, Dl, signs cs, rfl, rfl, .inl (SqL.of hDl), ?_, ?_⟩
      · have e0 : ("" : Str).length = 0 := by decide +kernel
        rw [e0]
        have : ((signs cs).map (·.length)).sum = cs.length := by
          unfold signs
          clear hDl hcl hlow
          induction cs with
          | nil => rfl
          | cons c r ih => simp only [List.map_cons, List.sum_cons, ih, List.length_cons]; show 1 + r.length = r.length + 1; omega
        rw [this, hcl]; omega
      · refine hq _ _ ⟨?_, ?_⟩ (hs2.mono (by omega)) (sb1.trans sb2)
        · rw [len_toList, join_signs, hcl]; omega
        · intro c hc
          rw [join_signs] at hc
          exact hlow c hc
end
end Ts

set_option maxRecDepth 100000
set_option maxHeartbeats 4000000
namespace Ts
open PySem L2
/-! ### rows of trees -/
structure Row where
  nm : Str
  fo : Str
  ki : Str
  pr : Option Int
  deriving DecidableEq
def prV : Option Int → V
  | none => .non
  | some i => .int i
def rowVs (r : Row) : List V := [.str r.nm, .str r.fo, .str r.ki, prV r.pr]
structure RowsAt (H : Hp) (as : List Addr) (rs : List Row) : Prop where
  len : as.length = rs.length
  at_ : ∀ (i : Nat) (a : Addr) (r : Row), as[i]? = some a → rs[i]? = some r → H a = some (.tup (rowVs r))
theorem RowsAt.same {H H' : Hp} {as : List Addr} {rs : List Row} (h : RowsAt H as rs) (s : Same H H') : RowsAt H' as rs := ⟨h.len, fun i a r ha hr => s _ _ (h.at_ i a r ha hr)⟩
theorem RowsAt.sb {H H' : Hp} {as : List Addr} {rs : List Row} {p : Addr} {xs : List V} (h : RowsAt H as rs) (hp : H p = some (.lst xs)) (s : SB p H H') : RowsAt H' as rs :=
  ⟨h.len, fun i a r ha hr => s _ _ (fun q => by have e := h.at_ i a r ha hr; rw [q, hp] at e; cases e) (h.at_ i a r ha hr)⟩
theorem RowsAt.nil {H : Hp} : RowsAt H [] [] := ⟨rfl, fun i a r ha => by simp at ha⟩
theorem RowsAt.snoc {H : Hp} {as : List Addr} {rs : List Row} {a : Addr} {r : Row} (h : RowsAt H as rs) (ha : H a = some (.tup (rowVs r))) : RowsAt H (as ++ [a]) (rs ++ [r]) := by
  refine ⟨by simp [h.len], fun i b q hb hq => ?_⟩
  rcases Nat.lt_or_ge i as.length with hi | hi
  · rw [List.getElem?_append_left hi] at hb
    rw [List.getElem?_append_left (h.len ▸ hi)] at hq
    exact h.at_ i b q hb hq
  · rw [List.getElem?_append_right hi] at hb
    rw [List.getElem?_append_right (h.len ▸ hi)] at hq
    have e0 : i - as.length = 0 := by
      have := (List.getElem?_eq_some_iff.mp hb).1
      simp at this
      omega
    have e1 : i - rs.length = 0 := by rw [← h.len]; exact e0
    rw [e0] at hb
    rw [e1] at hq
    simp at hb hq
    subst hb; subst hq
    exact ha
def kinds3 : List Str := ["folder", "item", "shut"]
def PriceOk : Option Int → Prop
  | none => True
  | some i => 1 ≤ i
/-- what a row must be behind others -/
structure Fits (pre : List Row) (r : Row) : Prop where
  shape : NameShape r.nm
  top : r.nm ≠ ("top" : Str)
  new : r.nm ∉ pre.map (·.nm)
  home : r.fo = ("top" : Str) ∨ ∃ q ∈ pre, q.nm = r.fo ∧ q.ki = ("folder" : Str)
  kind : r.ki ∈ kinds3
  price : PriceOk r.pr
def Valid (rs : List Row) : Prop := ∀ i r, rs[i]? = some r → Fits (rs.take i) r
theorem Valid.nil : Valid [] := fun i r h => by simp at h
theorem Valid.snoc {rs : List Row} {r : Row} (h : Valid rs) (f : Fits rs r) : Valid (rs ++ [r]) := by
  intro i q hq
  rcases Nat.lt_or_ge i rs.length with hi | hi
  · rw [List.getElem?_append_left hi] at hq
    rw [List.take_append_of_le_length (Nat.le_of_lt hi)]
    exact h i q hq
  · rw [List.getElem?_append_right hi] at hq
    have e0 : i - rs.length = 0 := by
      have := (List.getElem?_eq_some_iff.mp hq).1
      simp at this
      omega
    rw [e0] at hq
    simp at hq
    subst hq
    have e : i = rs.length := by omega
    rw [e, List.take_append_of_le_length (Nat.le_refl _), List.take_length]
    exact f
/-! ### looking for texts in lists -/
theorem eqV_str (x y : Str) : eqV (.str x) (.str y) = decide (x = y) := by
  by_cases h : x = y
  · subst h
    simp [eqV]
  · simp [eqV, h]
theorem inV_strs (z : Str) : ∀ l : List Str, inV (.str z) (l.map V.str) = decide (z ∈ l)
  | [] => by simp [inV]
  | x :: l => by
    have ih := inV_strs z l
    unfold inV at ih ⊢
    rw [List.map_cons, List.any_cons, ih, eqV_str]
    by_cases h : x = z
    · subst h; simp
    · have h' : ¬ z = x := fun e => h e.symm
      simp [h, h']
theorem flat_strs (l : List Str) : (l.map V.str).all flatV = true := by
  rw [List.all_eq_true]
  intro v hv
  obtain ⟨z, _, rfl⟩ := List.mem_map.mp hv
  rfl
theorem low_cat {x y : Str} (hx : Low x) (hy : Low y) : Low (x ++ y) := by
  intro c hc
  have e : (x ++ y).cps.toList = x.cps.toList ++ y.cps.toList := by
    show (x.cps ++ y.cps).toList = _
    simp
  rw [e] at hc
  rcases List.mem_append.mp hc with h | h
  · exact hx c h
  · exact hy c h
theorem len_cat (x y : Str) : (x ++ y).length = x.length + y.length := by
  show (x.cps ++ y.cps).size = _
  simp [Str.length]
end Ts
namespace Ts
open PySem L2
/-! ### dicts by what they have -/
structure MemD (H : Hp) (d : Addr) (l : List Str) : Prop where
  ex : ∃ kv : List (Key × V), H d = some (.dK kv) ∧ (∀ z : Str, (valV kv (.inr z : Key)).isSome = decide (z ∈ l)) ∧ kv.length ≤ l.length
theorem MemD.same {H H' : Hp} {d : Addr} {l : List Str} (m : MemD H d l) (e : H' d = H d) : MemD H' d l := by
  obtain ⟨kv, h⟩ := m.ex
  exact ⟨kv, by rw [e]; exact h⟩
theorem putK_le (kv : List (Key × V)) (k : Key) (v : V) : (putK kv k v).length ≤ kv.length + 1 := by
  unfold putK
  split
  · rw [List.length_map]; exact Nat.le_succ _
  · rw [List.length_append, List.length_singleton]; exact Nat.le_refl _
theorem mem_put {kv : List (Key × V)} {l : List Str} (h : ∀ z : Str, (valV kv (.inr z : Key)).isSome = decide (z ∈ l)) (x : Str) (v : V) (z : Str) : (valV (putK kv (.inr x) v) (.inr z : Key)).isSome = decide (z ∈ l ++ [x]) := by
  rw [valV_put]
  by_cases e : z = x
  · subst e
    simp
  · have e' : ¬ (Sum.inr z : Key) = Sum.inr x := fun q => e (Sum.inr.inj q)
    rw [if_neg e', h z]
    simp [e]
theorem MemD.put {H : Hp} {d : Addr} {l : List Str} {kv : List (Key × V)} (hk : ∀ z : Str, (valV kv (.inr z : Key)).isSome = decide (z ∈ l)) (hl : kv.length ≤ l.length) (x : Str) (v : V) : MemD (upd H d (.dK (putK kv (.inr x) v))) d (l ++ [x]) :=
  ⟨_, upd_same, mem_put hk x v, by have := putK_le kv (.inr x) v; rw [List.length_append, List.length_singleton]; omega⟩
/-- rows as tuples or lists -/
structure SeqRows (H : Hp) (as : List Addr) (rs : List Row) : Prop where
  len : as.length = rs.length
  at_ : ∀ (i : Nat) (a : Addr) (r : Row), as[i]? = some a → rs[i]? = some r → H a = some (.tup (rowVs r)) ∨ H a = some (.lst (rowVs r))
theorem SeqRows.same {H H' : Hp} {as : List Addr} {rs : List Row} (h : SeqRows H as rs) (s : Same H H') : SeqRows H' as rs := ⟨h.len, fun i a r ha hr => (h.at_ i a r ha hr).imp (s _ _) (s _ _)⟩
theorem RowsAt.seq {H : Hp} {as : List Addr} {rs : List Row} (h : RowsAt H as rs) : SeqRows H as rs := ⟨h.len, fun i a r ha hr => .inl (h.at_ i a r ha hr)⟩
/-- what a row must be behind others, names and folders that stand already -/
structure FitsB (ns hs : List Str) (pre : List Row) (r : Row) : Prop where
  shape : NameShape r.nm
  top : r.nm ≠ ("top" : Str)
  new : r.nm ∉ ns ++ pre.map (·.nm)
  home : r.fo ∈ hs ++ (pre.filter fun q => decide (q.ki = ("folder" : Str))).map (·.nm)
  kind : r.ki ∈ kinds3
  price : PriceOk r.pr
theorem Fits.b {pre : List Row} {r : Row} (f : Fits pre r) : FitsB [] [("top" : Str)] pre r :=
  ⟨f.shape, f.top, by simpa using f.new, by
    rcases f.home with h | ⟨q, hq, h1, h2⟩
    · rw [h]; simp
    · refine List.mem_append.mpr (.inr (List.mem_map.mpr ⟨q, List.mem_filter.mpr ⟨hq, decide_eq_true h2⟩, h1⟩)), f.kind, f.price⟩
end Ts

set_option maxRecDepth 100000
set_option maxHeartbeats 4000000
namespace Ts
open PySem L2
def kindsL : List Str := ["folder", "folder", "item", "item", "item", "shut"]
def pricesL : List (Option Int) := [some 1, some 1, some 1, some 2, some 3, some 7, none]
def spKinds : Sp := fun vs H Q _ => vs = [] ∧ ∀ p, H p = none → Q (.ref p) (upd H p (.lst (kindsL.map V.str)))
def spPrices : Sp := fun vs H Q _ => vs = [] ∧ ∀ p, H p = none → Q (.ref p) (upd H p (.lst (pricesL.map prV)))
/-- the rows of a drawn tree: n mixed draws before, at most 13 more a row -/
def spRows (K : PySem.W.Frag) : Sp := fun vs H Q _ => ∃ (a kl pl : Addr) (many n : Int) (ks : List Str) (ps : List (Option Int)), vs = [.ref a, .int many, .ref kl, .ref pl] ∧ Stm H a n ∧ n ≤ 549755800000 ∧ 0 ≤ many ∧ many ≤ 40 ∧ kl ≠ a ∧ pl ≠ a ∧
  SqL K H kl (ks.map V.str) ∧ SqL K H pl (ps.map prV) ∧ 1 ≤ ks.length ∧ ks.length ≤ 1000 ∧ 1 ≤ ps.length ∧ ps.length ≤ 1000 ∧ (∀ k ∈ ks, k ∈ kinds3) ∧ (∀ q ∈ ps, PriceOk q) ∧
  ∀ (p : Addr) (as : List Addr) (rs : List Row) (H' : Hp), H p = none → p ≠ a → H' p = some (.lst (as.map V.ref)) → RowsAt H' as rs → Valid rs → (rs.length : Int) ≤ many → (1 ≤ many → rs ≠ []) → (∀ r ∈ rs, r.ki ∈ ks ∧ r.pr ∈ ps ∧ Drawn r.nm) → SB a H H' → Stm H' a (n + 13 * many) → Q (.ref p) H'
def folderNames (rs : List Row) : List Str := (rs.filter fun r => decide (r.ki = ("folder" : Str))).map (·.nm)
theorem top_len : ("top" : Str).length = 3 := by decide +kernel
theorem mem_cutV {xs : List V} {lo hi : Option Int} {v : V} (h : v ∈ cutV xs lo hi) : v ∈ xs := List.mem_of_mem_drop (List.mem_of_mem_take h)
theorem seq_ref {K : PySem.W.Frag} {H H' : Hp} {l : Addr} {xs : List V} (e : H' l = H l) (h : SqL K H l xs) : SqL K H' l xs := by
  rcases h with (h | ⟨o, h⟩) | h
  · exact .inl (.inl (by rw [e]; exact h))
  · exact .inl (.inr ⟨o, by rw [e]; exact h⟩)
  · exact .inr h
section
variable {P : Program} {w : World} {K : PySem.W.Frag} {mg : Str → Option Value} {base : Heap}
theorem sc_kinds : FnScope [] [] (defScope s_L_kinds) := ⟨rfl, rfl, rfl, by decide +kernel, rfl, by decide +kernel, by decide +kernel⟩
theorem ok_kinds (D : DefAt K mg "_law_kinds" s_L_kinds []) : FnOk P w K mg base CX0 2 D.f D.fd [] spKinds := by
  refine D.F.ok sc_kinds (fun vs H Q E h => ?_) (fun cdv A outer s H vs Q E hr h => ?_)
  · obtain ⟨rfl, _⟩ := h
    rfl
  · obtain ⟨rfl, hq⟩ := h
    refine ⟨_, pss_one (ps_ret (pe_lst (pa_cons pe_str (pa_cons pe_str (pa_cons pe_str (pa_cons pe_str (pa_cons pe_str (pa_cons pe_str pa_nil)))))))), ?_⟩
    exact ⟨(by show 6 ≤ sizeLine; decide), fun p hp => hq p hp⟩
theorem sc_prices : FnScope [] [] (defScope s_L_prices) := ⟨rfl, rfl, rfl, by decide +kernel, rfl, by decide +kernel, by decide +kernel⟩
theorem ok_prices (D : DefAt K mg "_law_prices" s_L_prices []) : FnOk P w K mg base CX0 2 D.f D.fd [] spPrices := by
  refine D.F.ok sc_prices (fun vs H Q E h => ?_) (fun cdv A outer s H vs Q E hr h => ?_)
  · obtain ⟨rfl, _⟩ := h
    rfl
  · obtain ⟨rfl, hq⟩ := h
    refine ⟨_, pss_one (ps_ret (pe_lst (pa_cons pe_int (pa_cons pe_int (pa_cons pe_int (pa_cons pe_int (pa_cons pe_int (pa_cons pe_int (pa_cons pe_non pa_nil))))))))), ?_⟩
    exact ⟨(by show 7 ≤ sizeLine; decide), fun p hp => hq p hp⟩
abbrev nRows : List Str := ["_law_stream_here", "_law_many", "_law_kinds_here", "_law_prices_here", "_law_rows_here", "_law_folders", "_law_names", "_law_k", "_law_name_here", "_law_kind", "_law_folder"]
theorem sc_rows : FnScope nRows ["_law_stream_here", "_law_many", "_law_kinds_here", "_law_prices_here"] (defScope s_L_rows) := ⟨rfl, rfl, rfl, by decide +kernel, rfl, by decide +kernel, by decide +kernel⟩
/-- what stands between two turns -/
structure RowsI (a p fl nl : Addr) (H0 H : Hp) (ks : List Str) (ps : List (Option Int)) (m : Int) (i : Nat) (as : List Addr) (rs : List Row) : Prop where
  hp : H p = some (.lst (as.map V.ref))
  hf : H fl = some (.lst ((("top" : Str) :: folderNames rs).map V.str))
  hn : H nl = some (.lst ((("top" : Str) :: rs.map (·.nm)).map V.str))
  rows : RowsAt H as rs
  val : Valid rs
  len : rs.length ≤ i
  mem : ∀ r ∈ rs, r.ki ∈ ks ∧ r.pr ∈ ps ∧ Drawn r.nm
  sb : SB a H0 H
  st : Stm H a m
theorem RowsI.step {a p fl nl : Addr} {H0 H H' : Hp} {ks : List Str} {ps : List (Option Int)} {m m' : Int} {i j : Nat} {as : List Addr} {rs : List Row} (h : RowsI a p fl nl H0 H ks ps m i as rs) (np : p ≠ a) (nf : fl ≠ a) (nn : nl ≠ a) (s : SB a H H') (hs : Stm H' a m') (hj : i ≤ j) :
    RowsI a p fl nl H0 H' ks ps m' j as rs := by
  obtain ⟨x, y, z, e, _⟩ := id h.st
  exact ⟨s _ _ np h.hp, s _ _ nf h.hf, s _ _ nn h.hn, h.rows.sb e s, h.val, Nat.le_trans h.len hj, h.mem, h.sb.trans s, hs⟩
theorem sign_at {z : Str} (h : Low z) {r : Int} (h0 : 0 ≤ r) (h1 : r < (z.length : Int)) : ∃ c, z.cps[r.toNat]? = some c ∧ Low ⟨#[c]⟩ := by
  have hk : r.toNat < z.cps.size := by
    have : z.length = z.cps.size := rfl
    omega
  refine ⟨z.cps[r.toNat], Array.getElem?_eq_getElem hk, fun c hc => ?_⟩
  have e : c = z.cps[r.toNat] := by simpa using hc
  rw [e]
  exact h _ (by simp)
theorem low_q : Low ("q" : Str) := by unfold Low; decide +kernel
theorem low_aj : Low ("abcdefghij" : Str) := by unfold Low; decide +kernel
theorem low_kp : Low ("klmnop" : Str) := by unfold Low; decide +kernel
theorem len_q : ("q" : Str).length = 1 := by decide +kernel
theorem len_aj : ("abcdefghij" : Str).length = 10 := by decide +kernel
theorem len_kp : ("klmnop" : Str).length = 6 := by decide +kernel
theorem szl {n : Nat} (h : n ≤ 1000) : n ≤ sizeLine := Nat.le_of_lt (small1000 h)
theorem folders_le (rs : List Row) : (folderNames rs).length ≤ rs.length := by
  unfold folderNames
  rw [List.length_map]
  exact List.length_filter_le _ _
theorem mem_folders {rs : List Row} {z : Str} (h : z ∈ folderNames rs) : ∃ q ∈ rs, q.nm = z ∧ q.ki = ("folder" : Str) := by
  obtain ⟨q, hq, e⟩ := List.mem_map.mp h
  obtain ⟨h1, h2⟩ := List.mem_filter.mp hq
  exact ⟨q, h1, e, of_decide_eq_true h2⟩
theorem folders_snoc (rs : List Row) (r : Row) : folderNames (rs ++ [r]) = folderNames rs ++ (if r.ki = ("folder" : Str) then [r.nm] else []) := by
  unfold folderNames
  rw [List.filter_append, List.map_append]
  by_cases h : r.ki = ("folder" : Str)
  · rw [if_pos h]; simp [h]
  · rw [if_neg h]; simp [h]
theorem q_top (c d : Nat) : (("q" : Str) ++ ⟨#[c]⟩) ++ ⟨#[d]⟩ ≠ ("top" : Str) := fun e => by
  have h : (#[113, c, d] : Array Nat) = #[116, 111, 112] := congrArg Str.cps e
  simp at h
theorem ok_rows (D : DefAt K mg "_law_rows" s_L_rows ["_law_stream_here", "_law_many", "_law_kinds_here", "_law_prices_here"]) (Dn : DefAt K mg "_law_name" s_L_name ["_law_stream_here"]) (Dp : DefAt K mg "_law_pick" s_L_pick ["_law_stream_here", "_law_things"]) (Dd : DefAt K mg "_law_draw" s_L_draw ["_law_stream_here", "_law_many"]) (B : TxB mg) :
    FnOk P w K mg base CX0 5 D.f D.fd ["_law_stream_here", "_law_many", "_law_kinds_here", "_law_prices_here"] (spRows K) := by
  have Gp : FnOk P w K mg base CX0 3 Dp.f Dp.fd ["_law_stream_here", "_law_things"] (spPick K) := ok_pick Dp Dd B
  have Gn : FnOk P w K mg base CX0 4 Dn.f Dn.fd ["_law_stream_here"] spName := ok_name Dn Dp Dd B
  refine D.F.ok sc_rows (fun vs H Q E h => ?_) (fun cdv A outer s H vs Q E hr h => ?_)
  · obtain ⟨a, kl, pl, many, n, ks, ps, rfl, _⟩ := h
    rfl
  · obtain ⟨a, kl, pl, many, n, ks, ps, rfl, hs, hn, hm0, hm1, hka, hpa, hks, hps, k1, k2, p1, p2, hkok, hpok, hq⟩ := h
    have hr2 : Room 3 _ := hr.mono (by decide)
    refine ⟨_, pss_cons (ps_par3 (i := 4) (j := 5) (l := 6) rfl sc_rows.nd rfl rfl rfl (by decide) (by decide) (by decide) rfl rfl rfl (pa_cons (pe_lst pa_nil) (pa_cons (pe_lst (pa_cons pe_str pa_nil)) (pa_cons (pe_lst (pa_cons pe_str pa_nil)) pa_nil))) (by rfl))
      (pss_cons (ps_for PassesOwn.never rfl (pi_range1 (by rfl) B.range (pa_cons (pv 1) pa_nil)) (pg_name (i := 7) sc_rows.nd rfl (Or.inl rfl))
        (pss_cons (ps_set (i := 8) sc_rows.nd rfl (.inl rfl) (pe_call Gn hr rfl Dn.g Dn.F.kp Dn.b .nil pass0 (pa_cons (pv 0) pa_nil)))
        (C8.pss_cut (ps_if (pt_cmpR op_in_seq (pv 8) (pv 6) (by rfl)) (pss_one (ps_set (i := 8) sc_rows.nd rfl (.inl rfl) (pe_op op_add_str (pe_op op_add_str pe_str (pe_item_str pe_str (pe_op op_mod (pv 7) pe_int) (fun _ _ => rfl))) (pe_item_str pe_str (pe_op op_mod (pe_op op_fdiv (pv 7) pe_int) pe_int) (fun _ _ => rfl))))) pss_nil)
        (pss_cons (ps_par (i := 9) (j := 10) rfl sc_rows.nd rfl rfl (by decide) rfl rfl (pa_cons (pe_call Gp hr2 rfl Dp.g Dp.F.kp Dp.b .nil pass0 (pa_cons (pv 0) (pa_cons (pv 2) pa_nil))) (pa_cons (pe_call Gp hr2 rfl Dp.g Dp.F.kp Dp.b .nil pass0 (pa_cons (pv 0) (pa_cons (pe_op op_cat (pe_slice sl_list (pv 5) (po_some (pe_un un_neg pe_int)) po_none) (pe_lst (pa_cons pe_str pa_nil))) pa_nil))) pa_nil)) (by rfl))
        (pss_one (ps_if (pt_cmpR op_notIn_seq (pv 8) (pv 6) (by rfl))
          (pss_cons (ps_expr (pe_bm PySem.F.plainAttrs_list PySem.F.slot_list_append PySem.F.type_list_append mt_append (pv 6) (pa_cons (pv 8) pa_nil)))
          (pss_cons (ps_expr (pe_bm PySem.F.plainAttrs_list PySem.F.slot_list_append PySem.F.type_list_append mt_append (pv 4) (pa_cons (pe_tup (pa_cons (pv 8) (pa_cons (pv 10) (pa_cons (pv 9) (pa_cons (pe_call Gp hr2 rfl Dp.g Dp.F.kp Dp.b .nil pass0 (pa_cons (pv 0) (pa_cons (pv 3) pa_nil))) pa_nil))))) pa_nil)))
          (pss_one (ps_expr (pe_bm PySem.F.plainAttrs_list PySem.F.slot_list_extend PySem.F.type_list_extend mt_extend (pv 5) (pa_cons (pe_ifExp (pt_cmpR op_eq (pv 9) pe_str (nomark _)) (pe_lst (pa_cons (pv 8) pa_nil)) (pe_lst pa_nil)) pa_nil)))))) pss_nil))))))
      (pss_one (ps_ret (pv 4)))), ?_⟩
    refine ⟨Nat.zero_le _, fun p hp => ⟨(by show 1 ≤ sizeLine; decide), fun fl hfl => ⟨(by show 1 ≤ sizeLine; decide), fun nl hnl => ⟨_, _, _, rfl, ?_⟩⟩⟩⟩
    have hpf : p ≠ fl := fun q => by rw [← q, upd_same] at hfl; cases hfl
    have hfn : fl ≠ nl := fun q => by rw [← q, upd_same] at hnl; cases hnl
    have hpn : p ≠ nl := fun q => by rw [← q, upd_ne hpf, upd_same] at hnl; cases hnl
    have sp : Same H (upd (upd (upd H p (.lst [])) fl (.lst [V.str ("top" : Str)])) nl (.lst [V.str ("top" : Str)])) := (Same.new hp).trans ((Same.new hfl).trans (Same.new hnl))
    have pa : p ≠ a := (hs.ne hp).symm
    have fa : fl ≠ a := ((hs.upd hp).ne hfl).symm
    have na : nl ≠ a := (((hs.upd hp).upd hfl).ne hnl).symm
    refine ⟨_, rfl, many, rfl, by omega, by omega, ?_⟩
    refine for_range (lo := 0) (n := many.toNat) (fun i σ H' => ∃ (as : List Addr) (rs : List Row) (vk vn vki vf : Option V), σ = [some (.ref a), some (.int many), some (.ref kl), some (.ref pl), some (.ref p), some (.ref fl), some (.ref nl), vk, vn, vki, vf] ∧ RowsI a p fl nl H H' ks ps (n + 13 * i) i as rs ∧ (0 < i → rs ≠ [])) ?_ ?_ ?_
    · refine ⟨[], [], none, none, none, none, rfl, ⟨?_, ?_, upd_same, RowsAt.nil, Valid.nil, Nat.le_refl _, (fun r hr => by cases hr), SB.of sp, by simpa using hs.same sp⟩, fun h => absurd h (Nat.lt_irrefl _)⟩
      · rw [upd_ne hpn, upd_ne hpf, upd_same]; rfl
      · rw [upd_ne hfn, upd_same]; rfl
    · rintro i σ H1 hi ⟨as, rs, vk, vn, vki, vf, rfl, R, hne⟩
      have hi40 : i < 40 := by omega
      have hrl := R.len
      refine ⟨_, rfl, a, _, rfl, R.st, by omega, fun z H2 hz hs2 sb2 => ?_⟩
      have R2 := R.step pa fa na sb2 hs2 (Nat.le_refl i)
      refine ⟨fun σ' H' => ∃ (z : Str), Drawn z ∧ (z ∈ ("top" : Str) :: rs.map (·.nm) → z ≠ ("top" : Str)) ∧ σ' = [some (.ref a), some (.int many), some (.ref kl), some (.ref pl), some (.ref p), some (.ref fl), some (.ref nl), some (.int (0 + i)), some (.str z), vki, vf] ∧ H' = H2, ?_, ?_⟩
      · refine ⟨_, rfl, _, rfl, nl, _, rfl, .inl (SqL.of R2.hn), rfl, flat_strs _, _, rfl, ?_⟩
        refine ite2 (fun _ => ?_) (fun hcn => ?_)
        · obtain ⟨c, hc, lc⟩ := sign_at low_aj (r := (0 + (i : Int)) % 10) (by omega) (by rw [len_aj]; omega)
          obtain ⟨d, hd, ld⟩ := sign_at low_kp (r := ((0 + (i : Int)) / 10) % 6) (by omega) (by rw [len_kp]; omega)
          refine ⟨_, rfl, _, _, rfl, rfl, (by show (0 : Int) < 10; decide), _, _, c, rfl, rfl, by omega, by omega, by rw [len_aj]; omega, hc, _, _, rfl, rfl, (by show 2 ≤ sizeLine; decide), ?_⟩
          refine ⟨_, rfl, _, _, rfl, rfl, ⟨by decide, by decide⟩, _, _, rfl, rfl, (by show (0 : Int) < 6; decide), _, _, d, rfl, rfl, by omega, by omega, by rw [len_kp]; omega, hd, _, _, rfl, rfl, (by show 3 ≤ sizeLine; decide), ?_⟩
          exact ⟨_, ⟨.inr (.inr (.inl (by rw [len_cat, len_cat, len_q]; rfl))), low_cat (low_cat low_q lc) ld⟩, fun _ => q_top _ _, rfl, rfl⟩
        · refine ⟨z, hz, fun hm => absurd ?_ hcn, rfl, rfl⟩
          rw [if_neg Bool.false_ne_true, inV_strs]
          exact decide_eq_true hm
      · rintro σ' H' ⟨z, hz, hzt, rfl, rfl⟩
        refine ⟨_, rfl, _, rfl, .inl ⟨a, kl, _, _, rfl, R2.st, by omega, hka, R2.sb.seqL hka hks, by simpa using k1, by simp; omega, fun v H3 hv hs3 sb3 _ => ?_⟩⟩
        obtain ⟨ki, hki, rfl⟩ := List.mem_map.mp hv
        have R3 := R2.step pa fa na sb3 hs3 (Nat.le_refl i)
        refine ⟨_, rfl, _, rfl, _, rfl, _, rfl, fl, _, rfl, SqL.of R3.hf, fun q1 hq1 => ⟨(by show 1 ≤ sizeLine; decide), fun q2 hq2 => ?_⟩⟩
        have q12 : q1 ≠ q2 := fun e => by rw [← e, upd_same] at hq2; cases hq2
        have hcl := cutV_length ((("top" : Str) :: folderNames rs).map V.str) (some (-4)) none
        have hfle := folders_le rs
        refine ⟨q1, q2, _, _, rfl, rfl, by rw [upd_ne q12]; exact upd_same, upd_same, ?_, fun q3 hq3 => ?_⟩
        · refine szl ?_
          rw [List.length_map, List.length_cons] at hcl
          show _ + 1 ≤ 1000
          omega
        have s4 := (Same.new (o := .lst (cutV ((("top" : Str) :: folderNames rs).map V.str) (some (-4)) none)) hq1).trans ((Same.new (o := .lst [V.str ("top" : Str)]) hq2).trans (Same.new (o := .lst (cutV ((("top" : Str) :: folderNames rs).map V.str) (some (-4)) none ++ [V.str ("top" : Str)])) hq3))
        have R4 := R3.step pa fa na (SB.of s4) (hs3.same s4) (Nat.le_refl i)
        have q3a : q3 ≠ a := (((hs3.upd hq1).upd hq2).ne hq3).symm
        refine .inl ⟨a, q3, _, _, rfl, R4.st, by omega, q3a, SqL.of upd_same, by simp, ?_, fun v2 H5 hv2 hs5 sb5 _ => ?_⟩
        · rw [List.length_append]
          rw [List.length_map, List.length_cons] at hcl
          show _ + 1 ≤ 1000000
          omega
        obtain ⟨fo, hfo, rfl⟩ : ∃ fo : Str, (fo = ("top" : Str) ∨ fo ∈ folderNames rs) ∧ v2 = .str fo := by
          rcases List.mem_append.mp hv2 with h | h
          · obtain ⟨fo, h1, rfl⟩ := List.mem_map.mp (mem_cutV h)
            exact ⟨fo, List.mem_cons.mp h1, rfl⟩
          · exact ⟨_, .inl rfl, List.mem_singleton.mp h⟩
        have R5 := R4.step pa fa na sb5 hs5 (Nat.le_refl i)
        refine ⟨_, _, rfl, _, rfl, _, rfl, nl, _, rfl, .inl (SqL.of R5.hn), rfl, flat_strs _, _, rfl, ?_⟩
        have hin : (if true = true then !inV (.str z) ((("top" : Str) :: rs.map (·.nm)).map V.str) else inV (.str z) ((("top" : Str) :: rs.map (·.nm)).map V.str)) = !decide (z ∈ (("top" : Str) :: rs.map (·.nm))) := by
          rw [if_pos rfl, inV_strs]
        refine ite2 (fun hc => ?_) (fun hcn => ?_)
        · have hc' : (if true = true then !inV (.str z) ((("top" : Str) :: rs.map (·.nm)).map V.str) else inV (.str z) ((("top" : Str) :: rs.map (·.nm)).map V.str)) = true := hc
          rw [hin] at hc'
          have hz' : z ∉ (("top" : Str) :: rs.map (·.nm)) := by simpa using hc'
          have l41 : ((("top" : Str) :: rs.map (·.nm)).map V.str).length ≤ 1000 := by rw [List.length_map, List.length_cons, List.length_map]; omega
          refine ⟨_, rfl, .inl ⟨rfl, _, SqL.of R5.hn⟩, _, rfl, nl, _, _, rfl, rfl, R5.hn, small1000 l41, ?_⟩
          have n1 : ∀ {b : Addr}, b ≠ nl → (upd H5 nl (.lst ((("top" : Str) :: rs.map (·.nm)).map V.str ++ [V.str z]))) b = H5 b := fun h => upd_ne h
          have st6 : Stm (upd H5 nl (.lst ((("top" : Str) :: rs.map (·.nm)).map V.str ++ [V.str z]))) a (n + 13 * (i : Int) + 9 + 1 + 1) := by
            obtain ⟨x, y, u, e, r⟩ := R5.st
            exact ⟨x, y, u, by rw [n1 na.symm]; exact e, r⟩
          have sb6 : SB a H (upd H5 nl (.lst ((("top" : Str) :: rs.map (·.nm)).map V.str ++ [V.str z]))) := fun b o hb e => by
            rw [n1 (fun q => by rw [q] at e; have := sp _ _ e; rw [upd_same] at this; have h2 := (Same.new (o := .lst []) hp).trans (Same.new (o := .lst [V.str ("top" : Str)]) hfl); have h3 := h2.free hnl; rw [h3] at e; cases e)]
            exact R5.sb b o hb e
          refine ⟨_, rfl, .inl ⟨rfl, _, SqL.of (by rw [n1 hpn]; exact R5.hp)⟩, _, rfl, _, rfl, _, rfl, _, rfl, _, rfl, .inl ⟨a, pl, _, _, rfl, st6, by omega, hpa, sb6.seqL hpa hps, by simpa using p1, by simp; omega, fun v3 H7 hv3 hs7 sb7 _ => ?_⟩⟩
          obtain ⟨pr, hpr, rfl⟩ := List.mem_map.mp hv3
          refine ⟨(by show 4 ≤ sizeLine; decide), fun t ht => ?_⟩
          have hp7 : H7 p = some (.lst (as.map V.ref)) := sb7 _ _ pa (by rw [n1 hpn]; exact R5.hp)
          have hf7 : H7 fl = some (.lst ((("top" : Str) :: folderNames rs).map V.str)) := sb7 _ _ fa (by rw [n1 hfn]; exact R5.hf)
          have hn7 : H7 nl = some (.lst ((("top" : Str) :: rs.map (·.nm)).map V.str ++ [V.str z])) := sb7 _ _ na upd_same
          have tp : p ≠ t := ne_of_none hp7 ht
          have tf : fl ≠ t := ne_of_none hf7 ht
          have tn : nl ≠ t := ne_of_none hn7 ht
          have ta : a ≠ t := hs7.ne ht
          have rows7 : RowsAt H7 as rs := ⟨R5.rows.len, fun j b r hb hr => sb7 _ _ (fun q => by
            obtain ⟨x, y, u, e, _⟩ := R5.st
            have e2 := R5.rows.at_ j b r hb hr
            rw [q, e] at e2; cases e2) (by rw [n1 (fun q => by have e2 := R5.rows.at_ j b r hb hr; rw [q, R5.hn] at e2; cases e2)]; exact R5.rows.at_ j b r hb hr)⟩
          have al : (as.map V.ref).length ≤ 1000 := by rw [List.length_map, R5.rows.len]; omega
          refine ⟨p, _, _, rfl, rfl, by rw [upd_ne tp]; exact hp7, small1000 al, ?_⟩
          have g : ∀ {b : Addr}, b ≠ p → b ≠ t → (upd (upd H7 t (.tup (rowVs ⟨z, fo, ki, pr⟩))) p (.lst (as.map V.ref ++ [V.ref t]))) b = H7 b := fun h1 h2 => by rw [upd_ne h1, upd_ne h2]
          refine ⟨_, rfl, .inl ⟨rfl, _, SqL.of (Eq.trans (g hpf.symm tf) hf7)⟩, _, rfl, rfl, _, rfl, ?_⟩
          have fits : Fits rs ⟨z, fo, ki, pr⟩ := ⟨hz.shape, fun q => hz' (List.mem_cons.mpr (.inl q)), fun q => hz' (List.mem_cons.mpr (.inr q)), hfo.imp id mem_folders, hkok ki hki, hpok pr hpr⟩
          have fin : ∀ (e : List Str) (q : Addr) (H8 : Hp), (if ki = ("folder" : Str) then [z] else []) = e → H8 = upd (upd (upd H7 t (.tup (rowVs ⟨z, fo, ki, pr⟩))) p (.lst (as.map V.ref ++ [V.ref t]))) q (.lst (e.map V.str)) → (upd (upd H7 t (.tup (rowVs ⟨z, fo, ki, pr⟩))) p (.lst (as.map V.ref ++ [V.ref t]))) q = none →
              RowsI a p fl nl H (upd H8 fl (.lst ((("top" : Str) :: folderNames rs).map V.str ++ e.map V.str))) ks ps (n + 13 * ((i + 1 : Nat) : Int)) (i + 1) (as ++ [t]) (rs ++ [⟨z, fo, ki, pr⟩]) := by
            rintro e q H8 he rfl hq0
            have qp : p ≠ q := fun x => by rw [← x, upd_same] at hq0; cases hq0
            have qf : fl ≠ q := ne_of_none (Eq.trans (g hpf.symm tf) hf7) hq0
            have qn : nl ≠ q := ne_of_none (Eq.trans (g hpn.symm tn) hn7) hq0
            have qt : t ≠ q := fun x => by rw [← x, upd_ne tp.symm, upd_same] at hq0; cases hq0
            have qa : a ≠ q := fun x => by
              obtain ⟨x1, y1, u1, e1, _⟩ := hs7
              rw [← x, g pa.symm ta, e1] at hq0; cases hq0
            have k1 : ∀ {b : Addr}, b ≠ fl → b ≠ q → b ≠ p → b ≠ t → (upd (upd (upd (upd H7 t (.tup (rowVs ⟨z, fo, ki, pr⟩))) p (.lst (as.map V.ref ++ [V.ref t]))) q (.lst (e.map V.str))) fl (.lst ((("top" : Str) :: folderNames rs).map V.str ++ e.map V.str))) b = H7 b := fun h1 h2 h3 h4 => by rw [upd_ne h1, upd_ne h2, upd_ne h3, upd_ne h4]
            have rowsT : ∀ {b : Addr} {xs : List V}, H7 b = some (.tup xs) → (upd (upd (upd (upd H7 t (.tup (rowVs ⟨z, fo, ki, pr⟩))) p (.lst (as.map V.ref ++ [V.ref t]))) q (.lst (e.map V.str))) fl (.lst ((("top" : Str) :: folderNames rs).map V.str ++ e.map V.str))) b = some (.tup xs) := fun {b xs} h => by
              rw [k1 (ne_of h hf7 (by intro x; cases x)).symm.symm (fun x => by
                have : (upd (upd H7 t (.tup (rowVs ⟨z, fo, ki, pr⟩))) p (.lst (as.map V.ref ++ [V.ref t]))) b = some (.tup xs) := by rw [g (fun y => by rw [y, hp7] at h; cases h) (ne_of_none h ht)]; exact h
                rw [x, hq0] at this; cases this) (fun y => by rw [y, hp7] at h; cases h) (ne_of_none h ht)]
              exact h
            refine ⟨?_, ?_, ?_, RowsAt.snoc ⟨rows7.len, fun j b r hb hr => rowsT (rows7.at_ j b r hb hr)⟩ ?_, R5.val.snoc fits, by simp; omega, fun r hr => ?_, fun b o hb eb => ?_, ?_⟩
            · rw [upd_ne hpf, upd_ne qp, upd_same]; simp
            · rw [upd_same, folders_snoc]
              simp only [] at he ⊢
              rw [he]
              simp
            · rw [k1 hfn.symm qn hpn.symm tn, hn7]; simp
            · rw [upd_ne tf.symm, upd_ne qt, upd_ne tp.symm, upd_same]
            · rcases List.mem_append.mp hr with h | h
              · exact R5.mem r h
              · rw [List.mem_singleton.mp h]; exact ⟨hki, hpr, hz⟩
            · have e0 := sb7 b o hb (sb6 b o hb eb)
              have h2 := (Same.new (o := .lst []) hp).trans (Same.new (o := .lst [V.str ("top" : Str)]) hfl)
              rw [k1 (fun x => by rw [x, (Same.new (o := .lst []) hp).free hfl] at eb; cases eb) (fun x => by
                rw [x] at e0 eb
                rw [upd_ne (fun y => by rw [y, hp] at eb; cases eb), upd_ne (ne_of_none e0 ht), e0] at hq0; cases hq0) (fun x => by rw [x, hp] at eb; cases eb) (ne_of_none e0 ht)]
              exact e0
            · obtain ⟨x1, y1, u1, e1, r1⟩ := hs7
              exact ⟨x1, y1, u1, by rw [k1 fa.symm qa pa.symm ta]; exact e1, r1.1, r1.2.1, r1.2.2.1, r1.2.2.2.1, by have := r1.2.2.2.2; push_cast; omega⟩
          have fl41 : ∀ e : List Str, e.length ≤ 1 → ((("top" : Str) :: folderNames rs).map V.str).length + (e.map V.str).length ≤ sizeLine := fun e he => szl (by rw [List.length_map, List.length_cons, List.length_map]; omega)
          refine ite2 (fun hk => ?_) (fun hk => ?_)
          · have hk' : ki = ("folder" : Str) := by have := of_decide_eq_true hk; exact V.str.inj this
            refine ⟨_, rfl, (by show 1 ≤ sizeLine; decide), fun q hq0 => ?_⟩
            have qf : fl ≠ q := ne_of_none (Eq.trans (g hpf.symm tf) hf7) hq0
            refine ⟨fl, q, _, _, rfl, rfl, (by rw [upd_ne qf]; exact Eq.trans (g hpf.symm tf) hf7), upd_same, fl41 [z] (Nat.le_refl _), ?_⟩
            exact ⟨_, _, _, _, _, _, rfl, fin [z] q _ (if_pos hk') rfl hq0, fun _ => by simp⟩
          · have hk' : ¬ ki = ("folder" : Str) := fun x => hk (decide_eq_true (by rw [x]))
            refine ⟨Nat.zero_le _, fun q hq0 => ?_⟩
            have qf : fl ≠ q := ne_of_none (Eq.trans (g hpf.symm tf) hf7) hq0
            refine ⟨fl, q, _, _, rfl, rfl, (by rw [upd_ne qf]; exact Eq.trans (g hpf.symm tf) hf7), upd_same, fl41 [] (Nat.zero_le _), ?_⟩
            exact ⟨_, _, _, _, _, _, rfl, fin [] q _ (if_neg hk') rfl hq0, fun _ => by simp⟩
        · refine ⟨as, rs, _, _, _, _, rfl, R5.step pa fa na (SB.refl _ _) (R5.st.mono (by push_cast; omega)) (Nat.le_succ i), fun _ hnil => ?_⟩
          rw [hin, hnil] at hcn
          have hm : z ∈ (("top" : Str) :: ([] : List Row).map (·.nm)) := Classical.byContradiction fun q => hcn (by rw [decide_eq_false q]; rfl)
          exact hzt (by rw [hnil]; exact hm) (List.mem_singleton.mp hm)
    · rintro σ H1 ⟨as, rs, vk, vn, vki, vf, rfl, R, hne⟩
      have e : ((many.toNat : Nat) : Int) = many := by omega
      exact ⟨_, rfl, hq p as rs H1 hp pa R.hp R.rows R.val (by have := R.len; omega) (fun h => hne (by omega)) R.mem R.sb (by have := R.st; rw [e] at this; exact this)⟩
end
end Ts

set_option maxRecDepth 100000
set_option maxHeartbeats 4000000
namespace Ts
open PySem L2
theorem abc_uni : ∀ c ∈ List.range' 97 26, Unicode.isAlpha c = true ∧ Unicode.isLower c = true ∧ Unicode.isUpper c = false ∧ Unicode.isTitle c = false := by decide +kernel
theorem uni {c : Nat} (h : 97 ≤ c ∧ c ≤ 122) : Unicode.isAlpha c = true ∧ Unicode.isLower c = true ∧ Unicode.isUpper c = false ∧ Unicode.isTitle c = false :=
  abc_uni c (List.mem_range'_1.mpr ⟨h.1, by omega⟩)
theorem low_ascii {z : Str} (h : Low z) : Txt.isascii z = true := by
  unfold Txt.isascii
  rw [← Array.all_toList, List.all_eq_true]
  intro c hc
  have := h c hc
  simp; omega
theorem low_alpha {z : Str} (h : Low z) (h1 : 1 ≤ z.length) : Txt.isalpha z = true := by
  unfold Txt.isalpha
  rw [← Array.all_toList, Bool.and_eq_true, List.all_eq_true]
  exact ⟨decide_eq_true (by omega), fun c hc => (uni (h c hc)).1⟩
theorem low_lower {z : Str} (h : Low z) (h1 : 1 ≤ z.length) : Txt.islower z = true := by
  unfold Txt.islower
  rw [← Array.any_toList, ← Array.any_toList, Bool.and_eq_true]
  refine ⟨?_, ?_⟩
  · rw [List.any_eq_true]
    have hl : 0 < z.cps.toList.length := by rw [← len_toList]; omega
    exact ⟨z.cps.toList[0], List.getElem_mem hl, (uni (h _ (List.getElem_mem hl))).2.1⟩
  · rw [Bool.not_eq_true', List.any_eq_false]
    intro c hc
    have := uni (h c hc)
    simp [this.2.2.1, this.2.2.2]
theorem NameShape.pos {z : Str} (h : NameShape z) : 1 ≤ z.length ∧ z.length ≤ 8 := by have := h.1; omega
structure TxC (K : PySem.W.Frag) (mg : Str → Option Value) where
  top : ∃ t, mg "TOP" = some (.str "top" t)
  folder : ∃ t, mg "FOLDER" = some (.str "folder" t)
  long : ∃ t, mg "LONGEST_NAME" = some (.int 8 t)
  kindsA : Addr
  kinds : mg "KINDS" = some (.ref kindsA)
  num : DefAt K mg "is_number" s_is_number ["thing", "least"]
  kindsT : ∃ (o : Obj) (its : Array Value) (n : Nat), K.lookup kindsA = some o ∧ o.cls = .type "tuple" ∧ o.data = .seq its n ∧ its.size ≤ sizeLine ∧ Vals (kinds3.map V.str) its.toList
def spIsName : Sp := fun vs H Q _ => ∃ z, vs = [.str z] ∧ NameShape z ∧ z ≠ ("top" : Str) ∧ Q (.bl true) H
def spIsNumber : Sp := fun vs H Q _ => ∃ i n : Int, vs = [.int i, .int n] ∧ Q (.bl (decide (n ≤ i))) H
def spIsPrice : Sp := fun vs H Q _ => ∃ o, vs = [prV o] ∧ PriceOk o ∧ Q (.bl true) H
section
variable {P : Program} {w : World} {K : PySem.W.Frag} {mg : Str → Option Value} {base : Heap}
theorem sc_is_name : FnScope ["thing"] ["thing"] (defScope s_is_name) := ⟨rfl, rfl, rfl, by decide +kernel, rfl, by decide +kernel, by decide +kernel⟩
theorem ok_is_name (D : DefAt K mg "is_name" s_is_name ["thing"]) (B : TxB mg) (C : TxC K mg) : FnOk P w K mg base CX0 2 D.f D.fd ["thing"] spIsName := by
  obtain ⟨t1, gT⟩ := C.top
  obtain ⟨t2, gL⟩ := C.long
  refine D.F.ok sc_is_name (fun vs H Q E h => ?_) (fun cdv A outer s H vs Q E hr h => ?_)
  · obtain ⟨z, rfl, _⟩ := h
    rfl
  · obtain ⟨z, rfl, hz, ht, hq⟩ := h
    refine ⟨_, pss_cons (ps_if (PW.pt (pw_or (pt_not (pt_val (pe_callB call_isi (by rfl) B.isinstance (by decide +kernel) (pa_cons (pv 0) (pa_cons (pe_bltn (by rfl) B.str (by decide +kernel) (v := .ty "str") rfl) pa_nil)))))
        (pw_or (pt_cmpR op_eq (pv 0) (pe_glob (by rfl) gT (v := .str ("top" : Str)) ⟨_, rfl⟩) (nomark _)) (pw_or1 (pt_cmpR op_gt (pe_callB call_len (by rfl) B.len PySem.boot_len (pa_cons (pv 0) pa_nil)) (pe_glob (by rfl) gL (v := .int 8) ⟨_, rfl⟩) (nomark _)))))) (pss_one (ps_ret pe_bl)) pss_nil)
      (pss_one (ps_ret (pe_and (pe_m0 PySem.F.slot_str_isascii PySem.F.type_str_isascii mt_isascii (pv 0)) (pe_and (pe_m0 PySem.F.slot_str_isalpha PySem.F.type_str_isalpha mt_isalpha (pv 0)) (pe_one (pe_m0 PySem.F.slot_str_islower PySem.F.type_str_islower mt_islower (pv 0))))))), ?_⟩
    have hp := hz.pos
    refine ⟨_, rfl, _, _, _, _, true, rfl, .ty "str", .base (.str z), kit_ty (by decide +kernel), _, rfl, iteF ?_⟩
    refine ⟨_, rfl, rfl, _, rfl, ?_⟩
    rw [decide_eq_false (fun q => ht (V.str.inj q))]
    refine iteF ?_
    refine ⟨_, rfl, _, z.length, rfl, ⟨szl (by omega), rfl⟩, _, _, rfl, rfl, _, rfl, ?_⟩
    rw [decide_eq_false (by omega)]
    refine iteF ?_
    refine ⟨_, rfl, ⟨_, rfl⟩, _, rfl, rfl, trivial, _, rfl, ?_⟩
    rw [low_ascii hz.2]
    refine iteT ⟨_, rfl, ⟨_, rfl⟩, _, rfl, rfl, trivial, _, rfl, ?_⟩
    rw [low_alpha hz.2 hp.1]
    refine iteT ⟨_, rfl, ⟨_, rfl⟩, _, rfl, rfl, trivial, ?_⟩
    rw [low_lower hz.2 hp.1]
    exact hq
theorem sc_is_number : FnScope ["thing", "least"] ["thing", "least"] (defScope s_is_number) := ⟨rfl, rfl, rfl, by decide +kernel, rfl, by decide +kernel, by decide +kernel⟩
theorem ok_is_number (D : DefAt K mg "is_number" s_is_number ["thing", "least"]) (B : TxB mg) : FnOk P w K mg base CX0 1 D.f D.fd ["thing", "least"] spIsNumber := by
  refine D.F.ok sc_is_number (fun vs H Q E h => ?_) (fun cdv A outer s H vs Q E hr h => ?_)
  · obtain ⟨z, n, rfl, _⟩ := h
    rfl
  · obtain ⟨i, n, rfl, hq⟩ := h
    refine ⟨_, (pss_one (ps_ret (pe_and (pe_callB call_isi (by rfl) B.isinstance (by decide +kernel) (pa_cons (pv 0) (pa_cons (pe_bltn (by rfl) B.int (by decide +kernel) (v := .ty "int") rfl) pa_nil)))
        (pe_and (pe_not (pe_callB call_isi (by rfl) B.isinstance (by decide +kernel) (pa_cons (pv 0) (pa_cons (pe_bltn (by rfl) B.bool (by decide +kernel) (v := .ty "bool") rfl) pa_nil)))) (pe_one (pe_cmpR op_ge (pv 0) (pv 1) (nomark _))))))), ?_⟩
    refine ⟨_, rfl, _, _, _, _, true, rfl, .ty "int", .base (.int i), kit_ty (by decide +kernel), _, rfl, iteT ?_⟩
    refine ⟨_, rfl, _, _, _, _, false, rfl, .ty "bool", .base (.int i), kit_ty (by decide +kernel), _, rfl, _, rfl, iteT ?_⟩
    exact ⟨_, rfl, _, rfl, _, _, rfl, rfl, hq⟩
theorem sc_is_price : FnScope ["thing"] ["thing"] (defScope s_is_price) := ⟨rfl, rfl, rfl, by decide +kernel, rfl, by decide +kernel, by decide +kernel⟩
theorem ok_is_price (D : DefAt K mg "is_price" s_is_price ["thing"]) (B : TxB mg) (C : TxC K mg) : FnOk P w K mg base CX0 2 D.f D.fd ["thing"] spIsPrice := by
  have Gn : FnOk P w K mg base CX0 1 C.num.f C.num.fd ["thing", "least"] spIsNumber := ok_is_number C.num B
  refine D.F.ok sc_is_price (fun vs H Q E h => ?_) (fun cdv A outer s H vs Q E hr h => ?_)
  · obtain ⟨z, rfl, _⟩ := h
    rfl
  · obtain ⟨o, rfl, ho, hq⟩ := h
    refine ⟨_, (pss_one (ps_ret (pe_or (pe_cmpR op_isN (pv 0) pe_non (nomark _)) (pe_one (pe_call Gn hr rfl C.num.g C.num.F.kp C.num.b .nil pass0 (pa_cons (pv 0) (pa_cons pe_int pa_nil))))))), ?_⟩
    cases o with
    | none =>
      refine ⟨_, rfl, rfl, _, rfl, ?_⟩
      exact iteT hq
    | some i =>
      refine ⟨_, rfl, rfl, _, rfl, ?_⟩
      refine iteF ⟨_, rfl, i, 1, rfl, ?_⟩
      have hi : 1 ≤ i := ho
      rw [decide_eq_true hi]
      exact hq
end
end Ts

set_option maxRecDepth 100000
set_option maxHeartbeats 4000000
namespace Ts
open PySem L2
theorem kit_seqL {K : PySem.W.Frag} : PySem.W.kitAny K (.type "list") [.type "list", .type "tuple"] = some true := kitAny_cons (b := true) (kit_ty (by decide +kernel)) (fun e => nomatch e) fun _ => rfl
theorem kit_seqT {K : PySem.W.Frag} : PySem.W.kitAny K (.type "tuple") [.type "list", .type "tuple"] = some true := kitAny_cons (b := false) (kit_ty (by decide +kernel)) (fun _ => kitAny_cons (b := true) (kit_ty (by decide +kernel)) (fun e => nomatch e) fun _ => rfl) fun e => nomatch e
/-- a list or a tuple, made at run time -/
def Seq (H : Hp) (a : Addr) (xs : List V) : Prop := H a = some (.tup xs) ∨ H a = some (.lst xs)
theorem Seq.same {H H' : Hp} {a : Addr} {xs : List V} (h : Seq H a xs) (s : Same H H') : Seq H' a xs := h.imp (s _ _) (s _ _)
theorem Seq.ty {K : PySem.W.Frag} {H : Hp} {a : Addr} {xs : List V} (h : Seq H a xs) : ∃ t, TyX K H (.ref a) t ∧ PySem.W.kitAny K t [.type "list", .type "tuple"] = some true := by
  rcases h with h | h
  · exact ⟨_, .base (.tup h), kit_seqT⟩
  · exact ⟨_, .base (.lst h), kit_seqL⟩
theorem Seq.or {K : PySem.W.Frag} {H : Hp} {a : Addr} {xs : List V} (h : Seq H a xs) : SqL K H a xs ∨ SqT K H a xs := by
  rcases h with h | h
  · exact .inr (.inl (.inl h))
  · exact .inl (SqL.of h)
theorem sqT {K : PySem.W.Frag} {H : Hp} {a : Addr} {xs : List V} (h : H a = some (.tup xs)) : SqT K H a xs := .inl (.inl h)
/-- enumerate(x), x a list or a tuple in slot i -/
def iEnumS (i : Nat) : TI := fun σ H R => ∃ (a : Addr) (xs : List V), σ[i]? = some (some (.ref a)) ∧ Seq H a xs ∧ ∀ J, Walk J xs.length (fun H' => H' a = H a) (YPair (fun j => some (.int (j : Nat))) (fun j => xs[j]?)) → R J H
theorem pi_enumS {X : Cx} {x : Str} {px : Pos} {i : Nat} {p pos tpos : Pos} {elts : List Expr} {kk : Nat} (hg : Gl X "enumerate") (hm : X.mg "enumerate" = none) (he : PE X (.Name x px) (tVar i)) :
    PI X (.Tuple elts kk tpos) (.Call (.Name "enumerate" p) [.Name x px] [] pos) (iEnumS i) := by
  refine ⟨fun pins s σ H R I h => ?_⟩
  obtain ⟨a, xs, e1, hq, k⟩ := h
  rcases hq with hq | hq
  · exact (pi_enumT hg hm (pa_cons he pa_nil)).run pins s σ H R I ⟨_, e1, a, xs, rfl, sqT hq, k _ (walk_enumT.mono (fun H' e => sqT (e.trans hq)) fun _ _ _ _ _ _ y => y)⟩
  · exact (pi_enum hg hm (pa_cons he pa_nil)).run pins s σ H R I ⟨_, e1, a, xs, rfl, SqL.of hq, k _ (walk_enum.mono (fun H' e => SqL.of (e.trans hq)) fun _ _ _ _ _ _ y => y)⟩
/-- x itself, a list or a tuple in slot i -/
def iSeqS (i : Nat) : TI := fun σ H R => ∃ (a : Addr) (xs : List V), σ[i]? = some (some (.ref a)) ∧ Seq H a xs ∧ ∀ J, Walk J xs.length (fun H' => H' a = H a) (YAt xs) → R J H
theorem pi_seqS {X : Cx} {e tg : Expr} {i : Nat} (he : PE X e (tVar i)) : PI X tg e (iSeqS i) := by
  refine ⟨fun pins s σ H R I h => ?_⟩
  obtain ⟨a, xs, e1, hq, k⟩ := h
  rcases hq with hq | hq
  · exact (pi_tup he).run pins s σ H R I ⟨_, e1, a, rfl, ⟨_, sqT hq⟩, k _ (walk_tup.mono (fun H' e => sqT (e.trans hq)) fun _ _ _ _ _ _ y => y)⟩
  · exact (pi_list he).run pins s σ H R I ⟨_, e1, a, rfl, ⟨_, SqL.of hq⟩, k _ (walk_list.mono (fun H' e => SqL.of (e.trans hq)) fun _ _ _ _ _ _ y => y)⟩
theorem take_more {α : Type} : ∀ {l : List α} {i : Nat} {x : α}, l[i]? = some x → l.take (i + 1) = l.take i ++ [x]
  | [], i, x, h => by simp at h
  | a :: l, 0, x, h => by
    have e : a = x := Option.some.inj h
    subst e
    rfl
  | a :: l, i + 1, x, h => by
    have ih := take_more (l := l) (i := i) (x := x) (by simpa using h)
    rw [List.take_succ_cons, ih]
    rfl
theorem fold_take {rs : List Row} {i : Nat} {r : Row} (h : rs[i]? = some r) : folderNames (rs.take (i + 1)) = folderNames (rs.take i) ++ (if r.ki = ("folder" : Str) then [r.nm] else []) := by
  rw [take_more h, folders_snoc]
def spIsRow : Sp := fun vs H Q _ => ∃ (a d1 d2 : Addr) (r : Row) (kv1 kv2 : List (Key × V)), vs = [.ref a, .ref d1, .ref d2] ∧ Seq H a (rowVs r) ∧ H d1 = some (.dK kv1) ∧ valV kv1 (.inr r.nm : Key) = none ∧ H d2 = some (.dK kv2) ∧ (valV kv2 (.inr r.fo : Key)).isSome = true ∧
  NameShape r.nm ∧ r.nm ≠ ("top" : Str) ∧ r.ki ∈ kinds3 ∧ PriceOk r.pr ∧ ∀ H', Same H H' → Q (.bl true) H'
def spCheckRows (K : PySem.W.Frag) : Sp := fun vs H Q _ => ∃ (rw nm fo : Addr) (ns hs : List Str) (as : List Addr) (rs : List Row), vs = [.ref rw, .ref nm, .ref fo] ∧ Seq H rw (as.map V.ref) ∧ SeqRows H as rs ∧ SqT K H nm (ns.map V.str) ∧ SqT K H fo (hs.map V.str) ∧ rs.length ≤ 100 ∧ ns.length ≤ 100 ∧ hs.length ≤ 100 ∧
  (∀ i r, rs[i]? = some r → FitsB ns hs (rs.take i) r) ∧ ∀ H', Same H H' → Q .non H'
section
variable {P : Program} {w : World} {K : PySem.W.Frag} {mg : Str → Option Value} {base : Heap}
abbrev nIsRow : List Str := ["thing", "taken", "homes", "name", "folder", "kind", "price"]
theorem sc_is_row : FnScope nIsRow ["thing", "taken", "homes"] (defScope s_is_row) := ⟨rfl, rfl, rfl, by decide +kernel, rfl, by decide +kernel, by decide +kernel⟩
theorem ok_is_row (D : DefAt K mg "is_row" s_is_row ["thing", "taken", "homes"]) (Dn : DefAt K mg "is_name" s_is_name ["thing"]) (Dp : DefAt K mg "is_price" s_is_price ["thing"]) (B : TxB mg) (C : TxC K mg) : FnOk P w K mg base CX0 3 D.f D.fd ["thing", "taken", "homes"] spIsRow := by
  have Gn : FnOk P w K mg base CX0 2 Dn.f Dn.fd ["thing"] spIsName := ok_is_name Dn B C
  have Gp : FnOk P w K mg base CX0 2 Dp.f Dp.fd ["thing"] spIsPrice := ok_is_price Dp B C
  refine D.F.ok sc_is_row (fun vs H Q E h => ?_) (fun cdv A outer s H vs Q E hr h => ?_)
  · obtain ⟨a, d1, d2, r, kv1, kv2, rfl, _⟩ := h
    rfl
  · obtain ⟨a, d1, d2, r, kv1, kv2, rfl, ha, h1, v1, h2, v2, hn, ht, hk, hp, hq⟩ := h
    have hu := hu_of hr
    refine ⟨_, pss_cons (ps_if (PW.pt (pw_or (pt_not (pt_val (pe_callB call_isiT (by rfl) B.isinstance (by decide +kernel) (pa_cons (pv 0) (pa_cons (pe_tup (pa_cons (pe_bltn (by rfl) B.list (by decide +kernel) (v := .ty "list") rfl) (pa_cons (pe_bltn (by rfl) B.tuple (by decide +kernel) (v := .ty "tuple") rfl) pa_nil))) pa_nil)))))
        (pw_or1 (pt_cmpR op_ne (pe_callB call_len_seq (by rfl) B.len PySem.boot_len (pa_cons (pv 0) pa_nil)) pe_int (nomark _))))) (pss_one (ps_ret pe_bl)) pss_nil)
      (C8.pss_cut (ps_asg (pv 0) (pg_or (pg_tup rfl (pgs_cons (pg_name (i := 3) sc_is_row.nd rfl (.inl rfl)) (pgs_cons (pg_name (i := 4) sc_is_row.nd rfl (.inl rfl)) (pgs_cons (pg_name (i := 5) sc_is_row.nd rfl (.inl rfl)) (pgs_cons (pg_name (i := 6) sc_is_row.nd rfl (.inl rfl)) pgs_nil)))))
          (pg_unl rfl (pgs_cons (pg_name (i := 3) sc_is_row.nd rfl (.inl rfl)) (pgs_cons (pg_name (i := 4) sc_is_row.nd rfl (.inl rfl)) (pgs_cons (pg_name (i := 5) sc_is_row.nd rfl (.inl rfl)) (pgs_cons (pg_name (i := 6) sc_is_row.nd rfl (.inl rfl)) pgs_nil)))))))
      (pss_cons (ps_if (PW.pt (pw_or (pt_not (pt_val (pe_call Gn hr rfl Dn.g Dn.F.kp Dn.b .nil pass0 (pa_cons (pv 3) pa_nil)))) (pw_or1 (pt_cmp (pc_din hu (pv 3) (pv 1)))))) (pss_one (ps_ret pe_bl)) pss_nil)
      (pss_cons (ps_if (PW.pt (pw_or (pt_not (pt_val (pe_callB call_isi (by rfl) B.isinstance (by decide +kernel) (pa_cons (pv 4) (pa_cons (pe_bltn (by rfl) B.str (by decide +kernel) (v := .ty "str") rfl) pa_nil))))) (pw_or1 (pt_cmp (pc_dnotin hu (pv 4) (pv 2)))))) (pss_one (ps_ret pe_bl)) pss_nil)
      (pss_one (ps_ret (pe_and (pe_cmpR op_in_seq (pv 5) (pe_glob (by rfl) C.kinds (v := .ref C.kindsA) rfl) (by rfl)) (pe_one (pe_call Gp hr rfl Dp.g Dp.F.kp Dp.b .nil pass0 (pa_cons (pv 6) pa_nil)))))))))
      , ?_⟩
    refine ⟨_, rfl, (by show 2 ≤ sizeLine; decide), fun tp htp => ?_⟩
    have s1 : Same H (upd H tp (.tup [.ty "list", .ty "tuple"])) := Same.new htp
    obtain ⟨t, ty, kk⟩ := (ha.same s1).ty (K := K)
    refine ⟨_, tp, _, t, _, true, rfl, upd_same, .cons (.ty "list") (.cons (.ty "tuple") .nil), ty, kk, _, rfl, iteF ?_⟩
    refine ⟨_, rfl, a, _, rfl, (ha.same s1).or, rfl, _, rfl, ?_⟩
    refine iteF ?_
    have un : SqT K (upd H tp (.tup [.ty "list", .ty "tuple"])) a (rowVs r) ∨ SqL K (upd H tp (.tup [.ty "list", .ty "tuple"])) a (rowVs r) := (ha.same s1).or.symm
    refine ⟨fun σ' H' => σ' = [some (.ref a), some (.ref d1), some (.ref d2), some (.str r.nm), some (.str r.fo), some (.str r.ki), some (prV r.pr)] ∧ H' = upd H tp (.tup [.ty "list", .ty "tuple"]), ?_, ?_⟩
    · refine ⟨_, rfl, ?_⟩
      rcases un with un | un
      · exact .inl ⟨a, _, rfl, un, rfl, _, _, rfl, _, _, rfl, _, _, rfl, _, _, rfl, rfl, rfl, rfl⟩
      · exact .inr ⟨a, _, rfl, un, rfl, _, _, rfl, _, _, rfl, _, _, rfl, _, _, rfl, rfl, rfl, rfl⟩
    rintro σ' H' ⟨rfl, rfl⟩
    refine ⟨_, rfl, r.nm, rfl, hn, ht, _, rfl, iteF ?_⟩
    refine ⟨_, rfl, _, rfl, d1, _, rfl, DGet.k (k := Sum.inr r.nm) (s1 _ _ h1), _, rfl, ?_⟩
    rw [v1]
    refine iteF ?_
    refine ⟨_, rfl, _, _, _, _, true, rfl, .ty "str", .base (.str r.fo), kit_ty (by decide +kernel), _, rfl, iteF ?_⟩
    refine ⟨_, rfl, _, rfl, d2, _, rfl, DGet.k (k := Sum.inr r.fo) (s1 _ _ h2), _, rfl, ?_⟩
    rw [v2]
    refine iteF ?_
    refine ⟨_, rfl, C.kindsA, _, rfl, .inr (.inr C.kindsT), rfl, flat_strs _, _, rfl, ?_⟩
    have e : (if false = true then !inV (.str r.ki) (kinds3.map V.str) else inV (.str r.ki) (kinds3.map V.str)) = true := by
      rw [if_neg Bool.false_ne_true, inV_strs]
      exact decide_eq_true hk
    rw [e]
    exact iteT ⟨_, rfl, r.pr, rfl, hp, hq _ s1⟩
abbrev nCheckRows : List Str := ["rows", "names", "folders", "taken", "homes", "index", "row", "name", "folder", "kind", "price"]
theorem sc_check_rows : FnScope nCheckRows ["rows", "names", "folders"] (defScope s_check_rows) := ⟨rfl, rfl, rfl, by decide +kernel, rfl, by decide +kernel, by decide +kernel⟩
theorem ok_check_rows (D : DefAt K mg "check_rows" s_check_rows ["rows", "names", "folders"]) (Dr : DefAt K mg "is_row" s_is_row ["thing", "taken", "homes"]) (Dn : DefAt K mg "is_name" s_is_name ["thing"]) (Dp : DefAt K mg "is_price" s_is_price ["thing"]) (B : TxB mg) (C : TxC K mg) :
    FnOk P w K mg base CX0 4 D.f D.fd ["rows", "names", "folders"] (spCheckRows K) := by
  have Gr : FnOk P w K mg base CX0 3 Dr.f Dr.fd ["thing", "taken", "homes"] spIsRow := ok_is_row Dr Dn Dp B C
  obtain ⟨t1, gF⟩ := C.folder
  refine D.F.ok sc_check_rows (fun vs H Q E h => ?_) (fun cdv A outer s H vs Q E hr h => ?_)
  · obtain ⟨rw, nm, fo, ns, hs, as, rs, rfl, _⟩ := h
    rfl
  · obtain ⟨rw, nm, fo, ns, hs, as, rs, rfl, hrw, hrows, hnm, hfo, hl, hln, hlh, hfit, hq⟩ := h
    have hu := hu_of hr
    refine ⟨_, pss_cons (ps_if (pt_not (pt_val (pe_callB call_isiT (by rfl) B.isinstance (by decide +kernel) (pa_cons (pv 0) (pa_cons (pe_tup (pa_cons (pe_bltn (by rfl) B.list (by decide +kernel) (v := .ty "list") rfl) (pa_cons (pe_bltn (by rfl) B.tuple (by decide +kernel) (v := .ty "tuple") rfl) pa_nil))) pa_nil))))) (pss_one ps_never) pss_nil)
      (pss_cons (ps_setDc (i := 3) (own := [("name", 7)]) (g := gName 7) (tt := tYes) rfl sc_check_rows.nd rfl rfl (swd_true rfl rfl rfl (by decide +kernel)) (pi_tup (pv 1)) (blkOk_by (N := nCheckRows) (sc := defScope s_check_rows) (by decide +kernel))
        (fun _ _ _ _ _ => pg_name (i := 7) sc_check_rows.nd rfl (Or.inl rfl)) (fun _ _ _ _ _ => pts_nil) (fun _ _ _ _ _ => pv 7) (fun _ _ _ _ _ => pe_bl))
      (pss_cons (ps_setDc (i := 4) (own := [("folder", 8)]) (g := gName 8) (tt := tYes) rfl sc_check_rows.nd rfl rfl (swd_true rfl rfl rfl (by decide +kernel)) (pi_tup (pv 2)) (blkOk_by (N := nCheckRows) (sc := defScope s_check_rows) (by decide +kernel))
        (fun _ _ _ _ _ => pg_name (i := 8) sc_check_rows.nd rfl (Or.inl rfl)) (fun _ _ _ _ _ => pts_nil) (fun _ _ _ _ _ => pv 8) (fun _ _ _ _ _ => pe_bl))
      (pss_one (ps_for PassesOwn.never rfl (pi_enumS (by rfl) B.enumerate (pv 0)) (pg_tup rfl (pgs_cons (pg_name (i := 5) sc_check_rows.nd rfl (.inl rfl)) (pgs_cons (pg_name (i := 6) sc_check_rows.nd rfl (.inl rfl)) pgs_nil)))
        (pss_cons (ps_if (pt_not (pt_val (pe_call Gr hr rfl Dr.g Dr.F.kp Dr.b .nil pass0 (pa_cons (pv 6) (pa_cons (pv 3) (pa_cons (pv 4) pa_nil)))))) (pss_one ps_never) pss_nil)
        (C8.pss_cut (ps_asg (pv 6) (pg_or (pg_tup rfl (pgs_cons (pg_name (i := 7) sc_check_rows.nd rfl (.inl rfl)) (pgs_cons (pg_name (i := 8) sc_check_rows.nd rfl (.inl rfl)) (pgs_cons (pg_name (i := 9) sc_check_rows.nd rfl (.inl rfl)) (pgs_cons (pg_name (i := 10) sc_check_rows.nd rfl (.inl rfl)) pgs_nil)))))
          (pg_unl rfl (pgs_cons (pg_name (i := 7) sc_check_rows.nd rfl (.inl rfl)) (pgs_cons (pg_name (i := 8) sc_check_rows.nd rfl (.inl rfl)) (pgs_cons (pg_name (i := 9) sc_check_rows.nd rfl (.inl rfl)) (pgs_cons (pg_name (i := 10) sc_check_rows.nd rfl (.inl rfl)) pgs_nil)))))))
        (pss_cons (ps_dput hu (pv 3) (pv 7) pe_bl rfl)
        (pss_one (ps_if (pt_cmpR op_eq (pv 9) (pe_glob (by rfl) gF (v := .str ("folder" : Str)) ⟨_, rfl⟩) (nomark _)) (pss_one (ps_dput hu (pv 4) (pv 7) pe_bl rfl)) pss_nil)))))))))
      , ?_⟩
    refine ⟨_, rfl, (by show 2 ≤ sizeLine; decide), fun tp htp => ?_⟩
    have s1 : Same H (upd H tp (.tup [.ty "list", .ty "tuple"])) := Same.new htp
    obtain ⟨t, ty, kk⟩ := (hrw.same s1).ty (K := K)
    refine ⟨_, tp, _, t, _, true, rfl, upd_same, .cons (.ty "list") (.cons (.ty "tuple") .nil), ty, kk, _, rfl, iteF ?_⟩
    generalize upd H tp (.tup [.ty "list", .ty "tuple"]) = H1 at s1 ty
    have dict : ∀ (l : List Str) (td : Addr) (H1 H' : Hp) (i : Nat) (x : V), (l.map V.str)[i]? = some x → MemD H' td (l.take i) → ∃ (z : Str) (kv : List (Key × V)), x = .str z ∧ l[i]? = some z ∧ H' td = some (.dK kv) ∧ (∀ z : Str, (valV kv (.inr z : Key)).isSome = decide (z ∈ l.take i)) ∧ kv.length ≤ (l.take i).length := by
      intro l td H1 H' i x hx m
      rw [List.getElem?_map] at hx
      obtain ⟨z, hz, rfl⟩ := Option.map_eq_some_iff.mp hx
      obtain ⟨kv, e1, e2, e3⟩ := m.ex
      exact ⟨z, kv, rfl, hz, e1, e2, e3⟩
    refine ⟨_, rfl, nm, rfl, ⟨_, hnm.ext s1⟩, fun td htd => ?_⟩
    refine dc_tup (K := K) (a := nm) (xs := ns.map V.str) (fun i H' => Same H1 H' ∧ MemD H' td (ns.take i)) ⟨Same.new htd, [], upd_same, fun z => rfl, Nat.le_refl _⟩ (fun i H' _ m => hnm.ext (s1.trans m.1)) ?_ ?_
    · rintro i x H' hx ⟨sm, m⟩
      obtain ⟨z, kv, rfl, hz, e1, e2, e3⟩ := dict ns td H1 H' i x hx m
      refine ⟨rfl, tYes_if ⟨_, rfl, kv, .inr z, rfl, e1, small1000 (by rw [List.length_take] at e3; omega), fun b o e => ?_, ?_⟩⟩
      · rw [upd_ne (fun q => by rw [q, htd] at e; cases e)]
        exact sm b o e
      · rw [take_more hz]
        exact MemD.put e2 e3 z _
    · rintro H2 ⟨sm, m⟩
      rw [List.length_map, List.take_length] at m
      have s2 := s1.trans sm
      refine ⟨_, rfl, fo, rfl, ⟨_, hfo.ext s2⟩, fun hd hhd => ?_⟩
      have nth : td ≠ hd := by obtain ⟨kv, e1, _⟩ := m.ex; exact ne_of_none e1 hhd
      refine dc_tup (K := K) (a := fo) (xs := hs.map V.str) (fun i H' => Same H2 H' ∧ MemD H' hd (hs.take i)) ⟨Same.new hhd, [], upd_same, fun z => rfl, Nat.le_refl _⟩ (fun i H' _ m => hfo.ext (s2.trans m.1)) ?_ ?_
      · rintro i x H' hx ⟨sm, m⟩
        obtain ⟨z, kv, rfl, hz, e1, e2, e3⟩ := dict hs hd H2 H' i x hx m
        refine ⟨rfl, tYes_if ⟨_, rfl, kv, .inr z, rfl, e1, small1000 (by rw [List.length_take] at e3; omega), fun b o e => ?_, ?_⟩⟩
        · rw [upd_ne (fun q => by rw [q, hhd] at e; cases e)]
          exact sm b o e
        · rw [take_more hz]
          exact MemD.put e2 e3 z _
      · rintro H3 ⟨sm3, m3⟩
        rw [List.length_map, List.take_length] at m3
        have s3 := s2.trans sm3
        have mt : MemD H3 td ns := by
          obtain ⟨kv, e1, e⟩ := m.ex
          exact ⟨kv, sm3 _ _ e1, e⟩
        have ftd : H td = none := s1.free htd
        have fhd : H hd = none := s2.free hhd
        refine ⟨rw, _, rfl, hrw.same s3, fun J W => ?_⟩
        refine for_it W (fun i σ H' => ∃ (v5 v6 v7 v8 v9 v10 : Option V), σ = [some (.ref rw), some (.ref nm), some (.ref fo), some (.ref td), some (.ref hd), v5, v6, v7, v8, v9, v10] ∧ Same H H' ∧ H' rw = H3 rw ∧ MemD H' td (ns ++ (rs.take i).map (·.nm)) ∧ MemD H' hd (hs ++ folderNames (rs.take i))) ⟨none, none, none, none, none, none, rfl, s3, rfl, by simpa using mt, by simpa [folderNames] using m3⟩ (fun i σ H' _ ⟨_, _, _, _, _, _, _, _, e, _⟩ => e) ?_ ?_
        · rintro i x σ H4 H5 hi ⟨v5, v6, v7, v8, v9, v10, rfl, s4, e4, mt, mh⟩ ⟨T, xi, xr, rfl, hT, rfl, exi, exr⟩
          rw [List.length_map] at hi
          have exr' : (as.map V.ref)[i]? = some xr := exr
          rw [List.getElem?_map] at exr'
          obtain ⟨ra, hra, rfl⟩ := Option.map_eq_some_iff.mp exr'
          obtain ⟨r, hr'⟩ : ∃ r, rs[i]? = some r := ⟨rs[i]'(by rw [← hrows.len]; exact hi), List.getElem?_eq_getElem _⟩
          have fit := hfit i r hr'
          obtain rfl := Option.some.inj exi
          have s5 : Same H (upd H4 T (.tup [.int (i : Nat), .ref ra])) := s4.trans (Same.new hT)
          have rr : Seq (upd H4 T (.tup [.int (i : Nat), .ref ra])) ra (rowVs r) := Seq.same (hrows.at_ i ra r hra hr') s5
          obtain ⟨kt, et, pt, lt⟩ := mt.ex
          obtain ⟨kh, eh, ph, lh⟩ := mh.ex
          have nt : td ≠ T := ne_of_none et hT
          have nh : hd ≠ T := ne_of_none eh hT
          have i100 : i < 100 := by rw [← hrows.len] at hl; omega
          refine ⟨T, _, rfl, sqT upd_same, rfl, _, _, rfl, _, _, rfl, rfl, ?_⟩
          refine ⟨_, rfl, _, rfl, _, rfl, ra, td, hd, r, kt, kh, rfl, rr, by rw [upd_ne nt]; exact et, ?_, by rw [upd_ne nh]; exact eh, ?_, fit.shape, fit.top, fit.kind, fit.price, fun H6 s6 => ?_⟩
          · have q := pt r.nm
            rw [decide_eq_false fit.new] at q
            simpa using q
          · rw [ph r.fo]
            exact decide_eq_true fit.home
          refine ⟨_, rfl, iteF ?_⟩
          refine ⟨fun σ' H' => σ' = [some (.ref rw), some (.ref nm), some (.ref fo), some (.ref td), some (.ref hd), some (.int (i : Nat)), some (.ref ra), some (.str r.nm), some (.str r.fo), some (.str r.ki), some (prV r.pr)] ∧ H' = H6, ?_, ?_⟩
          · refine ⟨_, rfl, ?_⟩
            rcases rr.same s6 with un | un
            · exact .inl ⟨ra, _, rfl, sqT un, rfl, _, _, rfl, _, _, rfl, _, _, rfl, _, _, rfl, rfl, rfl, rfl⟩
            · exact .inr ⟨ra, _, rfl, SqL.of un, rfl, _, _, rfl, _, _, rfl, _, _, rfl, _, _, rfl, rfl, rfl, rfl⟩
          rintro σ' H' ⟨rfl, rfl⟩
          have et6 : H' td = some (.dK kt) := s6 _ _ (by rw [upd_ne nt]; exact et)
          have eh6 : H' hd = some (.dK kh) := s6 _ _ (by rw [upd_ne nh]; exact eh)
          have lt' : kt.length ≤ 300 := by
            rw [List.length_append, List.length_map, List.length_take] at lt; omega
          have lh' : kh.length ≤ 300 := by
            have := folders_le (rs.take i)
            rw [List.length_take] at this
            rw [List.length_append] at lh; omega
          refine ⟨_, rfl, _, rfl, td, _, rfl, DPut.k (k := Sum.inr r.nm) et6 (small1000 (by omega)), ?_⟩
          have s7 : Same H (upd H' td (.dK (putK kt (.inr r.nm) (.bl true)))) := fun b o e => by
            rw [upd_ne (fun q => by rw [q, ftd] at e; cases e)]
            exact s6 _ _ (s5 b o e)
          have mt7 : ns ++ (rs.take (i + 1)).map (·.nm) = ns ++ (rs.take i).map (·.nm) ++ [r.nm] := by rw [take_more hr', List.map_append, List.append_assoc]; rfl
          have mT : MemD (upd H' td (.dK (putK kt (.inr r.nm) (.bl true)))) td (ns ++ (rs.take (i + 1)).map (·.nm)) := by rw [mt7]; exact MemD.put pt lt _ _
          have rw4 : H4 rw = some (.tup (as.map V.ref)) ∨ H4 rw = some (.lst (as.map V.ref)) := hrw.same s4
          have keep : ∀ {b : Addr} {o : HO}, H4 b = some o → b ≠ td → (upd H' td (.dK (putK kt (.inr r.nm) (.bl true)))) b = some o := fun {b o} e nb => by
            rw [upd_ne nb]
            exact s6 _ _ (by rw [upd_ne (ne_of_none e hT)]; exact e)
          have ert : rw ≠ td := fun q => by rcases rw4 with z | z <;> (rw [q, et] at z; cases z)
          have erh : rw ≠ hd := fun q => by rcases rw4 with z | z <;> (rw [q, eh] at z; cases z)
          have erw : (upd H' td (.dK (putK kt (.inr r.nm) (.bl true)))) rw = H3 rw := by
            rw [← e4]
            rcases rw4 with z | z <;> (rw [z]; exact keep z ert)
          refine ⟨_, rfl, rfl, _, rfl, ?_⟩
          refine ite2 (fun hk => ?_) (fun hk => ?_)
          · have hk' : r.ki = ("folder" : Str) := V.str.inj (of_decide_eq_true hk)
            refine ⟨_, rfl, _, rfl, hd, _, rfl, DPut.k (k := Sum.inr r.nm) (Eq.trans (upd_ne nth.symm) eh6) (small1000 (by omega)), ?_⟩
            refine ⟨_, _, _, _, _, _, rfl, fun b o e => ?_, ?_, mT.same (upd_ne nth), ?_⟩
            · rw [upd_ne (fun q => by rw [q, fhd] at e; cases e)]
              exact s7 b o e
            · rw [upd_ne erh]; exact erw
            · rw [fold_take hr', if_pos hk', ← List.append_assoc]
              exact MemD.put ph lh _ _
          · have hk' : ¬ r.ki = ("folder" : Str) := fun q => hk (decide_eq_true (by rw [q]))
            refine ⟨_, _, _, _, _, _, rfl, s7, erw, mT, ?_⟩
            rw [fold_take hr', if_neg hk', List.append_nil]
            exact ⟨kh, Eq.trans (upd_ne nth.symm) eh6, ph, lh⟩
        · rintro σ H4 ⟨v5, v6, v7, v8, v9, v10, rfl, s4, _⟩
          exact hq _ s4
end
end Ts

set_option maxRecDepth 100000
set_option maxHeartbeats 4000000
namespace Ts
open PySem L2
/-! ### a tree as it stands -/
theorem qf_ : ¬ (("quads" : Str) = "folders") := by decide +kernel
theorem qk_ : ¬ (("quads" : Str) = "kinds") := by decide +kernel
theorem qp_ : ¬ (("quads" : Str) = "prices") := by decide +kernel
theorem fk_ : ¬ (("folders" : Str) = "kinds") := by decide +kernel
theorem fp_ : ¬ (("folders" : Str) = "prices") := by decide +kernel
theorem kp_ : ¬ (("kinds" : Str) = "prices") := by decide +kernel
def tf (q f k p : Addr) : List (Str × V) := putF "prices" (.ref p) (putF "kinds" (.ref k) (putF "folders" (.ref f) (putF "quads" (.ref q) [])))
theorem tf_q (q f k p : Addr) : (tf q f k p).lookup ("quads" : Str) = some (.ref q) := by
  unfold tf
  rw [lookup_putF, if_neg qp_, lookup_putF, if_neg qk_, lookup_putF, if_neg qf_, lookup_putF, if_pos rfl]
theorem tf_f (q f k p : Addr) : (tf q f k p).lookup ("folders" : Str) = some (.ref f) := by
  unfold tf
  rw [lookup_putF, if_neg fp_, lookup_putF, if_neg fk_, lookup_putF, if_pos rfl]
theorem tf_k (q f k p : Addr) : (tf q f k p).lookup ("kinds" : Str) = some (.ref k) := by
  unfold tf
  rw [lookup_putF, if_neg kp_, lookup_putF, if_pos rfl]
theorem tf_p (q f k p : Addr) : (tf q f k p).lookup ("prices" : Str) = some (.ref p) := by
  unfold tf
  rw [lookup_putF, if_pos rfl]
theorem tf_no (q f k p : Addr) {m : Str} (h1 : ¬ m = "quads") (h2 : ¬ m = "folders") (h3 : ¬ m = "kinds") (h4 : ¬ m = "prices") : (tf q f k p).lookup m = none := by
  unfold tf
  rw [lookup_putF, if_neg h4, lookup_putF, if_neg h3, lookup_putF, if_neg h2, lookup_putF, if_neg h1]
  rfl
theorem putF_len (n : Str) (v : V) : ∀ l : List (Str × V), (putF n v l).length ≤ l.length + 1
  | [] => Nat.le_refl _
  | p :: r => by
    have ih := putF_len n v r
    show (if p.1 = n then (p.1, v) :: r else p :: putF n v r).length ≤ _
    split
    · exact Nat.le_succ _
    · rw [List.length_cons, List.length_cons]; omega
def kvF (g : Row → V) (l : List Row) : List (Key × V) := l.map fun r => (.inr r.nm, g r)
theorem valV_kvF (g : Row → V) (z : Str) : ∀ l : List Row, valV (kvF g l) (.inr z : Key) = (l.find? fun r => decide (r.nm = z)).map g
  | [] => rfl
  | r :: l => by
    have ih := valV_kvF g z l
    by_cases e : r.nm = z
    · show valV ((.inr r.nm, g r) :: kvF g l) (.inr z : Key) = _
      rw [valV_pos (by rw [e]), List.find?_cons_of_pos (by simpa using e)]
      rfl
    · show valV ((.inr r.nm, g r) :: kvF g l) (.inr z : Key) = _
      rw [valV_neg (fun q => e (Sum.inr.inj q)), List.find?_cons_of_neg (by simpa using e)]
      exact ih
theorem find_none {l : List Row} {z : Str} (h : z ∉ l.map (·.nm)) : (l.find? fun r => decide (r.nm = z)) = none := by
  rw [List.find?_eq_none]
  intro r hr
  simp only [decide_eq_true_eq]
  exact fun q => h (List.mem_map.mpr ⟨r, hr, q⟩)
theorem kvF_more {g : Row → V} {rs : List Row} {i : Nat} {r : Row} (h : rs[i]? = some r) (hn : r.nm ∉ (rs.take i).map (·.nm)) : putK (kvF g (rs.take i)) (.inr r.nm) (g r) = kvF g (rs.take (i + 1)) := by
  rw [putK_new _ (by rw [valV_kvF, find_none hn]; rfl), take_more h]
  unfold kvF
  rw [List.map_append]
  rfl
structure TreeAt (C : Addr) (H : Hp) (t : Addr) (rs : List Row) : Prop where
  ex : ∃ (dx q f k p : Addr) (qs : List Addr), H t = some (.ins C dx (tf q f k p)) ∧ H q = some (.tup (qs.map V.ref)) ∧ RowsAt H qs rs ∧ H f = some (.dK (kvF (fun r => .str r.fo) rs)) ∧ H k = some (.dK (kvF (fun r => .str r.ki) rs)) ∧ H p = some (.dK (kvF (fun r => prV r.pr) rs))
  val : Valid rs
  len : rs.length ≤ 100
theorem TreeAt.same {C : Addr} {H H' : Hp} {t : Addr} {rs : List Row} (h : TreeAt C H t rs) (s : Same H H') : TreeAt C H' t rs := by
  obtain ⟨dx, q, f, k, p, qs, h1, h2, h3, h4, h5, h6⟩ := h.ex
  exact ⟨⟨dx, q, f, k, p, qs, s _ _ h1, s _ _ h2, h3.same s, s _ _ h4, s _ _ h5, s _ _ h6⟩, h.val, h.len⟩
structure TxT (K : PySem.W.Frag) (mg : Str → Option Value) (C : Addr) : Prop where
  cl : Cls K C
  nq : NoAttr K C "quads"
  nf : NoAttr K C "folders"
  nk : NoAttr K C "kinds"
  np : NoAttr K C "prices"
  g : mg "Tree" = some (.ref C)
def rTupOf (K : PySem.W.Frag) : List V → Hp → VK → Prop := fun xs H Q => ∃ p ys, xs = [V.ref p] ∧ ((SqL K H p ys ∧ ∀ l, H l = none → Q (V.ref l) (upd H l (.tup ys))) ∨ (SqT K H p ys ∧ Q (V.ref p) H))
def spTreeInit (C : Addr) : Sp := fun vs H Q _ => ∃ (t dx rw : Addr) (as : List Addr) (rs : List Row), vs = [.ref t, .ref rw] ∧ H t = some (.ins C dx []) ∧ Seq H rw (as.map V.ref) ∧ SeqRows H as rs ∧ rs.length ≤ 100 ∧ Valid rs ∧
  ∀ H', SB t H H' → TreeAt C H' t rs → Q .non H'
section
variable {P : Program} {w : World} {K : PySem.W.Frag} {mg : Str → Option Value} {base : Heap} {C : Addr}
abbrev nTreeInit : List Str := ["self", "rows", "row", "name", "folder", "kind", "price"]
theorem sc_Tree_init : FnScope nTreeInit ["self", "rows"] (defScope s_Tree_init) := ⟨rfl, rfl, rfl, by decide +kernel, rfl, by decide +kernel, by decide +kernel⟩
theorem ok_Tree_init {f : Addr} {fd : FuncData} (F : Fun K "__init__" "Tree.__init__" s_Tree_init f fd) (Dc : DefAt K mg "check_rows" s_check_rows ["rows", "names", "folders"]) (Gc : FnOk P w K mg base CX0 4 Dc.f Dc.fd ["rows", "names", "folders"] (spCheckRows K)) (B : TxB mg) (TC : TxC K mg) (T : TxT K mg C) :
    FnOk P w K mg base CX0 5 f fd ["self", "rows"] (spTreeInit C) := by
  obtain ⟨t1, gT⟩ := TC.top
  refine F.ok sc_Tree_init (fun vs H Q E h => ?_) (fun cdv A outer s H vs Q E hr h => ?_)
  · obtain ⟨t, dx, rw, as, rs, rfl, _⟩ := h
    rfl
  · obtain ⟨t, dx, rw, as, rs, rfl, ht, hrw, hrows, hl, hv, hq⟩ := h
    refine ⟨_, pss_cons (ps_expr (pe_call Gc hr rfl Dc.g Dc.F.kp Dc.b .nil pass0 (pa_cons (pv 1) (pa_cons (pe_tup pa_nil) (pa_cons (pe_tup (pa_cons (pe_glob (by rfl) gT (v := .str ("top" : Str)) ⟨_, rfl⟩) pa_nil)) pa_nil)))))
      (pss_cons (ps_fld (pv 0) (pe_callTy call_tuple_of (by rfl) B.tuple (by decide +kernel) (pa_cons (pe_lc (own := [("row", 2)]) (g := gName 2) (tt := tYes) (te := tCB (rTupOf K) (tCons (tVar 2) tNil)) rfl sc_Tree_init.nd (pi_seqS (i := 1) (pv 1)) (blkOk_by (N := nTreeInit) (sc := defScope s_Tree_init) (by decide +kernel))
          (fun _ _ _ _ _ => pg_name (i := 2) sc_Tree_init.nd rfl (Or.inl rfl)) (fun _ _ _ _ _ => pts_nil) (fun _ _ _ _ _ => by exact pe_callTy (T := "tuple") call_tuple_of (by rfl) B.tuple (by decide +kernel) (pa_cons (pv 2) pa_nil))) pa_nil)) rfl)
      (pss_cons (ps_fld (pv 0) (pe_dc (own := [("name", 3), ("folder", 4), ("kind", 5), ("price", 6)]) (g := gTup K 4 (gCons (gName 3) (gCons (gName 4) (gCons (gName 5) (gCons (gName 6) gNil))))) (tt := tYes) rfl sc_Tree_init.nd (pi_tup (pe_fld (pv 0) rfl)) (blkOk_by (N := nTreeInit) (sc := defScope s_Tree_init) (by decide +kernel))
          (fun _ _ _ _ _ => by exact pg_tup rfl (pgs_cons (pg_name (i := 3) sc_Tree_init.nd rfl (.inl rfl)) (pgs_cons (pg_name (i := 4) sc_Tree_init.nd rfl (.inl rfl)) (pgs_cons (pg_name (i := 5) sc_Tree_init.nd rfl (.inl rfl)) (pgs_cons (pg_name (i := 6) sc_Tree_init.nd rfl (.inl rfl)) pgs_nil))))) (fun _ _ _ _ _ => pts_nil) (fun _ _ _ _ _ => pv 3) (fun _ _ _ _ _ => pv 4)) rfl)
      (pss_cons (ps_fld (pv 0) (pe_dc (own := [("name", 3), ("folder", 4), ("kind", 5), ("price", 6)]) (g := gTup K 4 (gCons (gName 3) (gCons (gName 4) (gCons (gName 5) (gCons (gName 6) gNil))))) (tt := tYes) rfl sc_Tree_init.nd (pi_tup (pe_fld (pv 0) rfl)) (blkOk_by (N := nTreeInit) (sc := defScope s_Tree_init) (by decide +kernel))
          (fun _ _ _ _ _ => by exact pg_tup rfl (pgs_cons (pg_name (i := 3) sc_Tree_init.nd rfl (.inl rfl)) (pgs_cons (pg_name (i := 4) sc_Tree_init.nd rfl (.inl rfl)) (pgs_cons (pg_name (i := 5) sc_Tree_init.nd rfl (.inl rfl)) (pgs_cons (pg_name (i := 6) sc_Tree_init.nd rfl (.inl rfl)) pgs_nil))))) (fun _ _ _ _ _ => pts_nil) (fun _ _ _ _ _ => pv 3) (fun _ _ _ _ _ => pv 5)) rfl)
      (pss_one (ps_fld (pv 0) (pe_dc (own := [("name", 3), ("folder", 4), ("kind", 5), ("price", 6)]) (g := gTup K 4 (gCons (gName 3) (gCons (gName 4) (gCons (gName 5) (gCons (gName 6) gNil))))) (tt := tYes) rfl sc_Tree_init.nd (pi_tup (pe_fld (pv 0) rfl)) (blkOk_by (N := nTreeInit) (sc := defScope s_Tree_init) (by decide +kernel))
          (fun _ _ _ _ _ => by exact pg_tup rfl (pgs_cons (pg_name (i := 3) sc_Tree_init.nd rfl (.inl rfl)) (pgs_cons (pg_name (i := 4) sc_Tree_init.nd rfl (.inl rfl)) (pgs_cons (pg_name (i := 5) sc_Tree_init.nd rfl (.inl rfl)) (pgs_cons (pg_name (i := 6) sc_Tree_init.nd rfl (.inl rfl)) pgs_nil))))) (fun _ _ _ _ _ => pts_nil) (fun _ _ _ _ _ => pv 3) (fun _ _ _ _ _ => pv 6)) rfl))))), ?_⟩
    refine ⟨_, rfl, Nat.zero_le _, fun u1 hu1 => ⟨(by show 1 ≤ sizeLine; decide), fun u2 hu2 => ?_⟩⟩
    have s0 : Same H (upd (upd H u1 (.tup [])) u2 (.tup [V.str ("top" : Str)])) := (Same.new hu1).trans (Same.new hu2)
    have n12 : u1 ≠ u2 := fun q => by rw [← q, upd_same] at hu2; cases hu2
    refine ⟨rw, u1, u2, [], [("top" : Str)], as, rs, rfl, hrw.same s0, hrows.same s0, sqT (by rw [upd_ne n12]; exact upd_same), sqT upd_same, hl, Nat.zero_le _, (by decide), fun i r h => (hv i r h).b, fun H1 s1 => ?_⟩
    have s01 := s0.trans s1
    have hq1 := hrw.same s01
    refine ⟨rw, _, rfl, hq1, fun J W => fun D hD => ?_⟩
    refine lc_it W (fun i H' => ∃ qs : List Addr, Same H1 H' ∧ RowsAt H' qs (rs.take i) ∧ H' D = some (.lst (qs.map V.ref))) ⟨[], Same.new hD, RowsAt.nil, upd_same⟩ (fun i H' _ ⟨_, sm, _, _⟩ => ?_) ?_ ?_
    · rcases hq1 with z | z <;> rw [z] <;> exact sm _ _ z
    · rintro i x H2 H2' hi ⟨qs, sm, rq, hD2⟩ ⟨rfl, hx⟩
      rw [List.length_map] at hi
      rw [List.getElem?_map] at hx
      obtain ⟨ra, hra, rfl⟩ := Option.map_eq_some_iff.mp hx
      obtain ⟨r, hr'⟩ : ∃ r, rs[i]? = some r := ⟨rs[i]'(by rw [← hrows.len]; exact hi), List.getElem?_eq_getElem _⟩
      have rr : Seq H2' ra (rowVs r) := Seq.same (hrows.at_ i ra r hra hr') (s01.trans sm)
      have sz : (qs.map V.ref).length < sizeLine := small1000 (by rw [List.length_map, rq.len, List.length_take]; omega)
      have fin : ∀ (l : Addr) (H3 : Hp), H3 l = some (.tup (rowVs r)) → Same H2' H3 → ∃ qs' : List Addr, Same H1 (upd H3 D (.lst (qs.map V.ref ++ [V.ref l]))) ∧ RowsAt (upd H3 D (.lst (qs.map V.ref ++ [V.ref l]))) qs' (rs.take (i + 1)) ∧ (upd H3 D (.lst (qs.map V.ref ++ [V.ref l]))) D = some (.lst (qs'.map V.ref)) := by
        intro l H3 hl3 s3
        have kt : ∀ {b : Addr} {xs : List V}, H3 b = some (.tup xs) → (upd H3 D (.lst (qs.map V.ref ++ [V.ref l]))) b = some (.tup xs) := fun {b xs} h => by
          rw [upd_ne (fun q => by rw [q, s3 _ _ hD2] at h; cases h)]
          exact h
        refine ⟨qs ++ [l], fun b o e => ?_, ?_, ?_⟩
        · rw [upd_ne (fun q => by rw [q, hD] at e; cases e)]
          exact s3 _ _ (sm _ _ e)
        · rw [take_more hr']
          exact RowsAt.snoc ⟨rq.len, fun j b q hb hq' => kt (s3 _ _ (rq.at_ j b q hb hq'))⟩ (kt hl3)
        · rw [upd_same, List.map_append]; rfl
      refine ⟨rfl, tYes_if ⟨_, rfl, ra, rowVs r, rfl, ?_⟩⟩
      rcases rr with z | z
      · exact .inr ⟨sqT z, qs.map V.ref, hD2, sz, fin ra _ z (Same.refl _)⟩
      · exact .inl ⟨SqL.of z, fun l hl' => ⟨qs.map V.ref, (Same.new hl') _ _ hD2, sz, fin l _ upd_same (Same.new hl')⟩⟩
    · rintro H2 ⟨qs, sm, rq, hD2⟩
      rw [List.length_map, hrows.len, List.take_length] at rq
      refine ⟨D, _, rfl, .inl ⟨SqL.of hD2, fun q hq' => ?_⟩⟩
      have fresh_t : ∀ {b : Addr} {o : HO}, H t = some o → H2 t = some o := fun {b o} e => sm _ _ (s01 _ _ e)
      have ht2 : H2 t = some (.ins C dx []) := sm _ _ (s01 _ _ ht)
      have tq : t ≠ q := ne_of_none ht2 hq'
      refine ⟨_, rfl, t, C, dx, _, rfl, Eq.trans (upd_ne tq) ht2, T.cl, T.nq, (by show 0 < 1000; decide), ?_⟩
      obtain ⟨aH, aE⟩ : ∃ Hx, Hx = upd (upd H2 q (.tup (qs.map V.ref))) t (.ins C dx (putF "quads" (.ref q) [])) := ⟨_, rfl⟩
      have at_ : aH t = some (.ins C dx (putF "quads" (.ref q) [])) := by rw [aE]; exact upd_same
      have aq : aH q = some (.tup (qs.map V.ref)) := by rw [aE, upd_ne tq.symm]; exact upd_same
      have keepA : ∀ b o, b ≠ t → H2 b = some o → aH b = some o := fun b o nb e => by rw [aE, upd_ne nb, upd_ne (ne_of_none e hq')]; exact e
      have nt : ∀ {b : Addr} {xs : List V}, H2 b = some (.tup xs) → b ≠ t := fun {b xs} e y => by rw [y, ht2] at e; cases e
      have ar : RowsAt aH qs rs := ⟨rq.len, fun j b r hb hr => keepA _ _ (nt (rq.at_ j b r hb hr)) (rq.at_ j b r hb hr)⟩
      have asb : SB t H aH := fun b o nb e => keepA b o nb (sm b o (s01 b o e))
      rw [← aE]
      clear aE keepA

      refine ⟨_, rfl, t, C, dx, _, _, rfl, at_, T.cl, T.nq, (by rw [lookup_putF, if_pos rfl]), q, rfl, ⟨_, sqT aq⟩, fun DF hDF => ?_⟩
      refine dc_tup (K := K) (a := q) (xs := qs.map V.ref) (fun i H' => Same aH H' ∧ H' DF = some (.dK (kvF (fun r => V.str r.fo) (rs.take i)))) ⟨Same.new hDF, upd_same⟩ (fun i H' _ m => sqT (m.1 _ _ aq)) ?_ ?_
      · rintro i x H' hx ⟨sm, hDi⟩
        rw [List.getElem?_map] at hx
        obtain ⟨qa, hqa, rfl⟩ := Option.map_eq_some_iff.mp hx
        obtain ⟨r, hr'⟩ : ∃ r, rs[i]? = some r := ⟨rs[i]'(by rw [← rq.len]; exact (List.getElem?_eq_some_iff.mp hqa).1), List.getElem?_eq_getElem _⟩
        have e := sm _ _ (ar.at_ i qa r hqa hr')
        refine ⟨qa, _, rfl, sqT e, rfl, _, _, rfl, _, _, rfl, _, _, rfl, _, _, rfl, rfl, rfl, tYes_if ⟨_, rfl, _, rfl, _, .inr r.nm, rfl, hDi, small1000 (by unfold kvF; rw [List.length_map, List.length_take]; omega), fun b o e => ?_, ?_⟩⟩
        · rw [upd_ne (fun y => by rw [y, hDF] at e; cases e)]
          exact sm b o e
        · rw [upd_same]
          exact congrArg (fun l => some (HO.dK l)) (kvF_more (g := (fun r => V.str r.fo)) hr' (hv i r hr').new)
      rintro H5 ⟨sm, hDD⟩
      rw [List.length_map, rq.len, List.take_length] at hDD
      refine ⟨_, rfl, t, C, dx, _, rfl, sm _ _ at_, T.cl, T.nf, ?_, ?_⟩
      · exact Nat.lt_of_le_of_lt (putF_len _ _ _) (by decide)
      obtain ⟨cH, cE⟩ : ∃ Hx, Hx = upd H5 t (.ins C dx (putF "folders" (.ref DF) (putF "quads" (.ref q) []))) := ⟨_, rfl⟩
      have ct : cH t = some (.ins C dx (putF "folders" (.ref DF) (putF "quads" (.ref q) []))) := by rw [cE]; exact upd_same
      have keepX : ∀ b o, b ≠ t → aH b = some o → cH b = some o := fun b o nb e => by rw [cE, upd_ne nb]; exact sm b o e
      have cq : cH q = some (.tup (qs.map V.ref)) := keepX _ _ tq.symm aq
      have cr : RowsAt cH qs rs := ⟨rq.len, fun j b r hb hr => keepX _ _ (nt (rq.at_ j b r hb hr)) (ar.at_ j b r hb hr)⟩
      have csb : SB t H cH := fun b o nb e => keepX b o nb (asb b o nb e)
      have nDF : DF ≠ t := fun y => by rw [y, at_] at hDF; cases hDF
      have cF : cH DF = some (.dK (kvF (fun r => V.str r.fo) rs)) := by rw [cE, upd_ne nDF]; exact hDD
      rw [← cE]
      clear cE keepX sm hDD H5

      refine ⟨_, rfl, t, C, dx, _, _, rfl, ct, T.cl, T.nq, (by rw [lookup_putF, if_neg qf_, lookup_putF, if_pos rfl]), q, rfl, ⟨_, sqT cq⟩, fun DK hDK => ?_⟩
      refine dc_tup (K := K) (a := q) (xs := qs.map V.ref) (fun i H' => Same cH H' ∧ H' DK = some (.dK (kvF (fun r => V.str r.ki) (rs.take i)))) ⟨Same.new hDK, upd_same⟩ (fun i H' _ m => sqT (m.1 _ _ cq)) ?_ ?_
      · rintro i x H' hx ⟨sm, hDi⟩
        rw [List.getElem?_map] at hx
        obtain ⟨qa, hqa, rfl⟩ := Option.map_eq_some_iff.mp hx
        obtain ⟨r, hr'⟩ : ∃ r, rs[i]? = some r := ⟨rs[i]'(by rw [← rq.len]; exact (List.getElem?_eq_some_iff.mp hqa).1), List.getElem?_eq_getElem _⟩
        have e := sm _ _ (cr.at_ i qa r hqa hr')
        refine ⟨qa, _, rfl, sqT e, rfl, _, _, rfl, _, _, rfl, _, _, rfl, _, _, rfl, rfl, rfl, tYes_if ⟨_, rfl, _, rfl, _, .inr r.nm, rfl, hDi, small1000 (by unfold kvF; rw [List.length_map, List.length_take]; omega), fun b o e => ?_, ?_⟩⟩
        · rw [upd_ne (fun y => by rw [y, hDK] at e; cases e)]
          exact sm b o e
        · rw [upd_same]
          exact congrArg (fun l => some (HO.dK l)) (kvF_more (g := (fun r => V.str r.ki)) hr' (hv i r hr').new)
      rintro H5 ⟨sm, hDD⟩
      rw [List.length_map, rq.len, List.take_length] at hDD
      refine ⟨_, rfl, t, C, dx, _, rfl, sm _ _ ct, T.cl, T.nk, ?_, ?_⟩
      · exact Nat.lt_of_le_of_lt (Nat.le_trans (putF_len _ _ _) (Nat.succ_le_succ (putF_len _ _ _))) (by decide)
      obtain ⟨dH, dE⟩ : ∃ Hx, Hx = upd H5 t (.ins C dx (putF "kinds" (.ref DK) (putF "folders" (.ref DF) (putF "quads" (.ref q) [])))) := ⟨_, rfl⟩
      have dt : dH t = some (.ins C dx (putF "kinds" (.ref DK) (putF "folders" (.ref DF) (putF "quads" (.ref q) [])))) := by rw [dE]; exact upd_same
      have keepX : ∀ b o, b ≠ t → cH b = some o → dH b = some o := fun b o nb e => by rw [dE, upd_ne nb]; exact sm b o e
      have dq : dH q = some (.tup (qs.map V.ref)) := keepX _ _ tq.symm cq
      have dr : RowsAt dH qs rs := ⟨rq.len, fun j b r hb hr => keepX _ _ (nt (rq.at_ j b r hb hr)) (cr.at_ j b r hb hr)⟩
      have dsb : SB t H dH := fun b o nb e => keepX b o nb (csb b o nb e)
      have nDK : DK ≠ t := fun y => by rw [y, ct] at hDK; cases hDK
      have dK : dH DK = some (.dK (kvF (fun r => V.str r.ki) rs)) := by rw [dE, upd_ne nDK]; exact hDD
      have dF : dH DF = some (.dK (kvF (fun r => V.str r.fo) rs)) := keepX _ _ nDF cF
      rw [← dE]
      clear dE keepX sm hDD H5

      refine ⟨_, rfl, t, C, dx, _, _, rfl, dt, T.cl, T.nq, (by rw [lookup_putF, if_neg qk_, lookup_putF, if_neg qf_, lookup_putF, if_pos rfl]), q, rfl, ⟨_, sqT dq⟩, fun DP hDP => ?_⟩
      refine dc_tup (K := K) (a := q) (xs := qs.map V.ref) (fun i H' => Same dH H' ∧ H' DP = some (.dK (kvF (fun r => prV r.pr) (rs.take i)))) ⟨Same.new hDP, upd_same⟩ (fun i H' _ m => sqT (m.1 _ _ dq)) ?_ ?_
      · rintro i x H' hx ⟨sm, hDi⟩
        rw [List.getElem?_map] at hx
        obtain ⟨qa, hqa, rfl⟩ := Option.map_eq_some_iff.mp hx
        obtain ⟨r, hr'⟩ : ∃ r, rs[i]? = some r := ⟨rs[i]'(by rw [← rq.len]; exact (List.getElem?_eq_some_iff.mp hqa).1), List.getElem?_eq_getElem _⟩
        have e := sm _ _ (dr.at_ i qa r hqa hr')
        refine ⟨qa, _, rfl, sqT e, rfl, _, _, rfl, _, _, rfl, _, _, rfl, _, _, rfl, rfl, rfl, tYes_if ⟨_, rfl, _, rfl, _, .inr r.nm, rfl, hDi, small1000 (by unfold kvF; rw [List.length_map, List.length_take]; omega), fun b o e => ?_, ?_⟩⟩
        · rw [upd_ne (fun y => by rw [y, hDP] at e; cases e)]
          exact sm b o e
        · rw [upd_same]
          exact congrArg (fun l => some (HO.dK l)) (kvF_more (g := (fun r => prV r.pr)) hr' (hv i r hr').new)
      rintro H5 ⟨sm, hDD⟩
      rw [List.length_map, rq.len, List.take_length] at hDD
      refine ⟨_, rfl, t, C, dx, _, rfl, sm _ _ dt, T.cl, T.np, ?_, ?_⟩
      · exact Nat.lt_of_le_of_lt (Nat.le_trans (putF_len _ _ _) (Nat.succ_le_succ (Nat.le_trans (putF_len _ _ _) (Nat.succ_le_succ (putF_len _ _ _))))) (by decide)
      obtain ⟨eH, eE⟩ : ∃ Hx, Hx = upd H5 t (.ins C dx (putF "prices" (.ref DP) (putF "kinds" (.ref DK) (putF "folders" (.ref DF) (putF "quads" (.ref q) []))))) := ⟨_, rfl⟩
      have et : eH t = some (.ins C dx (putF "prices" (.ref DP) (putF "kinds" (.ref DK) (putF "folders" (.ref DF) (putF "quads" (.ref q) []))))) := by rw [eE]; exact upd_same
      have keepX : ∀ b o, b ≠ t → dH b = some o → eH b = some o := fun b o nb e => by rw [eE, upd_ne nb]; exact sm b o e
      have eq : eH q = some (.tup (qs.map V.ref)) := keepX _ _ tq.symm dq
      have er : RowsAt eH qs rs := ⟨rq.len, fun j b r hb hr => keepX _ _ (nt (rq.at_ j b r hb hr)) (dr.at_ j b r hb hr)⟩
      have esb : SB t H eH := fun b o nb e => keepX b o nb (dsb b o nb e)
      have nDP : DP ≠ t := fun y => by rw [y, dt] at hDP; cases hDP
      have eP : eH DP = some (.dK (kvF (fun r => prV r.pr) rs)) := by rw [eE, upd_ne nDP]; exact hDD
      have eF : eH DF = some (.dK (kvF (fun r => V.str r.fo) rs)) := keepX _ _ nDF dF
      have eK : eH DK = some (.dK (kvF (fun r => V.str r.ki) rs)) := keepX _ _ nDK dK
      rw [← eE]
      clear eE keepX sm hDD H5
      exact hq eH esb ⟨⟨dx, q, DF, DK, DP, qs, et, eq, er, eF, eK, eP⟩, hv, hl⟩
end
end Ts

set_option maxRecDepth 100000
set_option maxHeartbeats 4000000
namespace Ts
open PySem L2
/-! ### rows as data -/
def prD : Option Int → PyData
  | none => .none
  | some i => .int i
def rowD (r : Row) : PyData := .tuple [.str r.nm, .str r.fo, .str r.ki, prD r.pr]
theorem prD_ok {K : PySem.W.Frag} {H : Hp} (o : Option Int) : Dp K H (prV o) (prD o) := by
  cases o with
  | none => exact .non
  | some i => exact .int i
theorem row_dp {K : PySem.W.Frag} {H : Hp} {a : Addr} {r : Row} (h : H a = some (.tup (rowVs r))) : Dp K H (.ref a) (rowD r) :=
  .tup (sqT h) (.cons (.str _) (.cons (.str _) (.cons (.str _) (.cons (prD_ok _) .nil))))
theorem rows_dp {K : PySem.W.Frag} {H : Hp} : ∀ {as : List Addr} {rs : List Row}, RowsAt H as rs → DpAll K H (as.map V.ref) (rs.map rowD)
  | [], [], _ => .nil
  | [], _ :: _, h => by have := h.len; simp at this
  | _ :: _, [], h => by have := h.len; simp at this
  | a :: as, r :: rs, h => .cons (row_dp (h.at_ 0 a r rfl rfl)) (rows_dp ⟨by simpa using h.len, fun i b q hb hq => h.at_ (i + 1) b q (by simpa using hb) (by simpa using hq)⟩)
theorem str_beq (x y : Str) : (x == y) = decide (x = y) := by
  by_cases h : x = y
  · subst h; simp
  · rw [decide_eq_false h]; exact beq_eq_false_iff_ne.mpr h
theorem prD_eqv (a b : Option Int) : PyData.eqv (prD a) (prD b) = decide (a = b) := by
  cases a <;> cases b <;> simp [prD, PyData.eqv]
  rename_i i j
  by_cases h : i = j <;> simp [h]
theorem row_eqv (a b : Row) : PyData.eqv (rowD a) (rowD b) = decide (a = b) := by
  obtain ⟨n1, f1, k1, p1⟩ := a
  obtain ⟨n2, f2, k2, p2⟩ := b
  unfold rowD
  simp only [PyData.eqv, PyData.eqvAll, prD_eqv, str_beq, Bool.and_true]
  by_cases h1 : n1 = n2 <;> by_cases h2 : f1 = f2 <;> by_cases h3 : k1 = k2 <;> by_cases h4 : p1 = p2 <;> simp [h1, h2, h3, h4]
theorem rows_eqv : ∀ (a b : List Row), PyData.eqvAll (a.map rowD) (b.map rowD) = decide (a = b)
  | [], [] => by simp [PyData.eqvAll]
  | [], _ :: _ => by simp [PyData.eqvAll]
  | _ :: _, [] => by simp [PyData.eqvAll]
  | x :: a, y :: b => by
    simp only [List.map_cons, PyData.eqvAll, row_eqv, rows_eqv a b]
    by_cases h1 : x = y <;> by_cases h2 : a = b <;> simp [h1, h2]
theorem low_ok {z : Str} (h : ∀ c ∈ z.cps.toList, c ≤ 122) : PyData.strOk z = true := by
  unfold PyData.strOk
  rw [← Array.all_toList, List.all_eq_true]
  intro c hc
  have := h c hc
  exact decide_eq_true (by omega)
theorem top_ok : PyData.strOk ("top" : Str) = true := by decide +kernel
theorem kinds_ok : ∀ k ∈ kinds3, PyData.strOk k = true := by decide +kernel
structure RowOk (r : Row) : Prop where
  n : PyData.strOk r.nm = true
  f : PyData.strOk r.fo = true
  k : PyData.strOk r.ki = true
theorem rowD_lay {r : Row} (h : RowOk r) : (rowD r).canLay0 = true := by
  obtain ⟨h1, h2, h3⟩ := h
  obtain ⟨n, f, k, p⟩ := r
  cases p <;> simp_all [rowD, prD, PyData.canLay0, PyData.canLayAll0]
theorem rowD_depth (r : Row) : (rowD r).depth = 1 := by
  obtain ⟨n, f, k, p⟩ := r
  cases p <;> simp [rowD, prD, PyData.depth, PyData.depthAll]
theorem rows_lay : ∀ (rs : List Row), (∀ r ∈ rs, RowOk r) → PyData.canLayAll0 (rs.map rowD) = true
  | [], _ => by simp [PyData.canLayAll0]
  | r :: rs, h => by
    simp only [List.map_cons, PyData.canLayAll0, rowD_lay (h r (List.mem_cons_self ..)), rows_lay rs (fun q hq => h q (List.mem_cons_of_mem _ hq)), Bool.and_self]
theorem rows_depth : ∀ (rs : List Row), PyData.depthAll (rs.map rowD) ≤ 1
  | [] => by simp [PyData.depthAll]
  | r :: rs => by
    have ih := rows_depth rs
    simp only [List.map_cons, PyData.depthAll, rowD_depth]
    omega
theorem shaped_tup {rs : List Row} (h : ∀ r ∈ rs, RowOk r) : SeqAt.shaped (.tuple (rs.map rowD)) = true := by
  have q := rows_depth rs
  unfold SeqAt.shaped
  rw [Bool.and_eq_true]
  refine ⟨by simp only [PyData.canLay0]; exact rows_lay rs h, decide_eq_true ?_⟩
  simp only [PyData.depth]
  omega
theorem shaped_lst {rs : List Row} (h : ∀ r ∈ rs, RowOk r) : SeqAt.shaped (.list (rs.map rowD)) = true := by
  have q := rows_depth rs
  unfold SeqAt.shaped
  rw [Bool.and_eq_true]
  refine ⟨by simp only [PyData.canLay0]; exact rows_lay rs h, decide_eq_true ?_⟩
  simp only [PyData.depth]
  omega
theorem shaped_row {r : Row} (h : RowOk r) : SeqAt.shaped (rowD r) = true := by
  simp only [SeqAt.shaped, rowD_lay h, rowD_depth, Bool.true_and]
  decide
theorem low_sok {z : Str} (h : Low z) : PyData.strOk z = true := low_ok fun c hc => (h c hc).2
theorem Valid.ok {rs : List Row} (h : Valid rs) : ∀ r ∈ rs, RowOk r := by
  intro r hr
  obtain ⟨i, hi, rfl⟩ := List.mem_iff_getElem.mp hr
  have f := h i rs[i] (List.getElem?_eq_getElem hi)
  refine ⟨low_sok f.shape.2, ?_, kinds_ok _ f.kind⟩
  rcases f.home with e | ⟨q, hq, e, _⟩
  · rw [e]; exact top_ok
  · obtain ⟨j, hj, rfl⟩ := List.mem_iff_getElem.mp (List.mem_of_mem_take hq)
    rw [← e]
    exact low_sok (h j rs[j] (List.getElem?_eq_getElem hj)).shape.2
/-! ### promises of the methods -/
def names (rs : List Row) : List Str := rs.map (·.nm)
def rowOf (rs : List Row) (z : Str) : Option Row := rs.find? fun r => decide (r.nm = z)
theorem rowOf_some {rs : List Row} {z : Str} (h : z ∈ names rs) : ∃ r, rowOf rs z = some r ∧ r ∈ rs ∧ r.nm = z := by
  unfold rowOf
  obtain ⟨q, hq, e⟩ := List.mem_map.mp h
  cases e1 : rs.find? fun r => decide (r.nm = z) with
  | none =>
    rw [List.find?_eq_none] at e1
    exact absurd (decide_eq_true e) (e1 q hq)
  | some r => exact ⟨r, rfl, List.mem_of_find?_eq_some e1, of_decide_eq_true (List.find?_some (p := fun (r : Row) => decide (r.nm = z)) e1)⟩
def spLen (C : Addr) : Sp := fun vs H Q _ => ∃ (t : Addr) (rs : List Row), vs = [.ref t] ∧ TreeAt C H t rs ∧ Q (.int rs.length) H
def Other (K : PySem.W.Frag) (H : Hp) (x : V) (c : Value) : Prop := ∃ ty, TyX K H x ty ∧ PySem.W.kitOne K ty c = some false
def spContains (K : PySem.W.Frag) (C : Addr) : Sp := fun vs H Q _ => ∃ (t : Addr) (x : V) (rs : List Row), vs = [.ref t, x] ∧ TreeAt C H t rs ∧
  ((∃ z, x = .str z ∧ Q (.bl (decide (z ∈ names rs))) H) ∨ (Other K H x (.type "str") ∧ Q (.bl false) H))
def spEqT (K : PySem.W.Frag) (C : Addr) : Sp := fun vs H Q _ => ∃ (t : Addr) (x : V) (rs : List Row), vs = [.ref t, x] ∧ TreeAt C H t rs ∧
  ((∃ (u : Addr) (qs : List Row), x = .ref u ∧ TreeAt C H u qs ∧ Q (.bl (decide (rs = qs))) H) ∨ (Other K H x (.ref C) ∧ Q (.bl false) H))
def spRowsM (C : Addr) : Sp := fun vs H Q _ => ∃ (t : Addr) (rs : List Row), vs = [.ref t] ∧ TreeAt C H t rs ∧ ∀ p (qs : List Addr), H p = none → RowsAt H qs rs → Q (.ref p) (upd H p (.lst (qs.map V.ref)))
def spBox (C : Addr) : Sp := fun vs H Q _ => ∃ (t : Addr) (z : Str) (rs : List Row), vs = [.ref t, .str z] ∧ TreeAt C H t rs ∧ z ∈ names rs ∧ Q .non H
def spIsPlace (C : Addr) : Sp := fun vs H Q _ => ∃ (t : Addr) (z : Str) (rs : List Row), vs = [.ref t, .str z] ∧ TreeAt C H t rs ∧ Q (.bl (decide (z = ("top" : Str) ∨ z ∈ names rs))) H
def spPlace (C : Addr) : Sp := fun vs H Q _ => ∃ (t : Addr) (z : Str) (rs : List Row), vs = [.ref t, .str z] ∧ TreeAt C H t rs ∧ (z = ("top" : Str) ∨ z ∈ names rs) ∧ Q .non H
def spGet (C : Addr) (g : Row → V) : Sp := fun vs H Q _ => ∃ (t : Addr) (z : Str) (rs : List Row) (r : Row), vs = [.ref t, .str z] ∧ TreeAt C H t rs ∧ rowOf rs z = some r ∧ Q (g r) H
section
variable {P : Program} {w : World} {K : PySem.W.Frag} {mg : Str → Option Value} {base : Heap} {C : Addr}
theorem sc_Tree_len : FnScope ["self"] ["self"] (defScope s_Tree_len) := ⟨rfl, rfl, rfl, by decide +kernel, rfl, by decide +kernel, by decide +kernel⟩
theorem ok_Tree_len {f : Addr} {fd : FuncData} (F : Fun K "__len__" "Tree.__len__" s_Tree_len f fd) (B : TxB mg) (T : TxT K mg C) : FnOk P w K mg base CX0 2 f fd ["self"] (spLen C) := by
  refine F.ok sc_Tree_len (fun vs H Q E h => ?_) (fun cdv A outer s H vs Q E hr h => ?_)
  · obtain ⟨t, rs, rfl, _⟩ := h
    rfl
  · obtain ⟨t, rs, rfl, ht, hq⟩ := h
    obtain ⟨dx, q, f, k, p, qs, h1, h2, h3, h4, h5, h6⟩ := ht.ex
    refine ⟨_, pss_one (ps_ret (pe_callB call_len_seq (by rfl) B.len PySem.boot_len (pa_cons (pe_fld (pv 0) rfl) pa_nil))), ?_⟩
    refine ⟨_, rfl, t, C, dx, _, _, rfl, h1, T.cl, T.nq, tf_q _ _ _ _, q, _, rfl, .inr (sqT h2), ?_⟩
    rw [List.length_map, h3.len]
    exact hq
theorem sc_Tree_contains : FnScope ["self", "x"] ["self", "x"] (defScope s_Tree_contains) := ⟨rfl, rfl, rfl, by decide +kernel, rfl, by decide +kernel, by decide +kernel⟩
theorem ok_Tree_contains {f : Addr} {fd : FuncData} (F : Fun K "__contains__" "Tree.__contains__" s_Tree_contains f fd) (B : TxB mg) (T : TxT K mg C) : FnOk P w K mg base CX0 2 f fd ["self", "x"] (spContains K C) := by
  refine F.ok sc_Tree_contains (fun vs H Q E h => ?_) (fun cdv A outer s H vs Q E hr h => ?_)
  · obtain ⟨t, x, rs, rfl, _⟩ := h
    rfl
  · obtain ⟨t, x, rs, rfl, ht, h⟩ := h
    have hu := hu_of hr
    obtain ⟨dx, q, f, k, p, qs, h1, h2, h3, h4, h5, h6⟩ := ht.ex
    refine ⟨_, pss_one (ps_ret (pe_and (pe_callB call_isi (by rfl) B.isinstance (by decide +kernel) (pa_cons (pv 1) (pa_cons (pe_bltn (by rfl) B.str (by decide +kernel) (v := .ty "str") rfl) pa_nil))) (pe_one (pe_cmp (pc_din hu (pv 1) (pe_fld (pv 0) rfl)) rfl)))), ?_⟩
    rcases h with ⟨z, rfl, hq⟩ | ⟨⟨ty, hty, hk⟩, hq⟩
    · refine ⟨_, rfl, _, _, _, _, true, rfl, .ty "str", .base (.str z), kit_ty (by decide +kernel), _, rfl, iteT ?_⟩
      refine ⟨_, rfl, _, rfl, t, C, dx, _, _, rfl, h1, T.cl, T.nk, tf_k _ _ _ _, k, _, rfl, DGet.k (k := Sum.inr z) h5, ?_⟩
      rw [valV_kvF]
      have e : ((rs.find? fun r => decide (r.nm = z)).map fun r => V.str r.ki).isSome = decide (z ∈ names rs) := by
        by_cases hz : z ∈ names rs
        · obtain ⟨r, e1, _⟩ := rowOf_some hz
          unfold rowOf at e1
          rw [e1, decide_eq_true hz]; rfl
        · rw [find_none hz, decide_eq_false hz]; rfl
      rw [e]
      exact hq
    · exact ⟨_, rfl, _, _, _, _, false, rfl, .ty "str", hty, hk, _, rfl, iteF hq⟩
theorem sc_Tree_eq : FnScope ["self", "other"] ["self", "other"] (defScope s_Tree_eq) := ⟨rfl, rfl, rfl, by decide +kernel, rfl, by decide +kernel, by decide +kernel⟩
theorem ok_Tree_eq {f : Addr} {fd : FuncData} (F : Fun K "__eq__" "Tree.__eq__" s_Tree_eq f fd) (B : TxB mg) (T : TxT K mg C) (I : C8.InsC K C) : FnOk P w K mg base CX0 2 f fd ["self", "other"] (spEqT K C) := by
  refine F.ok sc_Tree_eq (fun vs H Q E h => ?_) (fun cdv A outer s H vs Q E hr h => ?_)
  · obtain ⟨t, x, rs, rfl, _⟩ := h
    rfl
  · obtain ⟨t, x, rs, rfl, ht, h⟩ := h
    obtain ⟨dx, q, f, k, p, qs, h1, h2, h3, h4, h5, h6⟩ := ht.ex
    refine ⟨_, pss_one (ps_ret (pe_and (pe_callB call_isi (by rfl) B.isinstance (by decide +kernel) (pa_cons (pv 1) (pa_cons (pe_glob (by rfl) T.g (v := .ref C) rfl) pa_nil))) (pe_one (pe_cmpR (op_eqD (by have := hr.units; exact this)) (pe_fld (pv 0) rfl) (pe_fld (pv 1) rfl) (nomark _))))), ?_⟩
    rcases h with ⟨u, ys, rfl, hu, hq⟩ | ⟨⟨ty, hty, hk⟩, hq⟩
    · obtain ⟨dx', q', f', k', p', qs', g1, g2, g3, g4, g5, g6⟩ := hu.ex
      refine ⟨_, rfl, _, _, _, _, true, rfl, .own C, .base (.ins g1 I.cl I.ha I.hn I.htk I.hm), I.me, _, rfl, iteT ?_⟩
      refine ⟨_, rfl, t, C, dx, _, _, rfl, h1, T.cl, T.nq, tf_q _ _ _ _, _, rfl, u, C, dx', _, _, rfl, g1, T.cl, T.nq, tf_q _ _ _ _, _, _, .tup (sqT h2) (rows_dp h3), .tup (sqT g2) (rows_dp g3), shaped_tup ht.val.ok, shaped_tup hu.val.ok, ?_⟩
      have e : PyData.eqv (.tuple (rs.map rowD)) (.tuple (ys.map rowD)) = decide (rs = ys) := by
        simp only [PyData.eqv]
        exact rows_eqv rs ys
      rw [e]
      exact hq
    · exact ⟨_, rfl, _, _, _, _, false, rfl, .own C, hty, hk, _, rfl, iteF hq⟩
theorem sc_Tree_rows : FnScope ["self"] ["self"] (defScope s_Tree_rows) := ⟨rfl, rfl, rfl, by decide +kernel, rfl, by decide +kernel, by decide +kernel⟩
theorem ok_Tree_rows {f : Addr} {fd : FuncData} (F : Fun K "rows" "Tree.rows" s_Tree_rows f fd) (B : TxB mg) (T : TxT K mg C) : FnOk P w K mg base CX0 2 f fd ["self"] (spRowsM C) := by
  refine F.ok sc_Tree_rows (fun vs H Q E h => ?_) (fun cdv A outer s H vs Q E hr h => ?_)
  · obtain ⟨t, rs, rfl, _⟩ := h
    rfl
  · obtain ⟨t, rs, rfl, ht, hq⟩ := h
    obtain ⟨dx, q, f, k, p, qs, h1, h2, h3, h4, h5, h6⟩ := ht.ex
    refine ⟨_, pss_one (ps_ret (pe_callTy call_list_of (by rfl) B.list (by decide +kernel) (pa_cons (pe_fld (pv 0) rfl) pa_nil))), ?_⟩
    exact ⟨_, rfl, t, C, dx, _, _, rfl, h1, T.cl, T.nq, tf_q _ _ _ _, q, _, rfl, .inr (sqT h2), fun l hl => hq l qs hl h3⟩
theorem sc_check_box : FnScope ["tree", "thing"] ["tree", "thing"] (defScope s_check_box) := ⟨rfl, rfl, rfl, by decide +kernel, rfl, by decide +kernel, by decide +kernel⟩
theorem ok_check_box (D : DefAt K mg "check_box" s_check_box ["tree", "thing"]) (M : MethAt K C "__contains__" "Tree.__contains__" s_Tree_contains ["self", "x"]) (B : TxB mg) (T : TxT K mg C) : FnOk P w K mg base CX0 3 D.f D.fd ["tree", "thing"] (spBox C) := by
  have G : FnOk P w K mg base CX0 2 M.f M.fd ["self", "x"] (spContains K C) := ok_Tree_contains M.F B T
  refine D.F.ok sc_check_box (fun vs H Q E h => ?_) (fun cdv A outer s H vs Q E hr h => ?_)
  · obtain ⟨t, z, rs, rfl, _⟩ := h
    rfl
  · obtain ⟨t, z, rs, rfl, ht, hz, hq⟩ := h
    obtain ⟨dx, q, f, k, p, qs, h1, h2⟩ := ht.ex
    refine ⟨_, pss_one (ps_if (pt_cmpR (op_notinC G M.m hr M.b pass0) (pv 1) (pv 0) (by rfl)) (pss_one ps_never) pss_nil), ?_⟩
    refine ⟨_, rfl, _, rfl, t, dx, _, rfl, h1, t, _, rs, rfl, ht, .inl ⟨z, rfl, _, rfl, _, rfl, ?_⟩⟩
    rw [decide_eq_true hz]
    exact iteF hq
theorem sc_Tree_folder : FnScope ["self", "box"] ["self", "box"] (defScope s_Tree_folder) := ⟨rfl, rfl, rfl, by decide +kernel, rfl, by decide +kernel, by decide +kernel⟩
theorem ok_Tree_folder {f : Addr} {fd : FuncData} (F : Fun K "folder" "Tree.folder" s_Tree_folder f fd) (Db : DefAt K mg "check_box" s_check_box ["tree", "thing"]) (Gb : FnOk P w K mg base CX0 3 Db.f Db.fd ["tree", "thing"] (spBox C)) (T : TxT K mg C) : FnOk P w K mg base CX0 4 f fd ["self", "box"] (spGet C (fun r => V.str r.fo)) := by
  refine F.ok sc_Tree_folder (fun vs H Q E h => ?_) (fun cdv A outer s H vs Q E hr h => ?_)
  · obtain ⟨t, z, rs, r, rfl, _⟩ := h
    rfl
  · obtain ⟨t, z, rs, r, rfl, ht, hz, hq⟩ := h
    have hu := hu_of hr
    obtain ⟨dx, q, f, k, p, qs, h1, h2, h3, h4, h5, h6⟩ := ht.ex
    refine ⟨_, pss_cons (ps_expr (pe_call Gb hr rfl Db.g Db.F.kp Db.b .nil pass0 (pa_cons (pv 0) (pa_cons (pv 1) pa_nil)))) (pss_one (ps_ret (pe_dget hu (pe_fld (pv 0) rfl) (pv 1) (fun _ _ => rfl)))), ?_⟩
    have hin : z ∈ names rs := List.mem_map.mpr ⟨r, List.mem_of_find?_eq_some hz, of_decide_eq_true (List.find?_some (p := fun (r : Row) => decide (r.nm = z)) (show rs.find? (fun (r : Row) => decide (r.nm = z)) = some r from hz))⟩
    refine ⟨_, rfl, _, rfl, t, z, rs, rfl, ht, hin, _, rfl, t, C, dx, _, _, rfl, h1, T.cl, T.nf, tf_f _ _ _ _, _, rfl, f, _, rfl, ?_, hq⟩
    have e := DGet.k (k := Sum.inr z) h4
    rw [valV_kvF, show (rs.find? fun r => decide (r.nm = z)) = some r from hz] at e
    exact e
theorem sc_Tree_kind : FnScope ["self", "box"] ["self", "box"] (defScope s_Tree_kind) := ⟨rfl, rfl, rfl, by decide +kernel, rfl, by decide +kernel, by decide +kernel⟩
theorem ok_Tree_kind {f : Addr} {fd : FuncData} (F : Fun K "kind" "Tree.kind" s_Tree_kind f fd) (Db : DefAt K mg "check_box" s_check_box ["tree", "thing"]) (Gb : FnOk P w K mg base CX0 3 Db.f Db.fd ["tree", "thing"] (spBox C)) (T : TxT K mg C) : FnOk P w K mg base CX0 4 f fd ["self", "box"] (spGet C (fun r => V.str r.ki)) := by
  refine F.ok sc_Tree_kind (fun vs H Q E h => ?_) (fun cdv A outer s H vs Q E hr h => ?_)
  · obtain ⟨t, z, rs, r, rfl, _⟩ := h
    rfl
  · obtain ⟨t, z, rs, r, rfl, ht, hz, hq⟩ := h
    have hu := hu_of hr
    obtain ⟨dx, q, f, k, p, qs, h1, h2, h3, h4, h5, h6⟩ := ht.ex
    refine ⟨_, pss_cons (ps_expr (pe_call Gb hr rfl Db.g Db.F.kp Db.b .nil pass0 (pa_cons (pv 0) (pa_cons (pv 1) pa_nil)))) (pss_one (ps_ret (pe_dget hu (pe_fld (pv 0) rfl) (pv 1) (fun _ _ => rfl)))), ?_⟩
    have hin : z ∈ names rs := List.mem_map.mpr ⟨r, List.mem_of_find?_eq_some hz, of_decide_eq_true (List.find?_some (p := fun (r : Row) => decide (r.nm = z)) (show rs.find? (fun (r : Row) => decide (r.nm = z)) = some r from hz))⟩
    refine ⟨_, rfl, _, rfl, t, z, rs, rfl, ht, hin, _, rfl, t, C, dx, _, _, rfl, h1, T.cl, T.nk, tf_k _ _ _ _, _, rfl, k, _, rfl, ?_, hq⟩
    have e := DGet.k (k := Sum.inr z) h5
    rw [valV_kvF, show (rs.find? fun r => decide (r.nm = z)) = some r from hz] at e
    exact e
theorem sc_Tree_price : FnScope ["self", "box"] ["self", "box"] (defScope s_Tree_price) := ⟨rfl, rfl, rfl, by decide +kernel, rfl, by decide +kernel, by decide +kernel⟩
theorem ok_Tree_price {f : Addr} {fd : FuncData} (F : Fun K "price" "Tree.price" s_Tree_price f fd) (Db : DefAt K mg "check_box" s_check_box ["tree", "thing"]) (Gb : FnOk P w K mg base CX0 3 Db.f Db.fd ["tree", "thing"] (spBox C)) (T : TxT K mg C) : FnOk P w K mg base CX0 4 f fd ["self", "box"] (spGet C (fun r => prV r.pr)) := by
  refine F.ok sc_Tree_price (fun vs H Q E h => ?_) (fun cdv A outer s H vs Q E hr h => ?_)
  · obtain ⟨t, z, rs, r, rfl, _⟩ := h
    rfl
  · obtain ⟨t, z, rs, r, rfl, ht, hz, hq⟩ := h
    have hu := hu_of hr
    obtain ⟨dx, q, f, k, p, qs, h1, h2, h3, h4, h5, h6⟩ := ht.ex
    refine ⟨_, pss_cons (ps_expr (pe_call Gb hr rfl Db.g Db.F.kp Db.b .nil pass0 (pa_cons (pv 0) (pa_cons (pv 1) pa_nil)))) (pss_one (ps_ret (pe_dget hu (pe_fld (pv 0) rfl) (pv 1) (fun _ _ => rfl)))), ?_⟩
    have hin : z ∈ names rs := List.mem_map.mpr ⟨r, List.mem_of_find?_eq_some hz, of_decide_eq_true (List.find?_some (p := fun (r : Row) => decide (r.nm = z)) (show rs.find? (fun (r : Row) => decide (r.nm = z)) = some r from hz))⟩
    refine ⟨_, rfl, _, rfl, t, z, rs, rfl, ht, hin, _, rfl, t, C, dx, _, _, rfl, h1, T.cl, T.np, tf_p _ _ _ _, _, rfl, p, _, rfl, ?_, hq⟩
    have e := DGet.k (k := Sum.inr z) h6
    rw [valV_kvF, show (rs.find? fun r => decide (r.nm = z)) = some r from hz] at e
    exact e
end
end Ts

set_option maxRecDepth 100000
set_option maxHeartbeats 4000000
namespace Ts
open PySem L2
/-! ### ways -/
def wayR : List Row → Str → List Str
  | [], _ => []
  | r :: rest, z => if r.nm = z then wayR rest r.fo ++ [z] else wayR rest z
def wayOf (rs : List Row) (z : Str) : List Str := wayR rs.reverse z
structure FitR (rest : List Row) (r : Row) : Prop where
  top : r.nm ≠ ("top" : Str)
  new : r.nm ∉ rest.map (·.nm)
  home : r.fo = ("top" : Str) ∨ r.fo ∈ rest.map (·.nm)
def ValidR : List Row → Prop
  | [] => True
  | r :: rest => FitR rest r ∧ ValidR rest
theorem Valid.init {rs : List Row} {r : Row} (h : Valid (rs ++ [r])) : Valid rs := fun i q hq => by
  have hi : i < rs.length := (List.getElem?_eq_some_iff.mp hq).1
  have f := h i q (by rw [List.getElem?_append_left hi]; exact hq)
  rw [List.take_append_of_le_length (Nat.le_of_lt hi)] at f
  exact f
theorem Valid.last {rs : List Row} {r : Row} (h : Valid (rs ++ [r])) : Fits rs r := by
  have f := h rs.length r (by simp)
  rw [List.take_append_of_le_length (Nat.le_refl _), List.take_length] at f
  exact f
theorem validR : ∀ l : List Row, Valid l.reverse → ValidR l
  | [], _ => trivial
  | r :: l, h => by
    rw [List.reverse_cons] at h
    have f := h.last
    refine ⟨⟨f.top, by simpa using f.new, ?_⟩, validR l h.init⟩
    rcases f.home with e | ⟨q, hq, e, _⟩
    · exact .inl e
    · exact .inr (List.mem_map.mpr ⟨q, List.mem_reverse.mp hq, e⟩)
theorem wayR_mem : ∀ {l : List Row} {z x : Str}, x ∈ wayR l z → x ∈ l.map (·.nm)
  | [], _, _, h => by cases h
  | r :: l, z, x, h => by
    unfold wayR at h
    by_cases e : r.nm = z
    · rw [if_pos e] at h
      rcases List.mem_append.mp h with h | h
      · exact List.mem_cons_of_mem _ (wayR_mem h)
      · rw [List.mem_singleton.mp h, ← e]; exact List.mem_cons_self ..
    · rw [if_neg e] at h
      exact List.mem_cons_of_mem _ (wayR_mem h)
theorem wayR_out : ∀ {l : List Row} {z : Str}, z ∉ l.map (·.nm) → wayR l z = []
  | [], _, _ => rfl
  | r :: l, z, h => by
    unfold wayR
    rw [if_neg fun e => h (List.mem_map.mpr ⟨r, List.mem_cons_self .., e⟩)]
    exact wayR_out fun q => h (List.mem_cons_of_mem _ q)
theorem ValidR.home : ∀ {l : List Row} {r : Row}, ValidR l → r ∈ l → r.fo = ("top" : Str) ∨ r.fo ∈ l.map (·.nm)
  | q :: l, r, h, hr => by
    rcases List.mem_cons.mp hr with e | hr
    · subst e; exact h.1.home.imp id (List.mem_cons_of_mem _)
    · exact (h.2.home hr).imp id (List.mem_cons_of_mem _)
theorem ValidR.top : ∀ {l : List Row}, ValidR l → ("top" : Str) ∉ l.map (·.nm)
  | [], _, h => by cases h
  | r :: l, h, hm => by
    rcases List.mem_cons.mp hm with e | hm
    · exact h.1.top e.symm
    · exact h.2.top hm
theorem wayR_step : ∀ {l : List Row} {r : Row}, ValidR l → r ∈ l → wayR l r.nm = wayR l r.fo ++ [r.nm]
  | q :: l, r, h, hr => by
    rcases List.mem_cons.mp hr with e | hr'
    · subst e
      have ne : ¬ r.nm = r.fo := fun e => by
        rcases h.1.home with e2 | e2
        · exact h.1.top (e.trans e2)
        · exact h.1.new (e ▸ e2)
      show (if r.nm = r.nm then wayR l r.fo ++ [r.nm] else wayR l r.nm) = (if r.nm = r.fo then wayR l r.fo ++ [r.fo] else wayR l r.fo) ++ [r.nm]
      rw [if_pos rfl, if_neg ne]
    · have n1 : ¬ q.nm = r.nm := fun e => h.1.new (List.mem_map.mpr ⟨r, hr', e.symm⟩)
      have n2 : ¬ q.nm = r.fo := fun e => by
        rcases h.2.home hr' with e2 | e2
        · exact h.1.top (e.trans e2)
        · exact h.1.new (e ▸ e2)
      show (if q.nm = r.nm then wayR l q.fo ++ [r.nm] else wayR l r.nm) = (if q.nm = r.fo then wayR l q.fo ++ [r.fo] else wayR l r.fo) ++ [r.nm]
      rw [if_neg n1, if_neg n2]
      exact wayR_step h.2 hr'
theorem Valid.r {rs : List Row} (h : Valid rs) : ValidR rs.reverse := validR rs.reverse (by rw [List.reverse_reverse]; exact h)
theorem way_step {rs : List Row} (h : Valid rs) {r : Row} (hr : r ∈ rs) : wayOf rs r.nm = wayOf rs r.fo ++ [r.nm] := wayR_step h.r (List.mem_reverse.mpr hr)
theorem way_out {rs : List Row} {z : Str} (h : z ∉ names rs) : wayOf rs z = [] := wayR_out (by rw [List.map_reverse]; exact fun q => h (List.mem_reverse.mp q))
theorem top_not {rs : List Row} (h : Valid rs) : ("top" : Str) ∉ names rs := fun q => h.r.top (by rw [List.map_reverse]; exact List.mem_reverse.mpr q)
theorem way_top {rs : List Row} (h : Valid rs) : wayOf rs ("top" : Str) = [] := way_out (top_not h)
theorem way_mem {rs : List Row} {z x : Str} (h : x ∈ wayOf rs z) : x ∈ names rs := by
  have q := wayR_mem h
  rw [List.map_reverse] at q
  exact List.mem_reverse.mp q
theorem way_self {rs : List Row} (h : Valid rs) {z : Str} (hz : z ∈ names rs) : z ∈ wayOf rs z := by
  obtain ⟨r, hr, rfl⟩ := List.mem_map.mp hz
  rw [way_step h hr]
  simp
theorem Valid.fo {rs : List Row} (h : Valid rs) {i : Nat} {r : Row} (hr : rs[i]? = some r) : r.fo = ("top" : Str) ∨ r.fo ∈ names (rs.take i) := by
  rcases (h i r hr).home with e | ⟨q, hq, e, _⟩
  · exact .inl e
  · exact .inr (List.mem_map.mpr ⟨q, hq, e⟩)
theorem names_take {rs : List Row} {i : Nat} {z : Str} (h : z ∈ names (rs.take i)) : z ∈ names rs := by
  obtain ⟨r, hr, rfl⟩ := List.mem_map.mp h
  exact List.mem_map.mpr ⟨r, List.mem_of_mem_take hr, rfl⟩
theorem names_at {rs : List Row} {i : Nat} {z : Str} (h : z ∈ names (rs.take i)) : ∃ j r, j < i ∧ rs[j]? = some r ∧ r.nm = z := by
  obtain ⟨r, hr, rfl⟩ := List.mem_map.mp h
  obtain ⟨j, hj, e⟩ := List.mem_iff_getElem.mp hr
  rw [List.length_take] at hj
  refine ⟨j, r, by omega, ?_, rfl⟩
  rw [← e, List.getElem_take]
  exact List.getElem?_eq_getElem _
theorem way_pre {rs : List Row} (h : Valid rs) : ∀ (i : Nat) {z x : Str}, z ∈ names (rs.take i) → x ∈ wayOf rs z → x ∈ names (rs.take i) := by
  intro i
  induction i using Nat.strongRecOn with
  | _ i ih =>
    intro z x hz hx
    obtain ⟨j, r, hj, hr, rfl⟩ := names_at hz
    rw [way_step h (List.mem_of_getElem? hr)] at hx
    rcases List.mem_append.mp hx with hx | hx
    · rcases h.fo hr with e | e
      · rw [e, way_top h] at hx; cases hx
      · have q := ih j hj e hx
        obtain ⟨j2, r2, hj2, hr2, rfl⟩ := names_at q
        exact List.mem_map.mpr ⟨r2, List.mem_take_iff_getElem.mpr ⟨j2, by have := (List.getElem?_eq_some_iff.mp hr2).1; omega, (List.getElem?_eq_some_iff.mp hr2).2⟩, rfl⟩
    · rw [List.mem_singleton.mp hx]; exact hz
/-- what lies within z -/
def isIn (rs : List Row) (z : Str) (r : Row) : Bool := decide (r.nm ≠ z) && (decide (z = ("top" : Str)) || decide (z ∈ wayOf rs r.nm))
def belowL (rs : List Row) (z : Str) : List Str := (rs.filter (isIn rs z)).map (·.nm)
def insideL (rs : List Row) (z : Str) : List Str := (rs.filter fun r => decide (r.fo = z)).map (·.nm)
theorem below_in {rs : List Row} (h : Valid rs) {z : Str} (hz : z = ("top" : Str) ∨ z ∈ names rs) {i : Nat} {r : Row} (hr : rs[i]? = some r) :
    decide (r.fo ∈ z :: ((rs.take i).filter (isIn rs z)).map (·.nm)) = isIn rs z r := by
  have hrm := List.mem_of_getElem? hr
  have hfo := h.fo hr
  have f := h i r hr
  have mem : ∀ x : Str, x ∈ ((rs.take i).filter (isIn rs z)).map (·.nm) ↔ (x ∈ names (rs.take i) ∧ x ≠ z ∧ (z = ("top" : Str) ∨ z ∈ wayOf rs x)) := by
    intro x
    constructor
    · intro hx
      obtain ⟨q, hq, rfl⟩ := List.mem_map.mp hx
      obtain ⟨h1, h2⟩ := List.mem_filter.mp hq
      unfold isIn at h2
      simp at h2
      exact ⟨List.mem_map.mpr ⟨q, h1, rfl⟩, h2.1, h2.2⟩
    · rintro ⟨hx, h1, h2⟩
      obtain ⟨q, hq, rfl⟩ := List.mem_map.mp hx
      refine List.mem_map.mpr ⟨q, List.mem_filter.mpr ⟨hq, ?_⟩, rfl⟩
      unfold isIn
      simp
      exact ⟨h1, h2⟩
  by_cases e : r.nm = z
  · have e1 : isIn rs z r = false := by unfold isIn; simp [e]
    rw [e1]
    refine decide_eq_false fun hm => ?_
    rcases List.mem_cons.mp hm with q | q
    · rcases hfo with e2 | e2
      · exact f.top (e.trans (q.symm.trans e2))
      · rw [q, ← e] at e2; exact f.new e2
    · obtain ⟨q1, q2, q3⟩ := (mem _).mp q
      rcases q3 with q3 | q3
      · exact f.top (e.trans q3)
      · have := way_pre h i q1 q3
        rw [← e] at this
        exact f.new this
  · have e1 : isIn rs z r = (decide (z = ("top" : Str)) || decide (z ∈ wayOf rs r.nm)) := by unfold isIn; simp [e]
    rw [e1]
    have w : z ∈ wayOf rs r.nm ↔ z ∈ wayOf rs r.fo := by
      rw [way_step h hrm, List.mem_append, List.mem_singleton]
      exact ⟨fun q => q.resolve_right fun q => e q.symm, .inl⟩
    by_cases ht : z = ("top" : Str)
    · rw [decide_eq_true ht, Bool.true_or]
      refine decide_eq_true ?_
      rcases hfo with e2 | e2
      · rw [e2, ht]; exact List.mem_cons_self ..
      · refine List.mem_cons_of_mem _ ((mem _).mpr ⟨e2, fun q => ?_, .inl ht⟩)
        rw [q, ht] at e2
        exact top_not h (names_take e2)
    · rw [decide_eq_false ht, Bool.false_or]
      refine decide_eq_decide.mpr ?_
      rw [w]
      constructor
      · intro hm
        rcases List.mem_cons.mp hm with q | q
        · rw [q]; exact way_self h (hz.resolve_left ht)
        · exact ((mem _).mp q).2.2.resolve_left ht
      · intro hm
        by_cases q : r.fo = z
        · rw [q]; exact List.mem_cons_self ..
        · rcases hfo with e2 | e2
          · rw [e2, way_top h] at hm; cases hm
          · exact List.mem_cons_of_mem _ ((mem _).mpr ⟨e2, q, .inr hm⟩)
end Ts

set_option maxRecDepth 100000
set_option maxHeartbeats 4000000
namespace Ts
open PySem L2
def kvB (l : List Str) : List (Key × V) := l.map fun x => (.inr x, .bl true)
theorem valV_kvB (z : Str) : ∀ l : List Str, (valV (kvB l) (.inr z : Key)).isSome = decide (z ∈ l)
  | [] => by simp [kvB, valV]
  | x :: l => by
    have ih := valV_kvB z l
    show (valV ((.inr x, V.bl true) :: kvB l) (.inr z : Key)).isSome = _
    by_cases e : x = z
    · rw [valV_pos (by rw [e])]
      subst e
      simp
    · rw [valV_neg (fun q => e (Sum.inr.inj q)), ih]
      have e' : ¬ z = x := fun q => e q.symm
      simp [e']
theorem kvB_put {l : List Str} {x : Str} (h : x ∉ l) : putK (kvB l) (.inr x) (.bl true) = kvB (l ++ [x]) := by
  rw [putK_new]
  · unfold kvB; rw [List.map_append]; rfl
  · have q := valV_kvB x l
    rw [decide_eq_false h] at q
    simpa using q
def spListOf (C : Addr) (g : List Row → Str → List Str) : Sp := fun vs H Q _ => ∃ (t : Addr) (z : Str) (rs : List Row), vs = [.ref t, .str z] ∧ TreeAt C H t rs ∧ (z = ("top" : Str) ∨ z ∈ names rs) ∧
  ∀ D H', H D = none → Same H H' → H' D = some (.lst ((g rs z).map V.str)) → Q (.ref D) H'
theorem filter_take {rs : List Row} {i : Nat} {r : Row} (h : rs[i]? = some r) (p : Row → Bool) : ((rs.take (i + 1)).filter p).map (·.nm) = ((rs.take i).filter p).map (·.nm) ++ (if p r = true then [r.nm] else []) := by
  rw [take_more h, List.filter_append, List.map_append]
  by_cases e : p r = true
  · rw [if_pos e, List.filter_cons_of_pos e]; rfl
  · rw [if_neg e, List.filter_cons_of_neg e]; rfl
theorem kvF_at {g : Row → V} {rs : List Row} {i : Nat} {k : Key} {v : V} (h : (kvF g rs)[i]? = some (k, v)) : ∃ r, rs[i]? = some r ∧ k = .inr r.nm ∧ v = g r := by
  unfold kvF at h
  rw [List.getElem?_map] at h
  obtain ⟨r, e, q⟩ := Option.map_eq_some_iff.mp h
  injection q with q1 q2
  exact ⟨r, e, q1.symm, q2.symm⟩
theorem rowOf_at {rs : List Row} (h : Valid rs) {i : Nat} {r : Row} (hr : rs[i]? = some r) : rowOf rs r.nm = some r := by
  unfold rowOf
  rw [List.find?_eq_some_iff_getElem]
  have hi := (List.getElem?_eq_some_iff.mp hr).1
  refine ⟨decide_eq_true rfl, i, hi, (List.getElem?_eq_some_iff.mp hr).2, fun j hj => ?_⟩
  simp only [Bool.not_eq_true', decide_eq_false_iff_not]
  intro e
  exact (h i r hr).new (List.mem_map.mpr ⟨rs[j], List.mem_take_iff_getElem.mpr ⟨j, by omega, rfl⟩, e⟩)
theorem cutV_tail (x : V) (xs : List V) : cutV (x :: xs) (some 1) none = xs := by
  unfold cutV
  rw [HT.sIx_none, show HT.sIx (x :: xs).length 0 (some 1) = 1 from by rw [show (some 1 : Option Int) = some ((1 : Nat) : Int) from rfl, HT.sIx_nat, List.length_cons]; omega]
  show (xs.take ((x :: xs).length - 1)) = xs
  rw [List.length_cons, Nat.add_sub_cancel, List.take_length]
end Ts

set_option maxRecDepth 100000
set_option maxHeartbeats 4000000
namespace Ts
open PySem L2
/-- a list of rows, all tuples -/
structure RowsL (H : Hp) (p : Addr) (rs : List Row) : Prop where
  ex : ∃ as : List Addr, H p = some (.lst (as.map V.ref)) ∧ RowsAt H as rs
theorem RowsL.same {H H' : Hp} {p : Addr} {rs : List Row} (h : RowsL H p rs) (s : Same H H') : RowsL H' p rs := by
  obtain ⟨as, h1, h2⟩ := h.ex
  exact ⟨as, s _ _ h1, h2.same s⟩
def spWay : Sp := fun vs H Q _ => ∃ (p : Addr) (z : Str) (rs : List Row), vs = [.ref p, .str z] ∧ RowsL H p rs ∧ Valid rs ∧ rs.length ≤ 100 ∧ (z = ("top" : Str) ∨ z ∈ names rs) ∧
  ∀ D H', H D = none → Same H H' → H' D = some (.lst ((wayOf rs z).map V.str)) → Q (.ref D) H'
theorem atI0 (a b c d : V) : atI [a, b, c, d] 0 = some a := rfl
theorem atI1 (a b c d : V) : atI [a, b, c, d] 1 = some b := rfl
theorem atI2 (a b c d : V) : atI [a, b, c, d] 2 = some c := rfl
theorem atI3 (a b c d : V) : atI [a, b, c, d] 3 = some d := rfl
theorem merge_kvF (g : Row → V) {rs : List Row} (h : Valid rs) : ∀ n, n ≤ rs.length → mergeK [] (kvF g (rs.take n)) = kvF g (rs.take n) := by
  intro n
  induction n with
  | zero => intro _; rfl
  | succ n ih =>
    intro hn
    have hr : rs[n]? = some rs[n] := List.getElem?_eq_getElem (by omega)
    have e : kvF g (rs.take (n + 1)) = kvF g (rs.take n) ++ [(.inr rs[n].nm, g rs[n])] := by
      rw [take_more hr]; unfold kvF; rw [List.map_append]; rfl
    rw [e]
    unfold mergeK
    rw [List.foldl_append]
    have ih' := ih (by omega)
    unfold mergeK at ih'
    rw [ih']
    show putK (kvF g (rs.take n)) (.inr rs[n].nm) (g rs[n]) = _
    rw [kvF_more hr (h n _ hr).new, e]
theorem merge_all (g : Row → V) {rs : List Row} (h : Valid rs) : mergeK [] (kvF g rs) = kvF g rs := by
  have := merge_kvF g h rs.length (Nat.le_refl _)
  rw [List.take_length] at this
  exact this
def muWay (rs : List Row) : List (Option V) → Hp → Nat
  | _ :: some (.str z) :: _, _ => (wayOf rs z).length
  | _, _ => 0
theorem way_len {rs : List Row} {z : Str} : (wayOf rs z).length ≤ rs.length := by
  have : ∀ (l : List Row) (z : Str), (wayR l z).length ≤ l.length := by
    intro l
    induction l with
    | nil => intro z; exact Nat.le_refl _
    | cons r l ih =>
      intro z
      unfold wayR
      split
      · rw [List.length_append, List.length_singleton, List.length_cons]; have := ih r.fo; omega
      · rw [List.length_cons]; have := ih z; omega
  have q := this rs.reverse z
  rw [List.length_reverse] at q
  exact q
theorem Valid.foAll {rs : List Row} (h : Valid rs) {r : Row} (hr : r ∈ rs) : r.fo = ("top" : Str) ∨ r.fo ∈ names rs := by
  obtain ⟨i, hi, e⟩ := List.mem_iff_getElem.mp hr
  have := h.fo (i := i) (r := r) (by rw [← e]; exact List.getElem?_eq_getElem hi)
  exact this.imp id names_take
end Ts

set_option maxRecDepth 100000
set_option maxHeartbeats 4000000
namespace L2
open PySem PySem.Spec PyProof.Rows
/-! ### == of any thing and a text; != of lists of lists of one and the same thing; list.count of texts -/
theorem dict_eq_no_str (l : Addr) (o : Obj) (b : Str) (u : Tok) :
    Meets (Builtin.«dict.__eq__» ⟨[.ref l, .str b u], []⟩) (fun _ R s => s.heap.get? l = some o ∧ o.cls = .type "dict" ∧ R (.ok (.ret .notImplemented)) s) :=
  .of_wp fun prog w A R s h => by
    obtain ⟨hp, g, d, tk, os⟩ := s
    obtain ⟨hl, hc, h⟩ := h
    have f1 := F.sub_str_dict
    wp_walk
    exact ⟨_, rfl, h⟩
theorem str_eq_no_dict (b : Str) (u : Tok) (l : Addr) (c : Value) (es : Array DictEntry) (ep : Nat) (dd : Option Addr) (sl : Array (Option Value)) :
    Meets (Builtin.«str.__eq__» ⟨[.str b u, .ref l], []⟩) (fun _ R s => s.heap.get? l = some { cls := c, dict := dd, data := .dict es ep, slots := sl } ∧ R (.ok (.ret .notImplemented)) s) :=
  .of_wp fun prog w A R s h => by
    obtain ⟨hp, g, d, tk, os⟩ := s
    obtain ⟨hl, h⟩ := h
    wp_walk using wpAny_load hl
    exact ⟨_, rfl, h⟩
theorem rc_dict_str {A : Around} {s : Shared} {l : Addr} {es : Array DictEntry} {ep : Nat} {dd : Option Addr} {sl : Array (Option Value)} (b : Str) (u : Tok) (ho : s.heap.get? l = some { cls := .type "dict", dict := dd, data := .dict es ep, slots := sl }) (hu : A.units < cLine) : SeqAt.RcAt A s (.ref l) (.str b u) false := fun prog w E Q h =>
  SeqAt.rc_eq_decline_or (k := false) ⟨_, ho, rfl⟩ (typeIs_str s b u) (by decide) F.sub_str_dict F.slot_dict_eq F.slot_str_eq_refl
    (fun _ hq => call_meets F.slot_dict_eq ⟨_, ho, rfl⟩ F.entry_dict_eq (F.args_dict_eq_2 _ _) (dict_eq_no_str l _ b u) ⟨ho, rfl, hq⟩)
    (fun _ hq => call_meets F.slot_str_eq_refl (typeIs_str s b u) F.entry_str_eq (F.args_str_eq_2 _ _) (str_eq_no_dict b u l (.type "dict") es ep dd sl) ⟨ho, hq⟩)
    (fun _ hq => wpAny_of_eq (rfl : isSame (.ref l) (.str b u) = pure false) hq) (.inr hu) h
/-- a thing that is no text -/
def OddV (K : PySem.W.Frag) (H : Hp) (x : V) : Prop := x = .non ∨ (∃ i, x = .int i) ∨ (∃ b, x = .bl b) ∨ (∃ a xs, x = .ref a ∧ SqL K H a xs) ∨ (∃ a xs, x = .ref a ∧ SqT K H a xs) ∨ ∃ a kvs, x = .ref a ∧ H a = some (.dK kvs)
section
variable {X : Cx}
/-- == of any thing and a text -/
def rEqOdd (K : PySem.W.Frag) : R2 := fun x y H Q => ∃ z, y = .str z ∧ ((∃ z', x = .str z' ∧ Q (.bl (decide (z' = z))) H) ∨ (OddV K H x ∧ Q (.bl false) H))
theorem op_eqOdd (hu : X.A.units < cLine) : OpR X (compareOp .Eq) (rEqOdd X.K) := by
  intro pins s σ H x y v u Q I rx ry h
  obtain ⟨z, rfl, h⟩ := h
  obtain ⟨t2, rfl⟩ := ry
  rcases h with ⟨z', rfl, q⟩ | ⟨rfl | ⟨i, rfl⟩ | ⟨b, rfl⟩ | ⟨a, xs, rfl, ha⟩ | ⟨a, xs, rfl, ha⟩ | ⟨a, kvs, rfl, ha⟩, q⟩
  · obtain ⟨t, rfl⟩ := rx
    refine SeqAt.RcAt.str_str z' t z t2 _ _ _ _ ⟨.bl _, H, I, ?_, q⟩
    show Value.bool (z' == z) = Value.bool (decide (z' = z))
    rw [Bool.eq_iff_iff.mpr (show (z' == z) = true ↔ decide (z' = z) = true by simp)]
  · cases rx
    exact SeqAt.RcAt.none_str z t2 _ _ _ _ ⟨.bl false, H, I, rfl, q⟩
  · obtain ⟨t, rfl⟩ := rx
    exact SeqAt.RcAt.int_str i t z t2 _ _ _ _ ⟨.bl false, H, I, rfl, q⟩
  · cases rx
    exact SeqAt.RcAt.bool_str b z t2 _ _ _ _ ⟨.bl false, H, I, rfl, q⟩
  · cases rx
    obtain ⟨its, r1, p1, _⟩ := I.list ha
    exact SeqAt.RcAt.list_str z t2 p1.isList hu _ _ _ _ ⟨.bl false, H, I, rfl, q⟩
  · cases rx
    obtain ⟨its, r1, p1, _⟩ := I.tuple ha
    exact SeqAt.RcAt.tuple_str z t2 p1 hu _ _ _ _ ⟨.bl false, H, I, rfl, q⟩
  · cases rx
    obtain ⟨_, _, vs, _, dd⟩ := (show ObjOk X.prog X.w H s.heap a (.dK kvs) from I.hok a _ ha)
    obtain ⟨⟨cls, dd, data, sl⟩, es, ep, ho, hx, hd, _⟩ := dd
    obtain ⟨h1, h2⟩ := hx
    simp only at h1 hd
    subst h1 hd
    exact rc_dict_str z t2 ho hu _ _ _ _ ⟨.bl false, H, I, rfl, q⟩
/-- != of lists of lists of one and the same thing each -/
def rNeLL (K : PySem.W.Frag) : R2 := fun x y H Q => ∃ (a b : Addr) (as bs : List Addr) (u : V), x = .ref a ∧ y = .ref b ∧ SqL K H a (as.map V.ref) ∧ SqL K H b (bs.map V.ref) ∧ as.length = bs.length ∧ (∀ p ∈ as, SqL K H p [u]) ∧ (∀ p ∈ bs, SqL K H p [u]) ∧ (flatB u = true ∨ ∃ c, u = .ref c) ∧ Q (.bl false) H
theorem op_neLL (hu : X.A.units + 64 < cLine) : OpR X (compareOp .NotEq) (rNeLL X.K) := by
  intro pins s σ H x y v w Q I rx ry h
  obtain ⟨a, b, as, bs, u, rfl, rfl, ha, hb, hl, hA, hB, hu2, q⟩ := h
  cases (show v = Value.ref a from rx)
  cases (show w = Value.ref b from ry)
  obtain ⟨us, r1, p1, _⟩ := I.list ha
  obtain ⟨ws, r2, p2, _⟩ := I.list hb
  have e1 : us.length = as.length := by have := r1.length; rw [List.length_map] at this; exact this.symm
  have e2 : ws.length = bs.length := by have := r2.length; rw [List.length_map] at this; exact this.symm
  have at_ : ∀ {cs : List Addr} {zs : List Value}, Vals (cs.map V.ref) zs → ∀ (j : Nat) (h : j < zs.length), ∃ c ∈ cs, zs[j] = Value.ref c := fun {cs zs} r j h => by
    have e : zs.length = cs.length := by have := r.length; rw [List.length_map] at this; exact this.symm
    obtain ⟨z, hz, rz⟩ := Vals.get (i := j) (x := V.ref (cs[j]'(by omega))) r (by rw [List.getElem?_map, List.getElem?_eq_getElem (by omega)]; rfl)
    rw [List.getElem?_eq_getElem h] at hz
    cases hz
    exact ⟨_, List.getElem_mem _, rz⟩
  have one : ∀ {p : Addr}, SqL X.K H p [u] → ∃ z : Value, RelV u z ∧ s.heap.IsList p #[z] := fun {p} h => by
    obtain ⟨zs, r, pl, _⟩ := I.list h
    cases r with
    | cons r1 r2 => cases r2; exact ⟨_, r1, pl.isList⟩
  refine SeqAt.RcNeAt.lists p1.isList p2.isList (by rw [List.size_toArray, List.size_toArray, e1, e2, hl]) (by omega) (e := fun _ => true) (fun j h1 h2 => ?_) _ _ _ _ ?_
  · obtain ⟨c, hc, ec⟩ := at_ r1 j (by simpa using h1)
    obtain ⟨d, hd, ed⟩ := at_ r2 j (by simpa using h2)
    have ec' : us.toArray[j] = Value.ref c := by simpa using ec
    have ed' : ws.toArray[j] = Value.ref d := by simpa using ed
    rw [ec', ed']
    by_cases e : c = d
    · rw [e]; exact SeqAt.EqAt.same _
    · obtain ⟨z1, k1, l1⟩ := one (hA c hc)
      obtain ⟨z2, k2, l2⟩ := one (hB d hd)
      refine SeqAt.EqAt.of_refs e ?_
      have := SeqAt.RcAt.lists (A := X.A.in1) (e := fun _ => true) l1 l2 rfl (by show X.A.units + 1 < cLine; omega) (fun i h3 h4 => by
        have i0 : i = 0 := by
          have : (#[z1] : Array Value).size = 1 := rfl
          omega
        subst i0
        show SeqAt.EqAt _ s z1 z2 true
        rcases hu2 with f | ⟨c', rfl⟩
        · exact eqAt_same k1 k2 f
        · cases (show z1 = Value.ref c' from k1)
          cases (show z2 = Value.ref c' from k2)
          exact SeqAt.EqAt.same _)
      exact this
  · rw [show ((List.range us.toArray.size).all fun _ => true) = true from List.all_eq_true.mpr fun _ _ => rfl]
    exact ⟨.bl false, H, I, rfl, q⟩
end
section
variable {X : Cx}
def eqs (k : Str) : Value → Bool
  | .str z _ => z == k
  | _ => false
theorem strs_ofV : ∀ {ns : List Str} {us : List Value}, Vals (ns.map V.str) us → ∀ u ∈ us, ∃ z t, u = .str z t
  | [], _, h, u, hu => by cases h; cases hu
  | n :: ns, _, h, u, hu => by
    cases h with
    | cons r1 r2 =>
      obtain ⟨t, rfl⟩ := r1
      rcases List.mem_cons.mp hu with rfl | hu
      · exact ⟨n, t, rfl⟩
      · exact strs_ofV r2 u hu
theorem eqs_count (k : Str) : ∀ {ns : List Str} {us : List Value}, Vals (ns.map V.str) us → us.countP (eqs k) = ns.count k
  | [], _, h => by cases h; rfl
  | n :: ns, _, h => by
    cases h with
    | cons r1 r2 =>
      obtain ⟨t, rfl⟩ := r1
      rw [List.countP_cons, List.count_cons, eqs_count k r2]
      rfl
def rCntS (K : PySem.W.Frag) : V → List V → Hp → VK → Prop := fun x xs H Q => ∃ (p : Addr) (ns : List Str) (k : Str), x = .ref p ∧ xs = [.str k] ∧ SqL K H p (ns.map V.str) ∧ Q (.int (ns.count k : Nat)) H
theorem mt_scount : MtR X "list.count" (rCntS X.K) := by
  intro pins s σ H x xs v us Q I rx rxs h
  obtain ⟨p, ns, k, rfl, rfl, hs, q⟩ := h
  cases rx
  obtain ⟨u, rfl, ru⟩ := rxs.one
  obtain ⟨t, rfl⟩ := ru
  obtain ⟨its, rv, ⟨⟨cls, dd, data, sl⟩, n, ho, hc, hdn, hd⟩, hlen⟩ := I.list hs
  simp only at hc hd
  subst hc hd
  refine call_meets PySem.F.slot_list_count ⟨_, ho, rfl⟩ PySem.F.entry_list_count (PySem.F.args_list_count_2 _ _)
    (SeqAt.list_countAt p its.toArray n dd sl (.str k t) (eqs k)) ⟨ho, fun y hy => ?_, ?_⟩
  · obtain ⟨z, t', rfl⟩ := strs_ofV rv y (by simpa using hy)
    exact SeqAt.EqAt.str_str z t' k t
  have ec : its.toArray.toList.countP (eqs k) = ns.count k := eqs_count k rv
  refine ⟨.int (ns.count k : Nat), H, I.tok _, ⟨s.toks, ?_⟩, q⟩
  show Value.int ((its.toArray.toList.countP (eqs k) : Nat) : Int) s.toks = Value.int ((ns.count k : Nat) : Int) s.toks
  rw [ec]
end
end L2

set_option maxRecDepth 100000
set_option maxHeartbeats 4000000
namespace Ts
open PySem L2
/-! ### an own error class with one field, as it stands -/
structure ErrT (K : PySem.W.Frag) (mg : Str → Option Value) (E : Addr) (nm fn : Str) : Prop where
  O : OexC K E
  X : XfC K E
  nb : PySem.W.findIn K (.ref E) fn = some none
  g : mg nm = some (.ref E)
  te : PySem.W.exmOne K (.ref E) (.ref E) = some true
theorem exm_self {K : PySem.W.Frag} {S : Addr} (h1 : PySem.W.subIn K (.ref S) (.type "BaseException") = some true) (h2 : PySem.W.isClsIn K S = true) (h3 : PySem.W.typeIn K (.ref S) = some (.type "type")) (h4 : PySem.W.subIn K (.ref S) (.ref S) = some true) :
    PySem.W.exmOne K (.ref S) (.ref S) = some true := by
  have e1 : (PySem.W.subIn K (.ref S) (.type "BaseException") == some true) = true := by rw [h1] <;> rfl
  have e2 : ((PySem.W.clsIn K S).isSome && PySem.W.typeIn K (.ref S) == some (.type "type")) = true := by
    have h2' : (PySem.W.clsIn K S).isSome = true := h2
    rw [h2', h3] <;> rfl
  show (if (PySem.W.subIn K (.ref S) (.type "BaseException") == some true) = true then (if ((PySem.W.clsIn K S).isSome && PySem.W.typeIn K (.ref S) == some (.type "type")) = true then PySem.W.subIn K (.ref S) (.ref S) else none) else none) = some true
  rw [if_pos e1, if_pos e2]
  exact h4
/-- an error of the class at S is not what «except D» names -/
theorem exm_other {K : PySem.W.Frag} {S D : Addr} (h1 : PySem.W.subIn K (.ref D) (.type "BaseException") = some true) (h2 : PySem.W.isClsIn K D = true) (h3 : PySem.W.typeIn K (.ref D) = some (.type "type")) (h4 : PySem.W.subIn K (.ref S) (.ref D) = some false) :
    PySem.W.exmOne K (.ref S) (.ref D) = some false := by
  have e1 : (PySem.W.subIn K (.ref D) (.type "BaseException") == some true) = true := by rw [h1] <;> rfl
  have e2 : ((PySem.W.clsIn K D).isSome && PySem.W.typeIn K (.ref D) == some (.type "type")) = true := by
    have h2' : (PySem.W.clsIn K D).isSome = true := h2
    rw [h2', h3] <;> rfl
  show (if (PySem.W.subIn K (.ref D) (.type "BaseException") == some true) = true then (if ((PySem.W.clsIn K D).isSome && PySem.W.typeIn K (.ref D) == some (.type "type")) = true then PySem.W.subIn K (.ref S) (.ref D) else none) else none) = some false
  rw [if_pos e1, if_pos e2]
  exact h4
theorem errAll {K : PySem.W.Frag} {h : Heap} {mg : Str → Option Value} (X : K.In h) (G : h.Ns mainGlobals mg) {E BE f : Addr} {cn fn iq : Str} {st : Stmt} {nm q : Str} {N : Addr} {bs : List Value} {sn : List Str} {sub : List Value} {ab : Bool} {col : Option Bool} {dd : Option Addr} {m0 m1 m2 m3 m5 : Option Value}
    {od an : Option Addr} {sl : Array (Option Value)} {oc kV dc pm cd ct : Value}
    (aC : PySem.W.nsIn K mainGlobals cn = some (some (.ref E)))
    (xL : K.lookup E = some (excClassObj nm q E N bs [.ref BE, .type "ValueError", .type "Exception", .type "BaseException", .type "object"] true sn sub ab col dd m0 m1 m2 m3 m5 "ValueError.__new__"))
    (sa : PySem.W.findIn K (.ref E) "__setattr__" = some (some (.builtin "object.__setattr__"))) (ga : PySem.W.findIn K (.ref E) "__getattribute__" = some (some (.builtin "BaseException.__getattribute__"))) (gg : PySem.W.findIn K (.ref E) "__getattr__" = some none) (nb : PySem.W.findIn K (.ref E) fn = some none)
    (a1 : PySem.W.findIn K (.ref E) "__init__" = some (some (.ref f))) (t1 : PySem.W.typeIn K (.ref f) = some (.type "function"))
    (l1 : K.lookup f = some ⟨oc, od, .func (PySem.W.fnOf "__init__" iq (defArgs st) (defBody st) (defScope st) .none kV dc pm an cd ct), sl⟩) (c1 : PySem.W.codeIn K cd iq = true) (k1 : PySem.W.keepIn K (.ref f) = true)
    (kC : PySem.W.keepIn K (.ref E) = true) (eC : PySem.W.subIn K (.ref E) (.type "BaseException") = some true) (tC : PySem.W.typeIn K (.ref E) = some (.type "type")) (hC : PySem.W.hasDictIn K E = true) (iC : PySem.W.isClsIn K E = true) (sC : PySem.W.subIn K (.ref E) (.ref E) = some true) :
    ErrT K mg E cn fn ∧ ∃ (f : Addr) (fd : FuncData), PySem.W.findIn K (.ref E) "__init__" = some (some (.ref f)) ∧ PySem.W.typeIn K (.ref f) = some (.type "function") ∧ Fun K "__init__" iq st f fd :=
  ⟨⟨⟨⟨nm, q, N, bs, _, sn, sub, ab, col, dd, m0, m1, m2, m3, m5, xL, rfl⟩, sa, eC, tC, kC⟩, ⟨ga, gg, eC, hC⟩, nb, PySem.W.mg_of X G aC, exm_self eC iC tC sC⟩, f, _, a1, t1, fun_mk l1 c1 k1⟩
end Ts

set_option maxRecDepth 100000
set_option maxHeartbeats 4000000
namespace Ts
open PySem L2
/-! ### an own error with one field that its own __init__ stores -/
def spErr1 (CC : Addr) (fn : Str) : Sp := fun vs H Q _ => ∃ (a : Addr) (x : V), vs = [.ref a, x] ∧ H a = some (exo a CC none) ∧ ∀ d, H d = none → d ≠ a → Q .non (upd (upd H d (exd d [(fn, x)])) a (exo a CC (some d)))
section
variable {CC : Addr}
/-- what stands behind a raise: the error's own dict, new -/
theorem rd_err1 {fn : Str} {H1 : Hp} {x : V} {Q : XK} (k : ∀ d, H1 d = none → Q (.ref CC) (some d) (upd H1 d (.xd [(fn, x)]))) : ([x] : List V).length ≤ 1000 ∧ ∀ a, H1 a = none → spErr1 CC fn (.ref a :: ([x] ++ [])) (upd H1 a (exo a CC none)) (fun v H2 => v = .non ∧ ∃ (d : Addr) (fs : List (Str × V)), H2 a = some (exo a CC (some d)) ∧ H2 d = some (exd d fs) ∧ H1 d = none ∧ Q (.ref CC) (some d) (upd (del H2 a) d (.xd fs))) (fun _ _ _ => False) := by
  refine ⟨(by show 1 ≤ 1000; decide), fun a ha => ⟨a, x, rfl, upd_same, fun d hd ne => ⟨rfl, d, [(fn, x)], upd_same, by rw [upd_ne ne]; exact upd_same, by rw [upd_ne ne] at hd; exact hd, ?_⟩⟩⟩
  have hd1 : H1 d = none := by rw [upd_ne ne] at hd; exact hd
  have e : upd (del (upd (upd (upd H1 a (exo a CC none)) d (exd d [(fn, x)])) a (exo a CC (some d))) a) d (.xd [(fn, x)]) = upd H1 d (.xd [(fn, x)]) := by
    funext b
    by_cases q : b = d
    · rw [q, upd_same, upd_same]
    · rw [upd_ne q, upd_ne q]
      unfold del
      by_cases r : b = a
      · rw [if_pos r, r]; exact ha.symm
      · rw [if_neg r, upd_ne r, upd_ne q, upd_ne r]
  rw [e]
  exact k d hd1
end
section
variable {P : Program} {w : World} {K : PySem.W.Frag} {mg : Str → Option Value} {base : Heap}
/-- where nothing is raised, a def that may raise is as one that may not -/
theorem calm {k : Nat} {f : Addr} {fd : FuncData} {ps : List Str} {sp sp' : Sp} (F : FnOk P w K mg base (L2.CX P w) k f fd ps sp) (h : ∀ vs H Q E, sp' vs H Q E → sp vs H Q E0) : FnOk P w K mg base CX0 k f fd ps sp' :=
  ⟨fun vs H Q E q => F.len vs H Q E0 (h _ _ _ _ q), fun A outer s H args us vs Q E hr he hb hv hs => codeAny_mono (F.run A outer s H args us vs Q E0 hr he hb hv (h _ _ _ _ hs)) fun r s' q => by
    cases r with
    | ok f => cases f <;> exact q
    | error e =>
      obtain ⟨_, _, _, _, _, _, _, _, _, _, _, _, z⟩ := q
      exact z.elim⟩
end
end Ts

set_option maxRecDepth 100000
set_option maxHeartbeats 4000000
namespace Ts
open PySem L2
section
variable {P : Program} {w : World} {K : PySem.W.Frag} {mg : Str → Option Value} {base : Heap} {CC : Addr}
theorem sc_NoBox_init : FnScope ["self", "box"] ["self", "box"] (defScope s_NoBox_init) := ⟨rfl, rfl, rfl, by decide +kernel, rfl, by decide +kernel, by decide +kernel⟩
theorem ok_NoBox_init {f : Addr} {fd : FuncData} (F : Fun K "__init__" "NoBox.__init__" s_NoBox_init f fd) (O : OexC K CC) (nb : PySem.W.findIn K (.ref CC) "box" = some none) : FnOk P w K mg base CX0 2 f fd ["self", "box"] (spErr1 CC "box") := by
  refine F.ok sc_NoBox_init (fun vs H Q E h => ?_) (fun cdv A outer s H vs Q E hr h => ?_)
  · obtain ⟨a, x, rfl, _⟩ := h
    rfl
  · obtain ⟨a, x, rfl, ha, hq⟩ := h
    refine ⟨_, pss_one (ps_ost (pv 0) (pv 1)), ?_⟩
    exact ⟨_, rfl, _, rfl, a, CC, rfl, O, nb, .inl ⟨ha, fun d hd ne => hq d hd ne⟩⟩
end
end Ts

set_option maxRecDepth 100000
set_option maxHeartbeats 4000000
namespace Ts
open PySem L2
def OddT (K : PySem.W.Frag) (H : Hp) (x : V) : Prop := OddV K H x ∧ Other K H x (.type "str")
/-- no box, no place -/
def OddN (K : PySem.W.Frag) (H : Hp) (rs : List Row) (x : V) : Prop := (∃ z : Str, x = .str z ∧ z ∉ names rs) ∨ OddT K H x
def OddP (K : PySem.W.Frag) (H : Hp) (rs : List Row) (x : V) : Prop := (∃ z : Str, x = .str z ∧ z ≠ ("top" : Str) ∧ z ∉ names rs) ∨ OddT K H x
end Ts

set_option maxRecDepth 100000
set_option maxHeartbeats 4000000
namespace L2
open PySem PySem.Spec PyProof.Rows
/-! ### whether any thing is in a list or tuple of texts -/
theorem rc_str_dict {A : Around} {s : Shared} {l : Addr} {es : Array DictEntry} {ep : Nat} {dd : Option Addr} {sl : Array (Option Value)} (b : Str) (u : Tok) (ho : s.heap.get? l = some { cls := .type "dict", dict := dd, data := .dict es ep, slots := sl }) (hu : A.units < cLine) : SeqAt.RcAt A s (.str b u) (.ref l) false := fun prog w E Q h =>
  SeqAt.rc_eq_decline_or (k := false) (typeIs_str s b u) ⟨_, ho, rfl⟩ (by decide) F.sub_dict_str F.slot_str_eq F.slot_dict_eq_refl
    (fun _ hq => call_meets F.slot_str_eq (typeIs_str s b u) F.entry_str_eq (F.args_str_eq_2 _ _) (str_eq_no_dict b u l (.type "dict") es ep dd sl) ⟨ho, hq⟩)
    (fun _ hq => call_meets F.slot_dict_eq_refl ⟨_, ho, rfl⟩ F.entry_dict_eq (F.args_dict_eq_2 _ _) (dict_eq_no_str l _ b u) ⟨ho, rfl, hq⟩)
    (fun _ hq => wpAny_of_eq (rfl : isSame (.str b u) (.ref l) = pure false) hq) (.inr hu) h
theorem eqAt_str_dict {A : Around} {s : Shared} {l : Addr} {es : Array DictEntry} {ep : Nat} {dd : Option Addr} {sl : Array (Option Value)} (b : Str) (u : Tok) (ho : s.heap.get? l = some { cls := .type "dict", dict := dd, data := .dict es ep, slots := sl }) (hu : A.units < cLine) : SeqAt.EqAt A s (.str b u) (.ref l) false := fun prog w E Q h => by
  unfold eqBool
  refine wpAny_holding (wpAny_ite_split (fun same => absurd (eq_of_beq same) nofun) fun _ => ?_)
  exact wpAny_bind (rc_str_dict b u ho hu prog w E _ (wpAny_truthy_bool h))
section
variable {X : Cx} {pins : List (Addr × Obj)} {σ : St} {H : Hp} {s : Shared}
/-- a text and a thing that is none -/
theorem odd_eqAt (I : Inv X pins σ H s) {A : Around} {x : V} {v : Value} (h : OddV X.K H x) (r : RelV x v) (z : Str) (t : Tok) (hu : A.units < cLine) : SeqAt.EqAt A s (.str z t) v false := by
  rcases h with rfl | ⟨i, rfl⟩ | ⟨b, rfl⟩ | ⟨a, xs, rfl, ha⟩ | ⟨a, xs, rfl, ha⟩ | ⟨a, kvs, rfl, ha⟩
  · cases r
    exact SeqAt.EqAt.str_none z t
  · obtain ⟨t2, rfl⟩ := r
    exact SeqAt.EqAt.str_int z t i t2
  · cases r
    exact SeqAt.EqAt.str_bool z t b
  · cases r
    obtain ⟨its, _, p, _⟩ := I.list ha
    exact SeqAt.EqAt.str_list z t p.isList hu
  · cases r
    obtain ⟨its, _, p, _⟩ := I.tuple ha
    exact SeqAt.EqAt.str_tuple z t p hu
  · cases r
    obtain ⟨_, _, vs, _, dd⟩ := (show ObjOk X.prog X.w H s.heap a (.dK kvs) from I.hok a _ ha)
    obtain ⟨⟨cls, dd, data, sl⟩, es, ep, ho, hx, hd, _⟩ := dd
    obtain ⟨h1, h2⟩ := hx
    simp only at h1 hd
    subst h1 hd
    exact eqAt_str_dict z t ho hu
def eqStr (z : Str) : Value → Bool
  | .str y _ => y == z
  | _ => false
theorem any_eqStr (z : Str) : ∀ {ns : List Str} {us : List Value}, Vals (ns.map V.str) us → us.any (eqStr z) = decide (z ∈ ns)
  | [], _, h => by cases h; rfl
  | n :: ns, _, h => by
    cases h with
    | cons r1 r2 =>
      obtain ⟨t, rfl⟩ := r1
      rw [List.any_cons, any_eqStr z r2]
      show (n == z || decide (z ∈ ns)) = decide (z ∈ n :: ns)
      by_cases e : n = z
      · rw [decide_eq_true (show z ∈ n :: ns from by rw [e]; exact List.mem_cons_self ..), show (n == z) = true from beq_iff_eq.mpr e, Bool.true_or]
      · rw [show (n == z) = false from beq_eq_false_iff_ne.mpr e, Bool.false_or]
        exact decide_eq_decide.mpr ⟨fun h => List.mem_cons_of_mem _ h, fun h => (List.mem_cons.mp h).resolve_left fun q => e q.symm⟩
/-- x in ts, x not in ts -/
def rInOdd (K : PySem.W.Frag) (neg : Bool) : R2 := fun x y H Q => ∃ (p : Addr) (ns : List Str), y = .ref p ∧ (SqL K H p (ns.map V.str) ∨ SqT K H p (ns.map V.str)) ∧ ((∃ z, x = .str z ∧ Q (.bl (neg != decide (z ∈ ns))) H) ∨ (OddV K H x ∧ Q (.bl neg) H))
end
section
variable {X : Cx}
theorem op_inOdd (hu : X.A.units + 1 < cLine) : OpR X (compareOp .In) (rInOdd X.K false) := by
  intro pins s σ H x y v u Q I rx ry h
  obtain ⟨p, ns, rfl, hq, h⟩ := h
  cases ry
  have hu1 : X.A.in1.units < cLine := hu
  rcases h with ⟨z, rfl, q⟩ | ⟨hx, q⟩
  · obtain ⟨t, rfl⟩ := rx
    have q' : Q (.bl (decide (z ∈ ns))) H := by rw [Bool.false_bne] at q; exact q
    rcases hq with hq | hq
    · obtain ⟨its, r, pl, hz⟩ := I.list hq
      refine SeqAt.in_listAt (eqStr z) pl.isList (fun w hw => ?_) ⟨.bl _, H, I, rfl, ?_⟩
      · obtain ⟨z', t', rfl⟩ := strs_ofV r w (by simpa using hw)
        exact SeqAt.EqAt.str_str z' t' z t
      · rw [show its.toArray.any (eqStr z) = its.any (eqStr z) by simp, any_eqStr z r]; exact q'
    · obtain ⟨its, r, pl, hz⟩ := I.tuple hq
      refine SeqAt.in_tupleAt (eqStr z) pl (fun w hw => ?_) ⟨.bl _, H, I, rfl, ?_⟩
      · obtain ⟨z', t', rfl⟩ := strs_ofV r w (by simpa using hw)
        exact SeqAt.EqAt.str_str z' t' z t
      · rw [show its.toArray.any (eqStr z) = its.any (eqStr z) by simp, any_eqStr z r]; exact q'
  · have none_ : ∀ its : List Value, its.toArray.any (fun _ => false) = false := fun its => by simp
    rcases hq with hq | hq
    · obtain ⟨its, r, pl, hz⟩ := I.list hq
      refine SeqAt.in_listAt (fun _ => false) pl.isList (fun w hw => ?_) ⟨.bl _, H, I, rfl, ?_⟩
      · obtain ⟨z', t', rfl⟩ := strs_ofV r w (by simpa using hw)
        exact odd_eqAt I hx rx z' t' hu1
      · rw [none_]; exact q
    · obtain ⟨its, r, pl, hz⟩ := I.tuple hq
      refine SeqAt.in_tupleAt (fun _ => false) pl (fun w hw => ?_) ⟨.bl _, H, I, rfl, ?_⟩
      · obtain ⟨z', t', rfl⟩ := strs_ofV r w (by simpa using hw)
        exact odd_eqAt I hx rx z' t' hu1
      · rw [none_]; exact q
theorem op_notinOdd (hu : X.A.units + 1 < cLine) : OpR X (compareOp .NotIn) (rInOdd X.K true) := by
  intro pins s σ H x y v u Q I rx ry h
  obtain ⟨p, ns, rfl, hq, h⟩ := h
  cases ry
  have hu1 : X.A.in1.units < cLine := hu
  rcases h with ⟨z, rfl, q⟩ | ⟨hx, q⟩
  · obtain ⟨t, rfl⟩ := rx
    have q' : Q (.bl (!decide (z ∈ ns))) H := by rw [Bool.true_bne] at q; exact q
    rcases hq with hq | hq
    · obtain ⟨its, r, pl, hz⟩ := I.list hq
      refine SeqAt.notIn_listAt (eqStr z) pl.isList (fun w hw => ?_) ⟨.bl _, H, I, rfl, ?_⟩
      · obtain ⟨z', t', rfl⟩ := strs_ofV r w (by simpa using hw)
        exact SeqAt.EqAt.str_str z' t' z t
      · rw [show its.toArray.any (eqStr z) = its.any (eqStr z) by simp, any_eqStr z r]; exact q'
    · obtain ⟨its, r, pl, hz⟩ := I.tuple hq
      refine SeqAt.notIn_tupleAt (eqStr z) pl (fun w hw => ?_) ⟨.bl _, H, I, rfl, ?_⟩
      · obtain ⟨z', t', rfl⟩ := strs_ofV r w (by simpa using hw)
        exact SeqAt.EqAt.str_str z' t' z t
      · rw [show its.toArray.any (eqStr z) = its.any (eqStr z) by simp, any_eqStr z r]; exact q'
  · have none_ : ∀ its : List Value, its.toArray.any (fun _ => false) = false := fun its => by simp
    rcases hq with hq | hq
    · obtain ⟨its, r, pl, hz⟩ := I.list hq
      refine SeqAt.notIn_listAt (fun _ => false) pl.isList (fun w hw => ?_) ⟨.bl _, H, I, rfl, ?_⟩
      · obtain ⟨z', t', rfl⟩ := strs_ofV r w (by simpa using hw)
        exact odd_eqAt I hx rx z' t' hu1
      · rw [none_]; exact q
    · obtain ⟨its, r, pl, hz⟩ := I.tuple hq
      refine SeqAt.notIn_tupleAt (fun _ => false) pl (fun w hw => ?_) ⟨.bl _, H, I, rfl, ?_⟩
      · obtain ⟨z', t', rfl⟩ := strs_ofV r w (by simpa using hw)
        exact odd_eqAt I hx rx z' t' hu1
      · rw [none_]; exact q
end
end L2

set_option maxRecDepth 100000
set_option maxHeartbeats 4000000
namespace Ts
open PySem L2
open LamX (ExtN Tabs TabB)
theorem Same.x {H H' : Hp} (s : Same H H') : ExtN H H' := ExtN.of s
theorem TreeAt.ext {C : Addr} {H H' : Hp} {t : Addr} {rs : List Row} (h : TreeAt C H t rs) (s : ExtN H H') : TreeAt C H' t rs := by
  obtain ⟨dx, q, f, k, p, qs, h1, h2, h3, h4, h5, h6⟩ := h.ex
  exact ⟨⟨dx, q, f, k, p, qs, s _ _ h1 nofun, s _ _ h2 nofun, ⟨h3.len, fun i b r hb hr => s _ _ (h3.at_ i b r hb hr) nofun⟩, s _ _ h4 nofun, s _ _ h5 nofun, s _ _ h6 nofun⟩, h.val, h.len⟩
theorem RowsL.ext {H H' : Hp} {p : Addr} {rs : List Row} (h : RowsL H p rs) (s : ExtN H H') : RowsL H' p rs := by
  obtain ⟨as, h1, h2⟩ := h.ex
  exact ⟨as, s _ _ h1 nofun, ⟨h2.len, fun i b r hb hr => s _ _ (h2.at_ i b r hb hr) nofun⟩⟩
/-- a thing that is no text, new -/
def OddH (H : Hp) (x : V) : Prop := x = .non ∨ (∃ i, x = .int i) ∨ (∃ b, x = .bl b) ∨ (∃ a xs, x = .ref a ∧ H a = some (.lst xs)) ∨ (∃ a xs, x = .ref a ∧ H a = some (.tup xs)) ∨ ∃ a kvs, x = .ref a ∧ H a = some (.dK kvs)
theorem OddH.ext {H H' : Hp} {x : V} (h : OddH H x) (s : ExtN H H') : OddH H' x := by
  rcases h with h | h | h | ⟨a, xs, e, h⟩ | ⟨a, xs, e, h⟩ | ⟨a, xs, e, h⟩
  · exact .inl h
  · exact .inr (.inl h)
  · exact .inr (.inr (.inl h))
  · exact .inr (.inr (.inr (.inl ⟨a, xs, e, s _ _ h nofun⟩)))
  · exact .inr (.inr (.inr (.inr (.inl ⟨a, xs, e, s _ _ h nofun⟩))))
  · exact .inr (.inr (.inr (.inr (.inr ⟨a, xs, e, s _ _ h nofun⟩))))
theorem OddH.t {K : PySem.W.Frag} {H : Hp} {x : V} (h : OddH H x) : OddT K H x := by
  rcases h with rfl | ⟨i, rfl⟩ | ⟨b, rfl⟩ | ⟨a, xs, rfl, h⟩ | ⟨a, xs, rfl, h⟩ | ⟨a, xs, rfl, h⟩
  · exact ⟨.inl rfl, _, .base .non, kit_ty (by decide +kernel)⟩
  · exact ⟨.inr (.inl ⟨i, rfl⟩), _, .base (.int i), kit_ty (by decide +kernel)⟩
  · exact ⟨.inr (.inr (.inl ⟨b, rfl⟩)), _, .base (.bl b), kit_ty (by decide +kernel)⟩
  · exact ⟨.inr (.inr (.inr (.inl ⟨a, xs, rfl, SqL.of h⟩))), _, .base (.lst h), kit_ty (by decide +kernel)⟩
  · exact ⟨.inr (.inr (.inr (.inr (.inl ⟨a, xs, rfl, sqT h⟩)))), _, .base (.tup h), kit_ty (by decide +kernel)⟩
  · exact ⟨.inr (.inr (.inr (.inr (.inr ⟨a, xs, rfl, h⟩)))), _, .base (.dK h), kit_ty (by decide +kernel)⟩
def NoBx (H : Hp) (rs : List Row) (x : V) : Prop := (∃ z : Str, x = .str z ∧ z ∉ names rs) ∨ OddH H x
def NoPl (H : Hp) (rs : List Row) (x : V) : Prop := (∃ z : Str, x = .str z ∧ z ≠ ("top" : Str) ∧ z ∉ names rs) ∨ OddH H x
theorem NoBx.ext {H H' : Hp} {rs : List Row} {x : V} (h : NoBx H rs x) (s : ExtN H H') : NoBx H' rs x := h.imp id fun h => h.ext s
theorem NoPl.ext {H H' : Hp} {rs : List Row} {x : V} (h : NoPl H rs x) (s : ExtN H H') : NoPl H' rs x := h.imp id fun h => h.ext s
theorem NoBx.o {K : PySem.W.Frag} {H : Hp} {rs : List Row} {x : V} (h : NoBx H rs x) : OddN K H rs x := h.imp id OddH.t
theorem NoPl.o {K : PySem.W.Frag} {H : Hp} {rs : List Row} {x : V} (h : NoPl H rs x) : OddP K H rs x := h.imp id OddH.t
theorem NoPl.b {H : Hp} {rs : List Row} {x : V} (h : NoPl H rs x) : NoBx H rs x := h.imp (fun ⟨z, e, _, h⟩ => ⟨z, e, h⟩) id
end Ts

set_option maxRecDepth 100000
set_option maxHeartbeats 4000000
namespace Ts
open PySem L2
open LamX (ExtN Tabs TabB)
/-! ### rows of any things -/
def nmB (z : Str) : Bool := !decide (z = ("top" : Str)) && (!decide (8 < z.length) && (Txt.isascii z && (Txt.isalpha z && Txt.islower z)))
def nameB : V → Bool
  | .str z => nmB z
  | _ => false
def inB (l : List Str) : V → Bool
  | .str z => decide (z ∈ l)
  | _ => false
def numB (n : Int) : V → Bool
  | .int i => decide (n ≤ i)
  | _ => false
def prB : V → Bool
  | .non => true
  | x => numB 1 x
def fitB (N F : List Str) : List V → Bool
  | [a, b, c, d] => nameB a && (!inB N a && (inB F b && (inB kinds3 c && prB d)))
  | _ => false
def nmC : List V → Str
  | .str z :: _ => z
  | _ => ""
def foC : List V → Bool
  | [_, _, c, _] => inB ["folder"] c
  | _ => false
/-- a thing in a row -/
def CellV (H : Hp) (x : V) : Prop := (∃ z : Str, x = .str z ∧ z.length ≤ 100) ∨ OddH H x
theorem CellV.ext {H H' : Hp} {x : V} (h : CellV H x) (s : ExtN H H') : CellV H' x := h.imp id fun h => h.ext s
def isS : V → Bool
  | .str _ => true
  | _ => false
def isI : V → Bool
  | .int _ => true
  | .bl _ => true
  | _ => false
def isBl : V → Bool
  | .bl _ => true
  | _ => false
theorem CellV.ty {K : PySem.W.Frag} {H : Hp} {x : V} (h : CellV H x) : ∃ t, TyX K H x t ∧ PySem.W.kitOne K t (.type "str") = some (isS x) ∧ PySem.W.kitOne K t (.type "int") = some (isI x) ∧ PySem.W.kitOne K t (.type "bool") = some (isBl x) := by
  rcases h with ⟨z, rfl, _⟩ | rfl | ⟨i, rfl⟩ | ⟨b, rfl⟩ | ⟨a, xs, rfl, h⟩ | ⟨a, xs, rfl, h⟩ | ⟨a, xs, rfl, h⟩
  · exact ⟨_, .base (.str z), (show PySem.W.kitOne K (.type "str") (.type "str") = some true from kit_ty (by decide +kernel)), (show PySem.W.kitOne K (.type "str") (.type "int") = some false from kit_ty (by decide +kernel)), (show PySem.W.kitOne K (.type "str") (.type "bool") = some false from kit_ty (by decide +kernel))⟩
  · exact ⟨_, .base .non, (show PySem.W.kitOne K (.type "NoneType") (.type "str") = some false from kit_ty (by decide +kernel)), (show PySem.W.kitOne K (.type "NoneType") (.type "int") = some false from kit_ty (by decide +kernel)), (show PySem.W.kitOne K (.type "NoneType") (.type "bool") = some false from kit_ty (by decide +kernel))⟩
  · exact ⟨_, .base (.int i), (show PySem.W.kitOne K (.type "int") (.type "str") = some false from kit_ty (by decide +kernel)), (show PySem.W.kitOne K (.type "int") (.type "int") = some true from kit_ty (by decide +kernel)), (show PySem.W.kitOne K (.type "int") (.type "bool") = some false from kit_ty (by decide +kernel))⟩
  · exact ⟨_, .base (.bl b), (show PySem.W.kitOne K (.type "bool") (.type "str") = some false from kit_ty (by decide +kernel)), (show PySem.W.kitOne K (.type "bool") (.type "int") = some true from kit_ty (by decide +kernel)), (show PySem.W.kitOne K (.type "bool") (.type "bool") = some true from kit_ty (by decide +kernel))⟩
  · exact ⟨_, .base (.lst h), (show PySem.W.kitOne K (.type "list") (.type "str") = some false from kit_ty (by decide +kernel)), (show PySem.W.kitOne K (.type "list") (.type "int") = some false from kit_ty (by decide +kernel)), (show PySem.W.kitOne K (.type "list") (.type "bool") = some false from kit_ty (by decide +kernel))⟩
  · exact ⟨_, .base (.tup h), (show PySem.W.kitOne K (.type "tuple") (.type "str") = some false from kit_ty (by decide +kernel)), (show PySem.W.kitOne K (.type "tuple") (.type "int") = some false from kit_ty (by decide +kernel)), (show PySem.W.kitOne K (.type "tuple") (.type "bool") = some false from kit_ty (by decide +kernel))⟩
  · exact ⟨_, .base (.dK h), (show PySem.W.kitOne K (.type "dict") (.type "str") = some false from kit_ty (by decide +kernel)), (show PySem.W.kitOne K (.type "dict") (.type "int") = some false from kit_ty (by decide +kernel)), (show PySem.W.kitOne K (.type "dict") (.type "bool") = some false from kit_ty (by decide +kernel))⟩
def NoSq (H : Hp) (y : V) : Prop := y = .non ∨ (∃ i, y = .int i) ∨ (∃ z, y = .str z) ∨ ∃ a kvs, y = .ref a ∧ H a = some (.dK kvs)
theorem NoSq.ext {H H' : Hp} {y : V} (h : NoSq H y) (s : ExtN H H') : NoSq H' y := by
  rcases h with h | h | h | ⟨a, kvs, e, h⟩
  · exact .inl h
  · exact .inr (.inl h)
  · exact .inr (.inr (.inl h))
  · exact .inr (.inr (.inr ⟨a, kvs, e, s _ _ h nofun⟩))
theorem kit_noseq {K : PySem.W.Frag} {T : String} (h1 : PySem.W.kitOne K (.type T) (.type "list") = some false) (h2 : PySem.W.kitOne K (.type T) (.type "tuple") = some false) : PySem.W.kitAny K (.type T) [.type "list", .type "tuple"] = some false := kitAny_cons (b := false) h1 (fun _ => kitAny_cons (b := false) h2 (fun _ => rfl) fun e => nomatch e) fun e => nomatch e
theorem NoSq.ty {K : PySem.W.Frag} {H : Hp} {y : V} (h : NoSq H y) : ∃ t, TyX K H y t ∧ PySem.W.kitAny K t [.type "list", .type "tuple"] = some false := by
  rcases h with rfl | ⟨i, rfl⟩ | ⟨z, rfl⟩ | ⟨a, kvs, rfl, h⟩
  · exact ⟨_, .base .non, kit_noseq (kit_ty (by decide +kernel)) (kit_ty (by decide +kernel))⟩
  · exact ⟨_, .base (.int i), kit_noseq (kit_ty (by decide +kernel)) (kit_ty (by decide +kernel))⟩
  · exact ⟨_, .base (.str z), kit_noseq (kit_ty (by decide +kernel)) (kit_ty (by decide +kernel))⟩
  · exact ⟨_, .base (.dK h), kit_noseq (kit_ty (by decide +kernel)) (kit_ty (by decide +kernel))⟩
/-- a thing among rows: no list and no tuple, or one of such things -/
def ThAt (H : Hp) (y : V) (cs : List V) : Prop := (NoSq H y ∧ cs = []) ∨ ∃ a, y = .ref a ∧ Seq H a cs ∧ cs.length ≤ 10 ∧ ∀ c ∈ cs, CellV H c
theorem Seq.xt {H H' : Hp} {a : Addr} {xs : List V} (h : Seq H a xs) (s : ExtN H H') : Seq H' a xs := h.imp (fun h => s _ _ h nofun) (fun h => s _ _ h nofun)
theorem ThAt.ext {H H' : Hp} {y : V} {cs : List V} (h : ThAt H y cs) (s : ExtN H H') : ThAt H' y cs := by
  rcases h with ⟨h, e⟩ | ⟨a, e, h, l, c⟩
  · exact .inl ⟨h.ext s, e⟩
  · exact .inr ⟨a, e, h.xt s, l, fun x hx => (c x hx).ext s⟩
structure ThL (H : Hp) (ys : List V) (css : List (List V)) : Prop where
  len : ys.length = css.length
  at_ : ∀ (i : Nat) (y : V) (cs : List V), ys[i]? = some y → css[i]? = some cs → ThAt H y cs
theorem ThL.ext {H H' : Hp} {ys : List V} {css : List (List V)} (h : ThL H ys css) (s : ExtN H H') : ThL H' ys css := ⟨h.len, fun i y cs a b => (h.at_ i y cs a b).ext s⟩
/-- names and folders behind some rows -/
def nsA (N : List Str) (css : List (List V)) : List Str := N ++ css.map nmC
def fsA (F : List Str) (css : List (List V)) : List Str := F ++ (css.filter foC).map nmC
def fitAt (N F : List Str) (css : List (List V)) (i : Nat) : Bool := match css[i]? with
  | some cs => fitB (nsA N (css.take i)) (fsA F (css.take i)) cs
  | none => false
inductive DueI (N F : List Str) (css : List (List V)) : Option Nat → Prop
  | fine (h : ∀ i, i < css.length → fitAt N F css i = true) : DueI N F css none
  | bad {i : Nat} (hi : i < css.length) (h : ∀ j, j < i → fitAt N F css j = true) (hb : fitAt N F css i = false) : DueI N F css (some i)
theorem dueI_ex (N F : List Str) (css : List (List V)) : ∃ r, DueI N F css r := by
  have : ∀ n, n ≤ css.length → (∀ i, i < n → fitAt N F css i = true) ∨ ∃ i, i < n ∧ (∀ j, j < i → fitAt N F css j = true) ∧ fitAt N F css i = false := by
    intro n
    induction n with
    | zero => exact fun _ => .inl fun i hi => by omega
    | succ n ih =>
      intro hn
      rcases ih (by omega) with h | ⟨i, hi, h1, h2⟩
      · cases e : fitAt N F css n with
        | true =>
          refine .inl fun i hi => ?_
          by_cases q : i = n
          · rw [q]; exact e
          · exact h i (by omega)
        | false => exact .inr ⟨n, by omega, h, e⟩
      · exact .inr ⟨i, by omega, h1, h2⟩
  rcases this css.length (Nat.le_refl _) with h | ⟨i, hi, h1, h2⟩
  · exact ⟨none, .fine h⟩
  · exact ⟨some i, .bad hi h1 h2⟩
theorem fit_top {N F : List Str} {cs : List V} : fitB (("top" : Str) :: N) F cs = fitB N F cs := by
  unfold fitB
  split
  · rename_i a b c d
    cases a with
    | str z =>
      by_cases e : z = ("top" : Str)
      · subst e
        have : nameB (.str ("top" : Str)) = false := by show nmB _ = false; unfold nmB; simp
        rw [this]; rfl
      · have : inB (("top" : Str) :: N) (.str z) = inB N (.str z) := by
          show decide (z ∈ ("top" : Str) :: N) = decide (z ∈ N)
          exact decide_eq_decide.mpr ⟨fun h => (List.mem_cons.mp h).resolve_left e, fun h => List.mem_cons_of_mem _ h⟩
        rw [this]
    | _ => rfl
  · rfl
theorem fitAt_top {N F : List Str} {css : List (List V)} {i : Nat} : fitAt (("top" : Str) :: N) F css i = fitAt N F css i := by
  unfold fitAt
  split
  · exact fit_top
  · rfl
theorem DueI.top {N F : List Str} {css : List (List V)} {r : Option Nat} (h : DueI (("top" : Str) :: N) F css r) : DueI N F css r := by
  cases h with
  | fine h => exact .fine fun i hi => by rw [← fitAt_top]; exact h i hi
  | bad hi h hb => exact .bad hi (fun j hj => by rw [← fitAt_top]; exact h j hj) (by rw [← fitAt_top]; exact hb)
def spIsNameG : Sp := fun vs H Q _ => ∃ x, vs = [x] ∧ CellV H x ∧ Q (.bl (nameB x)) H
def spIsNumberG : Sp := fun vs H Q _ => ∃ (x : V) (n : Int), vs = [x, .int n] ∧ CellV H x ∧ Q (.bl (numB n x)) H
def spIsPriceG : Sp := fun vs H Q _ => ∃ x, vs = [x] ∧ CellV H x ∧ Q (.bl (prB x)) H
def spIsRowG : Sp := fun vs H Q _ => ∃ (y : V) (d1 d2 : Addr) (cs : List V) (N F : List Str), vs = [y, .ref d1, .ref d2] ∧ ThAt H y cs ∧ MemD H d1 N ∧ MemD H d2 F ∧ ∀ H', Same H H' → Q (.bl (fitB N F cs)) H'
theorem bfalse {b : Bool} {p : Prop} (h : b = false → p) (h2 : b = true → p) : p := by cases b; exact h rfl; exact h2 rfl
section
variable {P : Program} {w : World} {K : PySem.W.Frag} {mg : Str → Option Value} {base : Heap}
theorem ok_is_nameG (D : DefAt K mg "is_name" s_is_name ["thing"]) (B : TxB mg) (C : TxC K mg) : FnOk P w K mg base CX0 2 D.f D.fd ["thing"] spIsNameG := by
  obtain ⟨t1, gT⟩ := C.top
  obtain ⟨t2, gL⟩ := C.long
  refine D.F.ok sc_is_name (fun vs H Q E h => ?_) (fun cdv A outer s H vs Q E hr h => ?_)
  · obtain ⟨z, rfl, _⟩ := h
    rfl
  · obtain ⟨x, rfl, hx, hq⟩ := h
    refine ⟨_, pss_cons (ps_if (PW.pt (pw_or (pt_not (pt_val (pe_callB call_isi (by rfl) B.isinstance (by decide +kernel) (pa_cons (pv 0) (pa_cons (pe_bltn (by rfl) B.str (by decide +kernel) (v := .ty "str") rfl) pa_nil)))))
        (pw_or (pt_cmpR op_eq (pv 0) (pe_glob (by rfl) gT (v := .str ("top" : Str)) ⟨_, rfl⟩) (nomark _)) (pw_or1 (pt_cmpR op_gt (pe_callB call_len (by rfl) B.len PySem.boot_len (pa_cons (pv 0) pa_nil)) (pe_glob (by rfl) gL (v := .int 8) ⟨_, rfl⟩) (nomark _)))))) (pss_one (ps_ret pe_bl)) pss_nil)
      (pss_one (ps_ret (pe_and (pe_m0 PySem.F.slot_str_isascii PySem.F.type_str_isascii mt_isascii (pv 0)) (pe_and (pe_m0 PySem.F.slot_str_isalpha PySem.F.type_str_isalpha mt_isalpha (pv 0)) (pe_one (pe_m0 PySem.F.slot_str_islower PySem.F.type_str_islower mt_islower (pv 0))))))), ?_⟩
    obtain ⟨ty, hty, k1, _, _⟩ := hx.ty (K := K)
    rcases hx with ⟨z, rfl, lz⟩ | ho
    · refine ⟨_, rfl, _, _, _, _, true, rfl, .ty "str", hty, k1, _, rfl, iteF ?_⟩
      refine ⟨_, rfl, rfl, _, rfl, ?_⟩
      have hq' : Q (.bl (nmB z)) H := hq
      unfold nmB at hq'
      by_cases e : z = ("top" : Str)
      · rw [decide_eq_true (show V.str z = V.str ("top" : Str) by rw [e])]
        rw [decide_eq_true e] at hq'
        exact iteT hq'
      rw [decide_eq_false (fun q => e (V.str.inj q))]
      rw [decide_eq_false e] at hq'
      refine iteF ?_
      refine ⟨_, rfl, _, z.length, rfl, ⟨szl (by omega), rfl⟩, _, _, rfl, rfl, _, rfl, ?_⟩
      by_cases e8 : 8 < z.length
      · rw [decide_eq_true (by omega)]
        rw [decide_eq_true e8] at hq'
        exact iteT hq'
      rw [decide_eq_false (by omega)]
      rw [decide_eq_false e8] at hq'
      refine iteF ?_
      refine ⟨_, rfl, ⟨_, rfl⟩, _, rfl, rfl, trivial, _, rfl, ?_⟩
      have hq2 : Q (.bl (Txt.isascii z && (Txt.isalpha z && Txt.islower z))) H := hq'
      cases e1 : Txt.isascii z with
      | false => rw [e1] at hq2; exact iteF hq2
      | true =>
        rw [e1] at hq2
        refine iteT ⟨_, rfl, ⟨_, rfl⟩, _, rfl, rfl, trivial, _, rfl, ?_⟩
        have hq3 : Q (.bl (Txt.isalpha z && Txt.islower z)) H := hq2
        cases e2 : Txt.isalpha z with
        | false => rw [e2] at hq3; exact iteF hq3
        | true =>
          rw [e2] at hq3
          exact iteT ⟨_, rfl, ⟨_, rfl⟩, _, rfl, rfl, trivial, hq3⟩
    · have n1 : isS x = false := by rcases ho with rfl | ⟨i, rfl⟩ | ⟨b, rfl⟩ | ⟨a, xs, rfl, _⟩ | ⟨a, xs, rfl, _⟩ | ⟨a, xs, rfl, _⟩ <;> rfl
      have n2 : nameB x = false := by rcases ho with rfl | ⟨i, rfl⟩ | ⟨b, rfl⟩ | ⟨a, xs, rfl, _⟩ | ⟨a, xs, rfl, _⟩ | ⟨a, xs, rfl, _⟩ <;> rfl
      rw [n1] at k1
      rw [n2] at hq
      exact ⟨_, rfl, _, _, _, _, false, rfl, .ty "str", hty, k1, _, rfl, iteT hq⟩
theorem ok_is_numberG (D : DefAt K mg "is_number" s_is_number ["thing", "least"]) (B : TxB mg) : FnOk P w K mg base CX0 1 D.f D.fd ["thing", "least"] spIsNumberG := by
  refine D.F.ok sc_is_number (fun vs H Q E h => ?_) (fun cdv A outer s H vs Q E hr h => ?_)
  · obtain ⟨z, n, rfl, _⟩ := h
    rfl
  · obtain ⟨x, n, rfl, hx, hq⟩ := h
    refine ⟨_, (pss_one (ps_ret (pe_and (pe_callB call_isi (by rfl) B.isinstance (by decide +kernel) (pa_cons (pv 0) (pa_cons (pe_bltn (by rfl) B.int (by decide +kernel) (v := .ty "int") rfl) pa_nil)))
        (pe_and (pe_not (pe_callB call_isi (by rfl) B.isinstance (by decide +kernel) (pa_cons (pv 0) (pa_cons (pe_bltn (by rfl) B.bool (by decide +kernel) (v := .ty "bool") rfl) pa_nil)))) (pe_one (pe_cmpR op_ge (pv 0) (pv 1) (nomark _))))))), ?_⟩
    obtain ⟨ty, hty, _, k2, k3⟩ := hx.ty (K := K)
    refine ⟨_, rfl, _, _, _, _, isI x, rfl, .ty "int", hty, k2, _, rfl, ?_⟩
    rcases hx with ⟨z, rfl, lz⟩ | rfl | ⟨i, rfl⟩ | ⟨b, rfl⟩ | ⟨a, xs, rfl, _⟩ | ⟨a, xs, rfl, _⟩ | ⟨a, xs, rfl, _⟩
    · exact iteF hq
    · exact iteF hq
    · refine iteT ⟨_, rfl, _, _, _, _, false, rfl, .ty "bool", hty, k3, _, rfl, _, rfl, iteT ?_⟩
      exact ⟨_, rfl, _, rfl, _, _, rfl, rfl, hq⟩
    · exact iteT ⟨_, rfl, _, _, _, _, true, rfl, .ty "bool", hty, k3, _, rfl, _, rfl, iteF hq⟩
    · exact iteF hq
    · exact iteF hq
    · exact iteF hq
theorem ok_is_priceG (D : DefAt K mg "is_price" s_is_price ["thing"]) (B : TxB mg) (C : TxC K mg) : FnOk P w K mg base CX0 2 D.f D.fd ["thing"] spIsPriceG := by
  have Gn : FnOk P w K mg base CX0 1 C.num.f C.num.fd ["thing", "least"] spIsNumberG := ok_is_numberG C.num B
  refine D.F.ok sc_is_price (fun vs H Q E h => ?_) (fun cdv A outer s H vs Q E hr h => ?_)
  · obtain ⟨z, rfl, _⟩ := h
    rfl
  · obtain ⟨x, rfl, hx, hq⟩ := h
    refine ⟨_, (pss_one (ps_ret (pe_or (pe_cmpR op_isN (pv 0) pe_non (nomark _)) (pe_one (pe_call Gn hr rfl C.num.g C.num.F.kp C.num.b .nil pass0 (pa_cons (pv 0) (pa_cons pe_int pa_nil))))))), ?_⟩
    refine ⟨_, rfl, rfl, _, rfl, ?_⟩
    by_cases e : x = .non
    · subst e
      rw [decide_eq_true rfl]
      exact iteT hq
    · rw [decide_eq_false e]
      have e2 : prB x = numB 1 x := by cases x <;> first | rfl | exact absurd rfl e
      rw [e2] at hq
      exact iteF ⟨_, rfl, x, 1, rfl, hx, hq⟩
end
end Ts

set_option maxRecDepth 100000
set_option maxHeartbeats 4000000
namespace Ts
open PySem L2
/-! ### what changes a tree -/
theorem Valid.append {pre L : List Row} (h : Valid pre) (k : ∀ i r, L[i]? = some r → Fits (pre ++ L.take i) r) : Valid (pre ++ L) := by
  intro i r hr
  rcases Nat.lt_or_ge i pre.length with hi | hi
  · rw [List.getElem?_append_left hi] at hr
    rw [List.take_append_of_le_length (Nat.le_of_lt hi)]
    exact h i r hr
  · rw [List.getElem?_append_right hi] at hr
    have e : (pre ++ L).take i = pre ++ L.take (i - pre.length) := by
      rw [List.take_append, List.take_of_length_le hi]
    rw [e]
    exact k _ _ hr
/-- where a kept row stood -/
theorem filter_at {p : Row → Bool} : ∀ {rs : List Row} {i : Nat} {r : Row}, (rs.filter p)[i]? = some r → ∃ j, rs[j]? = some r ∧ p r = true ∧ (rs.filter p).take i = (rs.take j).filter p
  | [], _, _, h => by simp at h
  | q :: rs, i, r, h => by
    by_cases e : p q = true
    · rw [List.filter_cons_of_pos e] at h ⊢
      cases i with
      | zero =>
        have : q = r := by simpa using h
        subst this
        exact ⟨0, rfl, e, by simp⟩
      | succ i =>
        obtain ⟨j, h1, h2, h3⟩ := filter_at (rs := rs) (i := i) (r := r) (by simpa using h)
        refine ⟨j + 1, by simpa using h1, h2, ?_⟩
        rw [List.take_succ_cons, List.take_succ_cons, List.filter_cons_of_pos e, h3]
    · rw [List.filter_cons_of_neg e] at h ⊢
      obtain ⟨j, h1, h2, h3⟩ := filter_at (rs := rs) (i := i) (r := r) h
      refine ⟨j + 1, by simpa using h1, h2, ?_⟩
      rw [List.take_succ_cons, List.filter_cons_of_neg e, h3]
theorem Valid.filter {rs : List Row} {p : Row → Bool} (h : Valid rs) (hp : ∀ r ∈ rs, p r = true → ∀ q ∈ rs, q.nm = r.fo → p q = true) : Valid (rs.filter p) := by
  intro i r hr
  obtain ⟨j, h1, h2, h3⟩ := filter_at hr
  rw [h3]
  have f := h j r h1
  refine ⟨f.shape, f.top, fun hm => ?_, ?_, f.kind, f.price⟩
  · obtain ⟨q, hq, e⟩ := List.mem_map.mp hm
    exact f.new (List.mem_map.mpr ⟨q, (List.mem_filter.mp hq).1, e⟩)
  · rcases f.home with e | ⟨q, hq, e1, e2⟩
    · exact .inl e
    · exact .inr ⟨q, List.mem_filter.mpr ⟨hq, hp r (List.mem_of_getElem? h1) h2 q (List.mem_of_mem_take hq) e1⟩, e1, e2⟩
/-- what lies beneath z, z with it -/
def under (rs : List Row) (z : Str) (r : Row) : Bool := decide (z ∈ wayOf rs r.nm)
theorem under_self {rs : List Row} (h : Valid rs) {z : Str} {r : Row} (hr : r ∈ rs) (e : r.nm = z) : under rs z r = true := by
  unfold under
  rw [← e]
  exact decide_eq_true (way_self h (List.mem_map.mpr ⟨r, hr, rfl⟩))
theorem under_iff {rs : List Row} (h : Valid rs) {z : Str} (hz : z ≠ ("top" : Str)) {r : Row} (hr : r ∈ rs) : under rs z r = (decide (r.nm = z) || isIn rs z r) := by
  by_cases e : r.nm = z
  · rw [under_self h hr e, decide_eq_true e, Bool.true_or]
  · rw [decide_eq_false e, Bool.false_or]
    unfold isIn under
    rw [decide_eq_true e, decide_eq_false hz, Bool.true_and, Bool.false_or]
theorem gone_iff {rs : List Row} (h : Valid rs) {z : Str} (hz : z ≠ ("top" : Str)) {r : Row} (hr : r ∈ rs) : decide (r.nm ∈ z :: belowL rs z) = under rs z r := by
  rw [under_iff h hz hr]
  by_cases e : r.nm = z
  · rw [decide_eq_true e, Bool.true_or]
    exact decide_eq_true (by rw [e]; exact List.mem_cons_self ..)
  · rw [decide_eq_false e, Bool.false_or]
    by_cases i : isIn rs z r = true
    · rw [i]
      exact decide_eq_true (List.mem_cons_of_mem _ (List.mem_map.mpr ⟨r, List.mem_filter.mpr ⟨hr, i⟩, rfl⟩))
    · rw [Bool.not_eq_true] at i
      rw [i]
      refine decide_eq_false fun hm => ?_
      rcases List.mem_cons.mp hm with q | q
      · exact e q
      · obtain ⟨r2, h2, e2⟩ := List.mem_map.mp q
        obtain ⟨h3, h4⟩ := List.mem_filter.mp h2
        unfold isIn at h4 i
        rw [e2] at h4
        rw [h4] at i
        cases i
/-- a row whose folder lies beneath z does so, too -/
theorem under_up {rs : List Row} (h : Valid rs) {z : Str} {r q : Row} (hr : r ∈ rs) (hq : q ∈ rs) (e : q.nm = r.fo) (hu : under rs z q = true) : under rs z r = true := by
  unfold under at hu ⊢
  rw [way_step h hr, ← e]
  exact decide_eq_true (List.mem_append_left _ (of_decide_eq_true hu))
def lessL (rs : List Row) (z : Str) : List Row := rs.filter fun r => !under rs z r
theorem less_valid {rs : List Row} (h : Valid rs) (z : Str) : Valid (lessL rs z) :=
  h.filter fun r hr hp q hq e => by
    cases hu : under rs z q with
    | false => rfl
    | true => rw [under_up h hr hq e hu] at hp; cases hp
/-- the rows behind a move -/
def movedL (rs : List Row) (m : Row) (fo : Str) : List Row := lessL rs m.nm ++ ({ m with fo := fo } :: rs.filter (isIn rs m.nm))
theorem moved_valid {rs : List Row} (h : Valid rs) {m : Row} (hm : m ∈ rs) {fo : Str} (hf : fo = ("top" : Str) ∨ ∃ q ∈ rs, q.nm = fo ∧ q.ki = ("folder" : Str) ∧ under rs m.nm q = false) : Valid (movedL rs m fo) := by
  have mt : m.nm ≠ ("top" : Str) := fun e => top_not h (by rw [← e]; exact List.mem_map.mpr ⟨m, hm, rfl⟩)
  obtain ⟨k, hk, ek⟩ := List.mem_iff_getElem.mp hm
  have fm := h k m (by rw [← ek]; exact List.getElem?_eq_getElem hk)
  have v1 : Valid (lessL rs m.nm ++ [{ m with fo := fo }]) := by
    refine (less_valid h m.nm).snoc ⟨fm.shape, fm.top, fun hx => ?_, ?_, fm.kind, fm.price⟩
    · obtain ⟨q, hq, e⟩ := List.mem_map.mp hx
      obtain ⟨q1, q2⟩ := List.mem_filter.mp hq
      rw [under_self h q1 e] at q2
      cases q2
    · rcases hf with e | ⟨q, hq, e1, e2, e3⟩
      · exact .inl e
      · exact .inr ⟨q, List.mem_filter.mpr ⟨hq, by rw [e3]; rfl⟩, e1, e2⟩
  have e : movedL rs m fo = (lessL rs m.nm ++ [{ m with fo := fo }]) ++ rs.filter (isIn rs m.nm) := by unfold movedL; simp
  rw [e]
  refine v1.append fun i r hr => ?_
  obtain ⟨j, h1, h2, h3⟩ := filter_at hr
  have f := h j r h1
  have hrm := List.mem_of_getElem? h1
  have ur : under rs m.nm r = true := by rw [under_iff h mt hrm, h2, Bool.or_true]
  have nz : r.nm ≠ m.nm := fun e => by unfold isIn at h2; simp [e] at h2
  rw [h3]
  refine ⟨f.shape, f.top, fun hx => ?_, ?_, f.kind, f.price⟩
  · rw [List.map_append, List.map_append] at hx
    rcases List.mem_append.mp hx with hx | hx
    · rcases List.mem_append.mp hx with hx | hx
      · obtain ⟨q, hq, e⟩ := List.mem_map.mp hx
        obtain ⟨q1, q2⟩ := List.mem_filter.mp hq
        have : under rs m.nm q = true := by unfold under at ur ⊢; rw [e]; exact ur
        rw [this] at q2
        cases q2
      · simp at hx
        exact nz hx
    · obtain ⟨q, hq, e⟩ := List.mem_map.mp hx
      exact f.new (List.mem_map.mpr ⟨q, (List.mem_filter.mp hq).1, e⟩)
  · rcases f.home with e | ⟨q, hq, e1, e2⟩
    · exfalso
      unfold isIn at h2
      rw [decide_eq_true nz, decide_eq_false mt, Bool.true_and, Bool.false_or, way_step h hrm, e, way_top h] at h2
      simp at h2
      exact nz h2.symm
    · by_cases eq1 : q.nm = m.nm
      · have : q = m := by
          have a := rowOf_at h (i := k) (r := m) (by rw [← ek]; exact List.getElem?_eq_getElem hk)
          obtain ⟨k2, hk2, ek2⟩ := List.mem_iff_getElem.mp (List.mem_of_mem_take hq)
          have b := rowOf_at h (i := k2) (r := q) (by rw [← ek2]; exact List.getElem?_eq_getElem hk2)
          rw [eq1, a] at b
          exact (Option.some.inj b).symm
        subst this
        exact .inr ⟨{ q with fo := fo }, by simp, e1, e2⟩
      · refine .inr ⟨q, List.mem_append_right _ (List.mem_filter.mpr ⟨hq, ?_⟩), e1, e2⟩
        have hqm := List.mem_of_mem_take hq
        have : under rs m.nm q = true := by
          unfold under at ur ⊢
          rw [way_step h hrm, ← e1] at ur
          have := of_decide_eq_true ur
          rcases List.mem_append.mp this with x | x
          · exact decide_eq_true x
          · exact absurd (List.mem_singleton.mp x).symm nz
        rw [under_iff h mt hqm, decide_eq_false eq1, Bool.false_or] at this
        exact this
theorem names_inj {rs : List Row} (h : Valid rs) {q m : Row} (hq : q ∈ rs) (hm : m ∈ rs) (e : q.nm = m.nm) : q = m := by
  obtain ⟨k, hk, ek⟩ := List.mem_iff_getElem.mp hm
  obtain ⟨k2, hk2, ek2⟩ := List.mem_iff_getElem.mp hq
  have a := rowOf_at h (i := k) (r := m) (by rw [← ek]; exact List.getElem?_eq_getElem hk)
  have b := rowOf_at h (i := k2) (r := q) (by rw [← ek2]; exact List.getElem?_eq_getElem hk2)
  rw [e, a] at b
  exact (Option.some.inj b).symm
/-- of all beneath z, z stands first -/
theorem under_split {rs : List Row} (h : Valid rs) {m : Row} (hm : m ∈ rs) : rs.filter (under rs m.nm) = m :: rs.filter (isIn rs m.nm) := by
  have mt : m.nm ≠ ("top" : Str) := fun e => top_not h (by rw [← e]; exact List.mem_map.mpr ⟨m, hm, rfl⟩)
  obtain ⟨k, hk, ek⟩ := List.mem_iff_getElem.mp hm
  have hkm : rs[k]? = some m := by rw [← ek]; exact List.getElem?_eq_getElem hk
  have e0 : rs = rs.take k ++ m :: rs.drop (k + 1) := by
    rw [← ek, List.getElem_cons_drop, List.take_append_drop]
  have a1 : (rs.take k).filter (under rs m.nm) = [] := by
    rw [List.filter_eq_nil_iff]
    intro q hq hu
    have hqn : q.nm ∈ names (rs.take k) := List.mem_map.mpr ⟨q, hq, rfl⟩
    exact (h k m hkm).new (way_pre h k hqn (of_decide_eq_true hu))
  have a2 : (rs.take k).filter (isIn rs m.nm) = [] := by
    rw [List.filter_eq_nil_iff]
    intro q hq hu
    have hqr := List.mem_of_mem_take hq
    have : under rs m.nm q = true := by rw [under_iff h mt hqr, hu, Bool.or_true]
    exact (List.filter_eq_nil_iff.mp a1) q hq this
  have b1 : under rs m.nm m = true := under_self h hm rfl
  have b2 : isIn rs m.nm m = false := by unfold isIn; simp
  have c1 : (rs.drop (k + 1)).filter (under rs m.nm) = (rs.drop (k + 1)).filter (isIn rs m.nm) := by
    refine List.filter_congr fun q hq => ?_
    have hqr := List.mem_of_mem_drop hq
    rw [under_iff h mt hqr]
    have : ¬ q.nm = m.nm := fun e => by
      have e2 := names_inj h hqr hm e
      rw [e2] at hq
      obtain ⟨j, hj, ej⟩ := List.mem_iff_getElem.mp hq
      rw [List.getElem_drop] at ej
      rw [List.length_drop] at hj
      have f := h (k + 1 + j) m (by rw [← ej]; exact List.getElem?_eq_getElem _)
      exact f.new (List.mem_map.mpr ⟨m, List.mem_take_iff_getElem.mpr ⟨k, by omega, ek⟩, rfl⟩)
    rw [decide_eq_false this, Bool.false_or]
  have l : ∀ p : Row → Bool, rs.filter p = (rs.take k).filter p ++ (m :: rs.drop (k + 1)).filter p := fun p => by
    rw [← List.filter_append, ← e0]
  rw [l (under rs m.nm), l (isIn rs m.nm), a1, a2, List.filter_cons_of_pos b1, List.filter_cons_of_neg (by rw [b2]; simp), c1]
  rfl
end Ts

set_option maxRecDepth 100000
set_option maxHeartbeats 4000000
namespace Ts
open PySem L2
theorem mk_same {C : Addr} {H H' : Hp} {x dx : Addr} (nx : H x = none) (nd : H dx = none) (sb : SB x (upd (upd H dx (.own x)) x (.ins C dx [])) H') : Same H H' := fun b o e =>
  sb b o (ne_of_none e nx) (by rw [upd_ne (ne_of_none e nx), upd_ne (ne_of_none e nd)]; exact e)
theorem mk_same0 {C : Addr} {H : Hp} {x dx : Addr} (nx : H x = none) (nd : H dx = none) : Same H (upd (upd H dx (.own x)) x (.ins C dx [])) := fun b o e => by
  rw [upd_ne (ne_of_none e nx), upd_ne (ne_of_none e nd)]; exact e
theorem SeqRows.snoc {H : Hp} {as : List Addr} {rs : List Row} {a : Addr} {r : Row} (h : SeqRows H as rs) (ha : H a = some (.tup (rowVs r)) ∨ H a = some (.lst (rowVs r))) : SeqRows H (as ++ [a]) (rs ++ [r]) := by
  refine ⟨by simp [h.len], fun i b q hb hq => ?_⟩
  rcases Nat.lt_or_ge i as.length with hi | hi
  · rw [List.getElem?_append_left hi] at hb
    rw [List.getElem?_append_left (h.len ▸ hi)] at hq
    exact h.at_ i b q hb hq
  · rw [List.getElem?_append_right hi] at hb
    rw [List.getElem?_append_right (h.len ▸ hi)] at hq
    have e0 : i - as.length = 0 := by
      have := (List.getElem?_eq_some_iff.mp hb).1
      simp at this
      omega
    have e1 : i - rs.length = 0 := by rw [← h.len]; exact e0
    rw [e0] at hb
    rw [e1] at hq
    simp at hb hq
    subst hb; subst hq
    exact ha
theorem SeqRows.append {H : Hp} : ∀ {bs : List Addr} {qs : List Row} {as : List Addr} {rs : List Row}, SeqRows H as rs → SeqRows H bs qs → SeqRows H (as ++ bs) (rs ++ qs)
  | [], [], as, rs, h, _ => by simpa using h
  | [], _ :: _, _, _, _, h => by have := h.len; simp at this
  | _ :: _, [], _, _, _, h => by have := h.len; simp at this
  | b :: bs, q :: qs, as, rs, h, h2 => by
    have h3 : SeqRows H bs qs := ⟨by simpa using h2.len, fun i a r ha hr => h2.at_ (i + 1) a r (by simpa using ha) (by simpa using hr)⟩
    have := SeqRows.append (h.snoc (h2.at_ 0 b q rfl rfl)) h3
    simpa using this
theorem rows_at {as : List Addr} {rs : List Row} {H : Hp} (h : RowsAt H as rs) {i : Nat} {x : V} (hx : (as.map V.ref)[i]? = some x) : ∃ ra r, x = .ref ra ∧ as[i]? = some ra ∧ rs[i]? = some r ∧ H ra = some (.tup (rowVs r)) := by
  rw [List.getElem?_map] at hx
  obtain ⟨ra, hra, rfl⟩ := Option.map_eq_some_iff.mp hx
  obtain ⟨r, hr'⟩ : ∃ r, rs[i]? = some r := ⟨rs[i]'(by rw [← h.len]; exact (List.getElem?_eq_some_iff.mp hra).1), List.getElem?_eq_getElem _⟩
  exact ⟨ra, r, rfl, hra, hr', h.at_ i ra r hra hr'⟩
theorem filter_more {rs : List Row} {i : Nat} {r : Row} (h : rs[i]? = some r) (p : Row → Bool) : (rs.take (i + 1)).filter p = (rs.take i).filter p ++ (if p r = true then [r] else []) := by
  rw [take_more h, List.filter_append]
  by_cases e : p r = true
  · rw [if_pos e, List.filter_cons_of_pos e]; rfl
  · rw [if_neg e, List.filter_cons_of_neg e]; rfl
/-- a new list that keeps some of the rows: what stands between two turns -/
structure KeepI (H0 H : Hp) (D : Addr) (qs : List Row) : Prop where
  same : Same H0 H
  ex : ∃ as : List Addr, H D = some (.lst (as.map V.ref)) ∧ RowsAt H as qs
theorem KeepI.nil {H : Hp} {D : Addr} (h : H D = none) : KeepI H (upd H D (.lst [])) D [] := ⟨Same.new h, [], upd_same, RowsAt.nil⟩
theorem KeepI.grow {H0 H H' : Hp} {D ra : Addr} {qs : List Row} {r : Row} (h : KeepI H0 H D qs) (hD : H0 D = none) (s : Same H H') (hr : H' ra = some (.tup (rowVs r))) (hl : qs.length ≤ 900) :
    ∃ acc, H' D = some (.lst acc) ∧ acc.length < sizeLine ∧ KeepI H0 (upd H' D (.lst (acc ++ [V.ref ra]))) D (qs ++ [r]) := by
  obtain ⟨as, h1, h2⟩ := h.ex
  have hD' := s _ _ h1
  have kt : ∀ {b : Addr} {xs : List V}, H' b = some (.tup xs) → (upd H' D (.lst (as.map V.ref ++ [V.ref ra]))) b = some (.tup xs) := fun {b xs} e => by
    rw [upd_ne (fun y => by rw [y, hD'] at e; cases e)]; exact e
  refine ⟨as.map V.ref, hD', small1000 (by rw [List.length_map, h2.len]; omega), fun b o e => ?_, as ++ [ra], by rw [upd_same, List.map_append]; rfl, RowsAt.snoc ⟨h2.len, fun j b q hb hq => kt (s _ _ (h2.at_ j b q hb hq))⟩ (kt hr)⟩
  rw [upd_ne (fun y => by rw [y, hD] at e; cases e)]
  exact s _ _ (h.same _ _ e)
theorem KeepI.on {H0 H H' : Hp} {D : Addr} {qs : List Row} (h : KeepI H0 H D qs) (s : Same H H') : KeepI H0 H' D qs := by
  obtain ⟨as, h1, h2⟩ := h.ex
  exact ⟨h.same.trans s, as, s _ _ h1, h2.same s⟩
def spMore (C : Addr) : Sp := fun vs H Q _ => ∃ (t a : Addr) (rs : List Row) (r : Row), vs = [.ref t, .ref a] ∧ TreeAt C H t rs ∧ Seq H a (rowVs r) ∧ Fits rs r ∧ rs.length + 1 ≤ 100 ∧ ∀ x H', Same H H' → TreeAt C H' x (rs ++ [r]) → Q (.ref x) H'
def spLess (C : Addr) : Sp := fun vs H Q _ => ∃ (t : Addr) (z : Str) (rs : List Row), vs = [.ref t, .str z] ∧ TreeAt C H t rs ∧ z ∈ names rs ∧ ∀ x H', Same H H' → TreeAt C H' x (lessL rs z) → Q (.ref x) H'
def spMoved (C : Addr) : Sp := fun vs H Q _ => ∃ (t : Addr) (m : Row) (fo : Str) (rs : List Row), vs = [.ref t, .str m.nm, .str fo] ∧ TreeAt C H t rs ∧ m ∈ rs ∧ (fo = ("top" : Str) ∨ ∃ q ∈ rs, q.nm = fo ∧ q.ki = ("folder" : Str) ∧ under rs m.nm q = false) ∧ ∀ x H', Same H H' → TreeAt C H' x (movedL rs m fo) → Q (.ref x) H'
section
variable {P : Program} {w : World} {K : PySem.W.Frag} {mg : Str → Option Value} {base : Heap} {C : Addr}
theorem sc_Tree_more : FnScope ["self", "row"] ["self", "row"] (defScope s_Tree_more) := ⟨rfl, rfl, rfl, by decide +kernel, rfl, by decide +kernel, by decide +kernel⟩
theorem ok_Tree_more {f fT : Addr} {fd fdT : FuncData} (F : Fun K "more" "Tree.more" s_Tree_more f fd) (mR : MethAt K C "rows" "Tree.rows" s_Tree_rows ["self"]) (B : TxB mg) (T : TxT K mg C)
    (MT : Mk K C fT) (bT : Binds K fdT ["self", "rows"] []) (GT : FnOk P w K mg base CX0 5 fT fdT ["self", "rows"] (spTreeInit C)) : FnOk P w K mg base CX0 7 f fd ["self", "row"] (spMore C) := by
  have GR : FnOk P w K mg base CX0 2 mR.f mR.fd ["self"] (spRowsM C) := ok_Tree_rows mR.F B T
  refine F.ok sc_Tree_more (fun vs H Q E h => ?_) (fun cdv A outer s H vs Q E hr h => ?_)
  · obtain ⟨t, a, rs, r, rfl, _⟩ := h
    rfl
  · obtain ⟨t, a, rs, r, rfl, ht, ha, hf, hl, hq⟩ := h
    obtain ⟨dx, q, f, k, p, qs, h1, h2, h3, h4, h5, h6⟩ := ht.ex
    refine ⟨_, pss_one (ps_ret (pe_make MT GT hr rfl T.g bT .nil pass0 (pa_cons (pe_op op_cat (pe_meth0 (pv 0) T.cl mR.m GR (hr.mono (by decide)) mR.b .nil pass0) (pe_lst (pa_cons (pv 1) pa_nil))) pa_nil))), ?_⟩
    have noR : (tf q f k p).lookup ("rows" : Str) = none := tf_no _ _ _ _ (by decide +kernel) (by decide +kernel) (by decide +kernel) (by decide +kernel)
    refine ⟨_, rfl, t, dx, _, rfl, h1, noR, t, rs, rfl, ht, fun l qs2 hl' hq2 => ⟨_, rfl, (by show 1 ≤ sizeLine; decide), fun l2 hl2 => ?_⟩⟩
    have s1 := (Same.new (o := .lst (qs2.map V.ref)) hl').trans (Same.new (o := .lst [V.ref a]) hl2)
    refine ⟨l, l2, _, _, rfl, rfl, (Same.new hl2) _ _ upd_same, upd_same, szl (by rw [List.length_map, hq2.len]; show _ + 1 ≤ 1000; omega), fun l3 hl3 => ?_⟩
    have s2 := s1.trans (Same.new (o := .lst (qs2.map V.ref ++ [V.ref a])) hl3)
    intro x d nx nd _
    have s3 := mk_same0 (C := C) nx nd
    have hl3' : (upd (upd (upd H l (.lst (qs2.map V.ref))) l2 (.lst [V.ref a])) l3 (.lst (qs2.map V.ref ++ [V.ref a]))) l3 = some (.lst ((qs2 ++ [a]).map V.ref)) := by rw [upd_same, List.map_append]; rfl
    exact ⟨x, d, l3, qs2 ++ [a], rs ++ [r], rfl, upd_same, .inr (s3 _ _ hl3'), (SeqRows.snoc (hq2.same s2).seq (ha.same s2)).same s3, by rw [List.length_append]; exact hl, ht.val.snoc hf, fun H' sb tr => ⟨rfl, hq x H' (s2.trans (mk_same nx nd sb)) tr⟩⟩
end
end Ts

set_option maxRecDepth 100000
set_option maxHeartbeats 4000000
namespace Ts
open PySem L2
def spCheckRowsD (K : PySem.W.Frag) : Sp := fun vs H Q _ => ∃ (rw nm fo : Addr) (g : Row → V) (bs : List Row) (hs : List Str) (as : List Addr) (rs : List Row), vs = [.ref rw, .ref nm, .ref fo] ∧ Seq H rw (as.map V.ref) ∧ SeqRows H as rs ∧ H nm = some (.dK (kvF g bs)) ∧ SqT K H fo (hs.map V.str) ∧ rs.length ≤ 100 ∧ bs.length ≤ 100 ∧ hs.length ≤ 100 ∧
  (∀ i r, rs[i]? = some r → FitsB (names bs) hs (rs.take i) r) ∧ ∀ H', Same H H' → Q .non H'
section
variable {P : Program} {w : World} {K : PySem.W.Frag} {mg : Str → Option Value} {base : Heap}
theorem ok_check_rowsD (D : DefAt K mg "check_rows" s_check_rows ["rows", "names", "folders"]) (Dr : DefAt K mg "is_row" s_is_row ["thing", "taken", "homes"]) (Dn : DefAt K mg "is_name" s_is_name ["thing"]) (Dp : DefAt K mg "is_price" s_is_price ["thing"]) (B : TxB mg) (C : TxC K mg) :
    FnOk P w K mg base CX0 4 D.f D.fd ["rows", "names", "folders"] (spCheckRowsD K) := by
  have Gr : FnOk P w K mg base CX0 3 Dr.f Dr.fd ["thing", "taken", "homes"] spIsRow := ok_is_row Dr Dn Dp B C
  obtain ⟨t1, gF⟩ := C.folder
  refine D.F.ok sc_check_rows (fun vs H Q E h => ?_) (fun cdv A outer s H vs Q E hr h => ?_)
  · obtain ⟨rw, nm, fo, g, bs, hs, as, rs, rfl, _⟩ := h
    rfl
  · obtain ⟨rw, nm, fo, g, bs, hs, as, rs, rfl, hrw, hrows, hnm, hfo, hl, hln', hlh, hfit, hq⟩ := h
    obtain ⟨ns, ens⟩ : ∃ ns, ns = names bs := ⟨_, rfl⟩
    have hln : ns.length ≤ 100 := by rw [ens]; unfold names; rw [List.length_map]; exact hln'
    rw [← ens] at hfit
    have hu := hu_of hr
    refine ⟨_, pss_cons (ps_if (pt_not (pt_val (pe_callB call_isiT (by rfl) B.isinstance (by decide +kernel) (pa_cons (pv 0) (pa_cons (pe_tup (pa_cons (pe_bltn (by rfl) B.list (by decide +kernel) (v := .ty "list") rfl) (pa_cons (pe_bltn (by rfl) B.tuple (by decide +kernel) (v := .ty "tuple") rfl) pa_nil))) pa_nil))))) (pss_one ps_never) pss_nil)
      (pss_cons (ps_lock (ps_setDc (i := 3) (own := [("name", 7)]) (g := gName 7) (tt := tYes) rfl sc_check_rows.nd rfl rfl (swd_true rfl rfl rfl (by decide +kernel)) (pi_keys (pv 1)) (blkOk_by (N := nCheckRows) (sc := defScope s_check_rows) (by decide +kernel))
        (fun _ _ _ _ _ => pg_name (i := 7) sc_check_rows.nd rfl (Or.inl rfl)) (fun _ _ _ _ _ => pts_nil) (fun _ _ _ _ _ => pv 7) (fun _ _ _ _ _ => pe_bl)))
      (pss_cons (ps_setDc (i := 4) (own := [("folder", 8)]) (g := gName 8) (tt := tYes) rfl sc_check_rows.nd rfl rfl (swd_true rfl rfl rfl (by decide +kernel)) (pi_tup (pv 2)) (blkOk_by (N := nCheckRows) (sc := defScope s_check_rows) (by decide +kernel))
        (fun _ _ _ _ _ => pg_name (i := 8) sc_check_rows.nd rfl (Or.inl rfl)) (fun _ _ _ _ _ => pts_nil) (fun _ _ _ _ _ => pv 8) (fun _ _ _ _ _ => pe_bl))
      (pss_one (ps_for PassesOwn.never rfl (pi_enumS (by rfl) B.enumerate (pv 0)) (pg_tup rfl (pgs_cons (pg_name (i := 5) sc_check_rows.nd rfl (.inl rfl)) (pgs_cons (pg_name (i := 6) sc_check_rows.nd rfl (.inl rfl)) pgs_nil)))
        (pss_cons (ps_if (pt_not (pt_val (pe_call Gr hr rfl Dr.g Dr.F.kp Dr.b .nil pass0 (pa_cons (pv 6) (pa_cons (pv 3) (pa_cons (pv 4) pa_nil)))))) (pss_one ps_never) pss_nil)
        (C8.pss_cut (ps_asg (pv 6) (pg_or (pg_tup rfl (pgs_cons (pg_name (i := 7) sc_check_rows.nd rfl (.inl rfl)) (pgs_cons (pg_name (i := 8) sc_check_rows.nd rfl (.inl rfl)) (pgs_cons (pg_name (i := 9) sc_check_rows.nd rfl (.inl rfl)) (pgs_cons (pg_name (i := 10) sc_check_rows.nd rfl (.inl rfl)) pgs_nil)))))
          (pg_unl rfl (pgs_cons (pg_name (i := 7) sc_check_rows.nd rfl (.inl rfl)) (pgs_cons (pg_name (i := 8) sc_check_rows.nd rfl (.inl rfl)) (pgs_cons (pg_name (i := 9) sc_check_rows.nd rfl (.inl rfl)) (pgs_cons (pg_name (i := 10) sc_check_rows.nd rfl (.inl rfl)) pgs_nil)))))))
        (pss_cons (ps_dput hu (pv 3) (pv 7) pe_bl rfl)
        (pss_one (ps_if (pt_cmpR op_eq (pv 9) (pe_glob (by rfl) gF (v := .str ("folder" : Str)) ⟨_, rfl⟩) (nomark _)) (pss_one (ps_dput hu (pv 4) (pv 7) pe_bl rfl)) pss_nil)))))))))
      , ?_⟩
    refine ⟨_, rfl, (by show 2 ≤ sizeLine; decide), fun tp htp => ?_⟩
    have s1 : Same H (upd H tp (.tup [.ty "list", .ty "tuple"])) := Same.new htp
    obtain ⟨t, ty, kk⟩ := (hrw.same s1).ty (K := K)
    refine ⟨_, tp, _, t, _, true, rfl, upd_same, .cons (.ty "list") (.cons (.ty "tuple") .nil), ty, kk, _, rfl, iteF ?_⟩
    generalize upd H tp (.tup [.ty "list", .ty "tuple"]) = H1 at s1 ty
    have dict : ∀ (l : List Str) (td : Addr) (H1 H' : Hp) (i : Nat) (x : V), (l.map V.str)[i]? = some x → MemD H' td (l.take i) → ∃ (z : Str) (kv : List (Key × V)), x = .str z ∧ l[i]? = some z ∧ H' td = some (.dK kv) ∧ (∀ z : Str, (valV kv (.inr z : Key)).isSome = decide (z ∈ l.take i)) ∧ kv.length ≤ (l.take i).length := by
      intro l td H1 H' i x hx m
      rw [List.getElem?_map] at hx
      obtain ⟨z, hz, rfl⟩ := Option.map_eq_some_iff.mp hx
      obtain ⟨kv, e1, e2, e3⟩ := m.ex
      exact ⟨z, kv, rfl, hz, e1, e2, e3⟩
    have hnm1 := s1 _ _ hnm
    refine ⟨nm, _, hnm1, trivial, fun od => ?_⟩
    obtain ⟨Hl, El⟩ : ∃ Hx, Hx = upd H1 nm (.frz od (.dK (kvF g bs))) := ⟨_, rfl⟩
    have l2 : Hl nm = some (.frz od (.dK (kvF g bs))) := by rw [El]; exact upd_same
    have l4 : ∀ b o, b ≠ nm → H1 b = some o → Hl b = some o := fun b o nb e => by rw [El, upd_ne nb]; exact e
    have l5 : ∀ b, Hl b = none → H1 b = none := fun b e => by
      by_cases h : b = nm
      · rw [h, l2] at e; cases e
      · rw [El, upd_ne h] at e; exact e
    rw [← El]
    clear El
    refine ⟨_, rfl, nm, od, rfl, .inl ⟨_, l2, fun td htd => ?_⟩⟩
    refine dc_it (walk_keys (d := nm) (o := od) (kvs := kvF g bs)) (fun i H' => Same Hl H' ∧ MemD H' td (ns.take i)) ⟨Same.new htd, [], upd_same, fun z => rfl, Nat.le_refl _⟩ (fun i H' _ m => m.1 _ _ l2) ?_ ?_
    · rintro i x H' H'' hi ⟨sm, m⟩ ⟨rfl, k', v', hk, rfl⟩
      obtain ⟨r, hr', rfl, rfl⟩ := kvF_at hk
      have hz : ns[i]? = some r.nm := by rw [ens]; unfold names; rw [List.getElem?_map, hr']; rfl
      obtain ⟨kv, e1, e2, e3⟩ := m.ex
      refine ⟨rfl, tYes_if ⟨_, rfl, kv, .inr r.nm, rfl, e1, small1000 (by rw [List.length_take] at e3; omega), fun b o e => ?_, ?_⟩⟩
      · rw [upd_ne (fun q => by rw [q, htd] at e; cases e)]
        exact sm b o e
      · rw [take_more hz]
        exact MemD.put e2 e3 r.nm _
    · rintro H2a ⟨sma, ma⟩
      have ekl : (kvF g bs).length = ns.length := by rw [ens]; unfold kvF names; rw [List.length_map, List.length_map]
      rw [ekl, List.take_length] at ma
      have ntd : td ≠ nm := fun y => by rw [y, l2] at htd; cases htd
      refine ⟨sma _ _ l2, ?_⟩
      have sm : Same H1 (upd H2a nm (.dK (kvF g bs))) := fun b o e => by
        by_cases h : b = nm
        · rw [h, hnm1] at e; rw [h, upd_same]; exact e
        · rw [upd_ne h]; exact sma _ _ (l4 _ _ h e)
      have m : MemD (upd H2a nm (.dK (kvF g bs))) td ns := ma.same (upd_ne ntd)
      have htd := l5 _ htd
      generalize upd H2a nm (.dK (kvF g bs)) = H2 at sm m
      have s2 := s1.trans sm
      refine ⟨_, rfl, fo, rfl, ⟨_, hfo.ext s2⟩, fun hd hhd => ?_⟩
      have nth : td ≠ hd := by obtain ⟨kv, e1, _⟩ := m.ex; exact ne_of_none e1 hhd
      refine dc_tup (K := K) (a := fo) (xs := hs.map V.str) (fun i H' => Same H2 H' ∧ MemD H' hd (hs.take i)) ⟨Same.new hhd, [], upd_same, fun z => rfl, Nat.le_refl _⟩ (fun i H' _ m => hfo.ext (s2.trans m.1)) ?_ ?_
      · rintro i x H' hx ⟨sm, m⟩
        obtain ⟨z, kv, rfl, hz, e1, e2, e3⟩ := dict hs hd H2 H' i x hx m
        refine ⟨rfl, tYes_if ⟨_, rfl, kv, .inr z, rfl, e1, small1000 (by rw [List.length_take] at e3; omega), fun b o e => ?_, ?_⟩⟩
        · rw [upd_ne (fun q => by rw [q, hhd] at e; cases e)]
          exact sm b o e
        · rw [take_more hz]
          exact MemD.put e2 e3 z _
      · rintro H3 ⟨sm3, m3⟩
        rw [List.length_map, List.take_length] at m3
        have s3 := s2.trans sm3
        have mt : MemD H3 td ns := by
          obtain ⟨kv, e1, e⟩ := m.ex
          exact ⟨kv, sm3 _ _ e1, e⟩
        have ftd : H td = none := s1.free htd
        have fhd : H hd = none := s2.free hhd
        refine ⟨rw, _, rfl, hrw.same s3, fun J W => ?_⟩
        refine for_it W (fun i σ H' => ∃ (v5 v6 v7 v8 v9 v10 : Option V), σ = [some (.ref rw), some (.ref nm), some (.ref fo), some (.ref td), some (.ref hd), v5, v6, v7, v8, v9, v10] ∧ Same H H' ∧ H' rw = H3 rw ∧ MemD H' td (ns ++ (rs.take i).map (·.nm)) ∧ MemD H' hd (hs ++ folderNames (rs.take i))) ⟨none, none, none, none, none, none, rfl, s3, rfl, by simpa using mt, by simpa [folderNames] using m3⟩ (fun i σ H' _ ⟨_, _, _, _, _, _, _, _, e, _⟩ => e) ?_ ?_
        · rintro i x σ H4 H5 hi ⟨v5, v6, v7, v8, v9, v10, rfl, s4, e4, mt, mh⟩ ⟨T, xi, xr, rfl, hT, rfl, exi, exr⟩
          rw [List.length_map] at hi
          have exr' : (as.map V.ref)[i]? = some xr := exr
          rw [List.getElem?_map] at exr'
          obtain ⟨ra, hra, rfl⟩ := Option.map_eq_some_iff.mp exr'
          obtain ⟨r, hr'⟩ : ∃ r, rs[i]? = some r := ⟨rs[i]'(by rw [← hrows.len]; exact hi), List.getElem?_eq_getElem _⟩
          have fit := hfit i r hr'
          obtain rfl := Option.some.inj exi
          have s5 : Same H (upd H4 T (.tup [.int (i : Nat), .ref ra])) := s4.trans (Same.new hT)
          have rr : Seq (upd H4 T (.tup [.int (i : Nat), .ref ra])) ra (rowVs r) := Seq.same (hrows.at_ i ra r hra hr') s5
          obtain ⟨kt, et, pt, lt⟩ := mt.ex
          obtain ⟨kh, eh, ph, lh⟩ := mh.ex
          have nt : td ≠ T := ne_of_none et hT
          have nh : hd ≠ T := ne_of_none eh hT
          have i100 : i < 100 := by rw [← hrows.len] at hl; omega
          refine ⟨T, _, rfl, sqT upd_same, rfl, _, _, rfl, _, _, rfl, rfl, ?_⟩
          refine ⟨_, rfl, _, rfl, _, rfl, ra, td, hd, r, kt, kh, rfl, rr, by rw [upd_ne nt]; exact et, ?_, by rw [upd_ne nh]; exact eh, ?_, fit.shape, fit.top, fit.kind, fit.price, fun H6 s6 => ?_⟩
          · have q := pt r.nm
            rw [decide_eq_false fit.new] at q
            simpa using q
          · rw [ph r.fo]
            exact decide_eq_true fit.home
          refine ⟨_, rfl, iteF ?_⟩
          refine ⟨fun σ' H' => σ' = [some (.ref rw), some (.ref nm), some (.ref fo), some (.ref td), some (.ref hd), some (.int (i : Nat)), some (.ref ra), some (.str r.nm), some (.str r.fo), some (.str r.ki), some (prV r.pr)] ∧ H' = H6, ?_, ?_⟩
          · refine ⟨_, rfl, ?_⟩
            rcases rr.same s6 with un | un
            · exact .inl ⟨ra, _, rfl, sqT un, rfl, _, _, rfl, _, _, rfl, _, _, rfl, _, _, rfl, rfl, rfl, rfl⟩
            · exact .inr ⟨ra, _, rfl, SqL.of un, rfl, _, _, rfl, _, _, rfl, _, _, rfl, _, _, rfl, rfl, rfl, rfl⟩
          rintro σ' H' ⟨rfl, rfl⟩
          have et6 : H' td = some (.dK kt) := s6 _ _ (by rw [upd_ne nt]; exact et)
          have eh6 : H' hd = some (.dK kh) := s6 _ _ (by rw [upd_ne nh]; exact eh)
          have lt' : kt.length ≤ 300 := by
            rw [List.length_append, List.length_map, List.length_take] at lt; omega
          have lh' : kh.length ≤ 300 := by
            have := folders_le (rs.take i)
            rw [List.length_take] at this
            rw [List.length_append] at lh; omega
          refine ⟨_, rfl, _, rfl, td, _, rfl, DPut.k (k := Sum.inr r.nm) et6 (small1000 (by omega)), ?_⟩
          have s7 : Same H (upd H' td (.dK (putK kt (.inr r.nm) (.bl true)))) := fun b o e => by
            rw [upd_ne (fun q => by rw [q, ftd] at e; cases e)]
            exact s6 _ _ (s5 b o e)
          have mt7 : ns ++ (rs.take (i + 1)).map (·.nm) = ns ++ (rs.take i).map (·.nm) ++ [r.nm] := by rw [take_more hr', List.map_append, List.append_assoc]; rfl
          have mT : MemD (upd H' td (.dK (putK kt (.inr r.nm) (.bl true)))) td (ns ++ (rs.take (i + 1)).map (·.nm)) := by rw [mt7]; exact MemD.put pt lt _ _
          have rw4 : H4 rw = some (.tup (as.map V.ref)) ∨ H4 rw = some (.lst (as.map V.ref)) := hrw.same s4
          have keep : ∀ {b : Addr} {o : HO}, H4 b = some o → b ≠ td → (upd H' td (.dK (putK kt (.inr r.nm) (.bl true)))) b = some o := fun {b o} e nb => by
            rw [upd_ne nb]
            exact s6 _ _ (by rw [upd_ne (ne_of_none e hT)]; exact e)
          have ert : rw ≠ td := fun q => by rcases rw4 with z | z <;> (rw [q, et] at z; cases z)
          have erh : rw ≠ hd := fun q => by rcases rw4 with z | z <;> (rw [q, eh] at z; cases z)
          have erw : (upd H' td (.dK (putK kt (.inr r.nm) (.bl true)))) rw = H3 rw := by
            rw [← e4]
            rcases rw4 with z | z <;> (rw [z]; exact keep z ert)
          refine ⟨_, rfl, rfl, _, rfl, ?_⟩
          refine ite2 (fun hk => ?_) (fun hk => ?_)
          · have hk' : r.ki = ("folder" : Str) := V.str.inj (of_decide_eq_true hk)
            refine ⟨_, rfl, _, rfl, hd, _, rfl, DPut.k (k := Sum.inr r.nm) (Eq.trans (upd_ne nth.symm) eh6) (small1000 (by omega)), ?_⟩
            refine ⟨_, _, _, _, _, _, rfl, fun b o e => ?_, ?_, mT.same (upd_ne nth), ?_⟩
            · rw [upd_ne (fun q => by rw [q, fhd] at e; cases e)]
              exact s7 b o e
            · rw [upd_ne erh]; exact erw
            · rw [fold_take hr', if_pos hk', ← List.append_assoc]
              exact MemD.put ph lh _ _
          · have hk' : ¬ r.ki = ("folder" : Str) := fun q => hk (decide_eq_true (by rw [q]))
            refine ⟨_, _, _, _, _, _, rfl, s7, erw, mT, ?_⟩
            rw [fold_take hr', if_neg hk', List.append_nil]
            exact ⟨kh, Eq.trans (upd_ne nth.symm) eh6, ph, lh⟩
        · rintro σ H4 ⟨v5, v6, v7, v8, v9, v10, rfl, s4, _⟩
          exact hq _ s4
end
end Ts

set_option maxRecDepth 100000
set_option maxHeartbeats 4000000
namespace Ts
open PySem L2
/-- a shut folder that has been loaded -/
def loadR (z : Str) (r : Row) : Row := if r.nm = z then { r with ki := "folder" } else r
theorem loadR_nm (z : Str) (r : Row) : (loadR z r).nm = r.nm := by unfold loadR; split <;> rfl
theorem loadR_fo (z : Str) (r : Row) : (loadR z r).fo = r.fo := by unfold loadR; split <;> rfl
theorem loadR_pr (z : Str) (r : Row) : (loadR z r).pr = r.pr := by unfold loadR; split <;> rfl
def openedL (rs : List Row) (z : Str) (L : List Row) : List Row := rs.map (loadR z) ++ L
theorem load_names (z : Str) (rs : List Row) : (rs.map (loadR z)).map (·.nm) = rs.map (·.nm) := by
  rw [List.map_map]
  exact List.map_congr_left fun r _ => loadR_nm z r
theorem load_valid {rs : List Row} (h : Valid rs) (z : Str) : Valid (rs.map (loadR z)) := by
  intro i r hr
  rw [List.getElem?_map] at hr
  obtain ⟨r0, h0, rfl⟩ := Option.map_eq_some_iff.mp hr
  have f := h i r0 h0
  rw [← List.map_take]
  refine ⟨by rw [loadR_nm]; exact f.shape, by rw [loadR_nm]; exact f.top, by rw [loadR_nm, load_names]; exact f.new, ?_, ?_, by rw [loadR_pr]; exact f.price⟩
  · rw [loadR_fo]
    rcases f.home with e | ⟨q, hq, e1, e2⟩
    · exact .inl e
    · refine .inr ⟨loadR z q, List.mem_map.mpr ⟨q, hq, rfl⟩, by rw [loadR_nm]; exact e1, ?_⟩
      unfold loadR
      split
      · rfl
      · exact e2
  · unfold loadR
    split
    · show ("folder" : Str) ∈ kinds3
      exact List.mem_cons_self ..
    · exact f.kind
theorem opened_valid {rs : List Row} (h : Valid rs) {b : Row} (hb : b ∈ rs) {L : List Row} (k : ∀ i r, L[i]? = some r → FitsB (names rs) [b.nm] (L.take i) r) : Valid (openedL rs b.nm L) := by
  refine (load_valid h b.nm).append fun i r hr => ?_
  have f := k i r hr
  refine ⟨f.shape, f.top, ?_, ?_, f.kind, f.price⟩
  · rw [List.map_append, load_names]
    exact f.new
  · rcases List.mem_append.mp f.home with e | e
    · refine .inr ⟨loadR b.nm b, List.mem_append_left _ (List.mem_map.mpr ⟨b, hb, rfl⟩), ?_, ?_⟩
      · rw [loadR_nm]
        exact (List.mem_singleton.mp e).symm
      · unfold loadR
        rw [if_pos rfl]
    · obtain ⟨q, hq, e1⟩ := List.mem_map.mp e
      obtain ⟨q1, q2⟩ := List.mem_filter.mp hq
      exact .inr ⟨q, List.mem_append_right _ q1, e1, of_decide_eq_true q2⟩
def spOpened (C : Addr) : Sp := fun vs H Q _ => ∃ (t rw : Addr) (b : Row) (rs : List Row) (as : List Addr) (L : List Row), vs = [.ref t, .str b.nm, .ref rw] ∧ TreeAt C H t rs ∧ b ∈ rs ∧ b.ki = ("shut" : Str) ∧ Seq H rw (as.map V.ref) ∧ SeqRows H as L ∧ rs.length + L.length ≤ 100 ∧ (∀ i r, L[i]? = some r → FitsB (names rs) [b.nm] (L.take i) r) ∧ ∀ x H', Same H H' → TreeAt C H' x (openedL rs b.nm L) → Q (.ref x) H'
section
variable {P : Program} {w : World} {K : PySem.W.Frag} {mg : Str → Option Value} {base : Heap} {C : Addr}
abbrev nOpened : List Str := ["self", "box", "rows", "loaded", "ahead", "row"]
theorem sc_Tree_opened : FnScope nOpened ["self", "box", "rows"] (defScope s_Tree_opened) := ⟨rfl, rfl, rfl, by decide +kernel, rfl, by decide +kernel, by decide +kernel⟩
theorem ok_Tree_opened {f fT : Addr} {fd fdT : FuncData} (F : Fun K "opened" "Tree.opened" s_Tree_opened f fd) (Db : DefAt K mg "check_box" s_check_box ["tree", "thing"]) (Gb : FnOk P w K mg base CX0 3 Db.f Db.fd ["tree", "thing"] (spBox C))
    (Dc : DefAt K mg "check_rows" s_check_rows ["rows", "names", "folders"]) (Gc : FnOk P w K mg base CX0 4 Dc.f Dc.fd ["rows", "names", "folders"] (spCheckRowsD K)) (B : TxB mg) (TC : TxC K mg) (hS : ∃ t, mg "SHUT" = some (.str "shut" t)) (T : TxT K mg C)
    (MT : Mk K C fT) (bT : Binds K fdT ["self", "rows"] []) (GT : FnOk P w K mg base CX0 5 fT fdT ["self", "rows"] (spTreeInit C)) : FnOk P w K mg base CX0 7 f fd ["self", "box", "rows"] (spOpened C) := by
  obtain ⟨t2, gF⟩ := TC.folder
  obtain ⟨t3, gS⟩ := hS
  refine F.ok sc_Tree_opened (fun vs H Q E h => ?_) (fun cdv A outer s H vs Q E hr h => ?_)
  · obtain ⟨t, rw, b, rs, as, L, rfl, _⟩ := h
    rfl
  · obtain ⟨t, rw, b, rs, as, L, rfl, ht, hb, hsh, hrw, hrows, hl, hfit, hq⟩ := h
    have hu := hu_of hr
    have hv := ht.val
    have l100 := ht.len
    have hz : b.nm ∈ names rs := List.mem_map.mpr ⟨b, hb, rfl⟩
    obtain ⟨dx, q, f, k, p, qs, h1, h2, h3, h4, h5, h6⟩ := ht.ex
    refine ⟨_, pss_cons (ps_expr (pe_call Gb (hr.mono (by decide)) rfl Db.g Db.F.kp Db.b .nil pass0 (pa_cons (pv 0) (pa_cons (pv 1) pa_nil))))
      (pss_cons (ps_if (pt_cmpR op_ne (pe_dget hu (pe_fld (pv 0) rfl) (pv 1) (fun _ _ => rfl)) (pe_glob (by rfl) gS (v := .str ("shut" : Str)) ⟨_, rfl⟩) (nomark _)) (pss_one ps_never) pss_nil)
      (pss_cons (ps_expr (pe_call Gc (hr.mono (by decide)) rfl Dc.g Dc.F.kp Dc.b .nil pass0 (pa_cons (pv 2) (pa_cons (pe_fld (pv 0) rfl) (pa_cons (pe_tup (pa_cons (pv 1) pa_nil)) pa_nil)))))
      (pss_cons (ps_set (i := 3) sc_Tree_opened.nd rfl (.inr rfl) (pe_tup (pa_cons (pv 1) (pa_cons (pe_dget hu (pe_fld (pv 0) rfl) (pv 1) (fun _ _ => rfl)) (pa_cons (pe_glob (by rfl) gF (v := .str ("folder" : Str)) ⟨_, rfl⟩) (pa_cons (pe_dget hu (pe_fld (pv 0) rfl) (pv 1) (fun _ _ => rfl)) pa_nil))))))
      (pss_cons (ps_setLc (i := 4) (own := [("row", 5)]) (g := gName 5) (tt := tYes) (te := tIf (tTest (tOp rEq (tOp (rIxT K) (tVar 5) (tC (.int 0))) (tVar 1))) (tVar 3) (tVar 5)) rfl sc_Tree_opened.nd rfl rfl (sw_true rfl rfl rfl (by decide +kernel)) (pi_tup (pe_fld (pv 0) rfl)) (blkOk_by (N := nOpened) (sc := defScope s_Tree_opened) (by decide +kernel))
        (fun _ _ _ _ _ => pg_name (i := 5) sc_Tree_opened.nd rfl (Or.inl rfl)) (fun _ _ _ _ _ => pts_nil) (fun _ _ _ _ _ => by exact pe_ifExp (pt_cmpR op_eq (pe_ix ix_tup (pv 5) pe_int (fun _ _ => rfl)) (pv 1) (nomark _)) (pv 3) (pv 5)))
      (pss_one (ps_ret (pe_make MT GT hr rfl T.g bT .nil pass0 (pa_cons (pe_op op_cat (pv 4) (pe_callTy (T := "list") call_list_of (by rfl) B.list (by decide +kernel) (pa_cons (pv 2) pa_nil))) pa_nil)))))))), ?_⟩
    obtain ⟨j, hj, ej⟩ := List.mem_iff_getElem.mp hb
    have ro := rowOf_at hv (i := j) (r := b) (by rw [← ej]; exact List.getElem?_eq_getElem hj)
    refine ⟨_, rfl, _, rfl, t, b.nm, rs, rfl, ht, hz, ?_⟩
    have dgk := DGet.k (k := Sum.inr b.nm) h5
    rw [valV_kvF, show (rs.find? fun q => decide (q.nm = b.nm)) = some b from ro] at dgk
    refine ⟨_, rfl, t, C, dx, _, _, rfl, h1, T.cl, T.nk, tf_k _ _ _ _, _, rfl, k, _, rfl, dgk, rfl, _, rfl, ?_⟩
    rw [decide_eq_true (congrArg V.str hsh)]
    refine iteF ?_
    refine ⟨_, rfl, _, rfl, t, C, dx, _, _, rfl, h1, T.cl, T.nk, tf_k _ _ _ _, _, rfl, (by show 1 ≤ sizeLine; decide), fun u hu' => ?_⟩
    have s1 : Same H (upd H u (.tup [V.str b.nm])) := Same.new hu'
    refine ⟨rw, k, u, _, rs, [b.nm], as, L, rfl, hrw.same s1, hrows.same s1, s1 _ _ h5, sqT upd_same, by omega, by omega, (by show 1 ≤ 100; decide), hfit, fun H1 s2 => ?_⟩
    have sA := s1.trans s2
    have dgf := DGet.k (k := Sum.inr b.nm) (sA _ _ h4)
    rw [valV_kvF, show (rs.find? fun q => decide (q.nm = b.nm)) = some b from ro] at dgf
    have dgp := DGet.k (k := Sum.inr b.nm) (sA _ _ h6)
    rw [valV_kvF, show (rs.find? fun q => decide (q.nm = b.nm)) = some b from ro] at dgp
    refine ⟨_, rfl, _, rfl, t, C, dx, _, _, rfl, sA _ _ h1, T.cl, T.nf, tf_f _ _ _ _, _, rfl, f, _, rfl, dgf, _, rfl, t, C, dx, _, _, rfl, sA _ _ h1, T.cl, T.np, tf_p _ _ _ _, _, rfl, p, _, rfl, dgp, (by show 4 ≤ sizeLine; decide), fun ld hld => ?_⟩
    have sB := sA.trans (Same.new (o := .tup [V.str b.nm, .str b.fo, .str ("folder" : Str), prV b.pr]) hld)
    have eB : (upd H1 ld (.tup [V.str b.nm, .str b.fo, .str ("folder" : Str), prV b.pr])) ld = some (.tup (rowVs (loadR b.nm b))) := by
      rw [upd_same]; unfold loadR; rw [if_pos rfl]; rfl
    generalize upd H1 ld (.tup [V.str b.nm, .str b.fo, .str ("folder" : Str), prV b.pr]) = H2 at sB eB
    refine ⟨_, rfl, t, C, dx, _, _, rfl, sB _ _ h1, T.cl, T.nq, tf_q _ _ _ _, q, rfl, ⟨_, sqT (sB _ _ h2)⟩, fun D hD => ?_⟩
    have r2 := h3.same sB
    refine lc_tup (K := K) (a := q) (xs := qs.map V.ref) (fun i H' => KeepI H2 H' D ((rs.take i).map (loadR b.nm))) (KeepI.nil hD) (fun i H' _ m => sqT (m.same _ _ (sB _ _ h2))) ?_ ?_
    · rintro i x H4 hx m
      obtain ⟨ra, r, rfl, hra, hr', e0⟩ := rows_at r2 hx
      have e4 := m.same _ _ e0
      have lt : ((rs.take i).map (loadR b.nm)).length ≤ 900 := by rw [List.length_map, List.length_take]; omega
      refine ⟨rfl, tYes_if ⟨_, rfl, ra, _, _, _, rfl, rfl, sqT e4, atI0 _ _ _ _, _, rfl, rfl, _, rfl, ?_⟩⟩
      rw [take_more hr', List.map_append]
      refine ite2 (fun hc => ?_) (fun hc => ?_)
      · have hc' : r.nm = b.nm := V.str.inj (of_decide_eq_true hc)
        obtain rfl := names_inj hv (List.mem_of_getElem? hr') hb hc'
        exact ⟨_, rfl, m.grow hD (Same.refl _) (m.same _ _ eB) lt⟩
      · have hc' : ¬ r.nm = b.nm := fun e => hc (decide_eq_true (by rw [e]))
        have g := m.grow (r := loadR b.nm r) hD (Same.refl _) (by unfold loadR; rw [if_neg hc']; exact e4) lt
        exact ⟨_, rfl, g⟩
    · rintro H4 m
      rw [List.length_map, h3.len, List.take_length] at m
      obtain ⟨as2, d1, d2⟩ := m.ex
      have sC := sB.trans m.same
      have lq : as2.length = rs.length := by rw [d2.len, List.length_map]
      have lL : as.length = L.length := hrows.len
      refine ⟨_, rfl, _, rfl, rw, as.map V.ref, rfl, ?_, fun l hl' => ?_⟩
      · rcases hrw.same sC with z | z
        · exact .inr (sqT z)
        · exact .inl (SqL.of z)
      have sD := sC.trans (Same.new (o := .lst (as.map V.ref)) hl')
      refine ⟨D, l, _, _, rfl, rfl, (Same.new hl') _ _ d1, upd_same, szl (by rw [List.length_map, List.length_map]; omega), fun l3 hl3 => ?_⟩
      have sE := sD.trans (Same.new (o := .lst (as2.map V.ref ++ as.map V.ref)) hl3)
      have s34 := (Same.new (o := .lst (as.map V.ref)) hl').trans (Same.new (o := .lst (as2.map V.ref ++ as.map V.ref)) hl3)
      intro x d nx nd _
      have s9 := mk_same0 (C := C) nx nd
      have e9 : (upd (upd H4 l (.lst (as.map V.ref))) l3 (.lst (as2.map V.ref ++ as.map V.ref))) l3 = some (.lst ((as2 ++ as).map V.ref)) := by rw [upd_same, List.map_append]
      have rr := SeqRows.append (d2.same s34).seq (hrows.same sE)
      exact ⟨x, d, l3, _, openedL rs b.nm L, rfl, upd_same, .inr (s9 _ _ e9), rr.same s9, by unfold openedL; rw [List.length_append, List.length_map]; exact hl, opened_valid hv hb hfit, fun H6 sb tr => ⟨rfl, hq x H6 (sE.trans (mk_same nx nd sb)) tr⟩⟩
end
end Ts

set_option maxRecDepth 100000
set_option maxHeartbeats 4000000
namespace Ts
open PySem L2
open LamX (ExtN Tabs TabB)
theorem fit_len {N F : List Str} {cs : List V} (h : cs.length ≠ 4) : fitB N F cs = false := by
  unfold fitB
  split
  · exact absurd rfl h
  · rfl
theorem inB_str {l : List Str} {x : V} (h : inB l x = true) : ∃ z, x = .str z ∧ z ∈ l := by
  cases x with
  | str z => exact ⟨z, rfl, of_decide_eq_true h⟩
  | _ => cases h
theorem nameB_str {x : V} (h : nameB x = true) : ∃ z, x = .str z ∧ nmB z = true := by
  cases x with
  | str z => exact ⟨z, rfl, h⟩
  | _ => cases h
theorem fit_inv {N F : List Str} {cs : List V} (h : fitB N F cs = true) : ∃ (z f k : Str) (d : V), cs = [.str z, .str f, .str k, d] ∧ nmB z = true ∧ z ∉ N ∧ f ∈ F ∧ k ∈ kinds3 ∧ prB d = true := by
  unfold fitB at h
  split at h
  · rename_i a b c d
    rw [Bool.and_eq_true, Bool.and_eq_true, Bool.and_eq_true, Bool.and_eq_true] at h
    obtain ⟨h1, h2, h3, h4, h5⟩ := h
    obtain ⟨z, rfl, hz⟩ := nameB_str h1
    obtain ⟨f, rfl, hf⟩ := inB_str h3
    obtain ⟨k, rfl, hk⟩ := inB_str h4
    have h2' : (!decide (z ∈ N)) = true := h2
    exact ⟨z, f, k, d, rfl, hz, by simpa using h2', hf, hk, h5⟩
  · cases h
theorem nsA_more {N : List Str} {css : List (List V)} {i : Nat} {cs : List V} (h : css[i]? = some cs) : nsA N (css.take (i + 1)) = nsA N (css.take i) ++ [nmC cs] := by
  unfold nsA
  rw [take_more h, List.map_append, List.append_assoc]; rfl
theorem fsA_more {F : List Str} {css : List (List V)} {i : Nat} {cs : List V} (h : css[i]? = some cs) : fsA F (css.take (i + 1)) = fsA F (css.take i) ++ (if foC cs = true then [nmC cs] else []) := by
  unfold fsA
  rw [take_more h, List.filter_append, List.map_append, List.append_assoc]
  by_cases e : foC cs = true
  · rw [if_pos e, List.filter_cons_of_pos e]; rfl
  · rw [if_neg e, List.filter_cons_of_neg e]; rfl
theorem fitAt_eq {N F : List Str} {css : List (List V)} {i : Nat} {cs : List V} (h : css[i]? = some cs) : fitAt N F css i = fitB (nsA N (css.take i)) (fsA F (css.take i)) cs := by
  unfold fitAt
  rw [h]
/-- rows of which one cannot stand -/
def BadX (H : Hp) (N F : List Str) (x : V) (i : Nat) : Prop := (NoSq H x ∧ i = 0) ∨ ∃ (rw : Addr) (ys : List V) (css : List (List V)), x = .ref rw ∧ Seq H rw ys ∧ ThL H ys css ∧ css.length ≤ 100 ∧ DueI N F css (some i)
theorem BadX.ext {H H' : Hp} {N F : List Str} {x : V} {i : Nat} (h : BadX H N F x i) (s : ExtN H H') : BadX H' N F x i := by
  rcases h with ⟨h, e⟩ | ⟨rw, ys, css, e, h1, h2, h3, h4⟩
  · exact .inl ⟨h.ext s, e⟩
  · exact .inr ⟨rw, ys, css, e, h1.xt s, h2.ext s, h3, h4⟩
def spCheckRowsG (K : PySem.W.Frag) (CR : Addr) : Sp := fun vs H Q E => ∃ (x : V) (nm fo : Addr) (N F : List Str) (i : Nat), vs = [x, .ref nm, .ref fo] ∧ SqT K H nm (N.map V.str) ∧ SqT K H fo (F.map V.str) ∧ N.length ≤ 100 ∧ F.length ≤ 100 ∧ BadX H N F x i ∧
  ∀ d H', H d = none → Same H H' → H' d = some (.xd [("index", .int i)]) → E (.ref CR) (some d) H'
def spCheckRowsGD (K : PySem.W.Frag) (CR : Addr) : Sp := fun vs H Q E => ∃ (x : V) (nm fo : Addr) (g : Row → V) (bs : List Row) (F : List Str) (i : Nat), vs = [x, .ref nm, .ref fo] ∧ H nm = some (.dK (kvF g bs)) ∧ SqT K H fo (F.map V.str) ∧ bs.length ≤ 100 ∧ F.length ≤ 100 ∧ BadX H (names bs) F x i ∧
  ∀ d H', H d = none → Same H H' → H' d = some (.xd [("index", .int i)]) → E (.ref CR) (some d) H'
section
variable {P : Program} {w : World} {K : PySem.W.Frag} {mg : Str → Option Value} {base : Heap} {C CN CS CR : Addr}
theorem ok_is_rowG (D : DefAt K mg "is_row" s_is_row ["thing", "taken", "homes"]) (Dn : DefAt K mg "is_name" s_is_name ["thing"]) (Dp : DefAt K mg "is_price" s_is_price ["thing"]) (B : TxB mg) (C : TxC K mg) : FnOk P w K mg base CX0 3 D.f D.fd ["thing", "taken", "homes"] spIsRowG := by
  have Gn : FnOk P w K mg base CX0 2 Dn.f Dn.fd ["thing"] spIsNameG := ok_is_nameG Dn B C
  have Gp : FnOk P w K mg base CX0 2 Dp.f Dp.fd ["thing"] spIsPriceG := ok_is_priceG Dp B C
  refine D.F.ok sc_is_row (fun vs H Q E h => ?_) (fun cdv A outer s H vs Q E hr h => ?_)
  · obtain ⟨y, d1, d2, cs, N, F, rfl, _⟩ := h
    rfl
  · obtain ⟨y, d1, d2, cs, N, F, rfl, hy, hN, hF, hq⟩ := h
    have hu := hu_of hr
    refine ⟨_, pss_cons (ps_if (PW.pt (pw_or (pt_not (pt_val (pe_callB call_isiT (by rfl) B.isinstance (by decide +kernel) (pa_cons (pv 0) (pa_cons (pe_tup (pa_cons (pe_bltn (by rfl) B.list (by decide +kernel) (v := .ty "list") rfl) (pa_cons (pe_bltn (by rfl) B.tuple (by decide +kernel) (v := .ty "tuple") rfl) pa_nil))) pa_nil)))))
        (pw_or1 (pt_cmpR op_ne (pe_callB call_len_seq (by rfl) B.len PySem.boot_len (pa_cons (pv 0) pa_nil)) pe_int (nomark _))))) (pss_one (ps_ret pe_bl)) pss_nil)
      (C8.pss_cut (ps_asg (pv 0) (pg_or (pg_tup rfl (pgs_cons (pg_name (i := 3) sc_is_row.nd rfl (.inl rfl)) (pgs_cons (pg_name (i := 4) sc_is_row.nd rfl (.inl rfl)) (pgs_cons (pg_name (i := 5) sc_is_row.nd rfl (.inl rfl)) (pgs_cons (pg_name (i := 6) sc_is_row.nd rfl (.inl rfl)) pgs_nil)))))
          (pg_unl rfl (pgs_cons (pg_name (i := 3) sc_is_row.nd rfl (.inl rfl)) (pgs_cons (pg_name (i := 4) sc_is_row.nd rfl (.inl rfl)) (pgs_cons (pg_name (i := 5) sc_is_row.nd rfl (.inl rfl)) (pgs_cons (pg_name (i := 6) sc_is_row.nd rfl (.inl rfl)) pgs_nil)))))))
      (pss_cons (ps_if (PW.pt (pw_or (pt_not (pt_val (pe_call Gn hr rfl Dn.g Dn.F.kp Dn.b .nil pass0 (pa_cons (pv 3) pa_nil)))) (pw_or1 (pt_cmp (pc_din hu (pv 3) (pv 1)))))) (pss_one (ps_ret pe_bl)) pss_nil)
      (pss_cons (ps_if (PW.pt (pw_or (pt_not (pt_val (pe_callB call_isi (by rfl) B.isinstance (by decide +kernel) (pa_cons (pv 4) (pa_cons (pe_bltn (by rfl) B.str (by decide +kernel) (v := .ty "str") rfl) pa_nil))))) (pw_or1 (pt_cmp (pc_dnotin hu (pv 4) (pv 2)))))) (pss_one (ps_ret pe_bl)) pss_nil)
      (pss_one (ps_ret (pe_and (pe_cmpR (op_inOdd hu) (pv 5) (pe_glob (by rfl) C.kinds (v := .ref C.kindsA) rfl) (by rfl)) (pe_one (pe_call Gp hr rfl Dp.g Dp.F.kp Dp.b .nil pass0 (pa_cons (pv 6) pa_nil)))))))))
      , ?_⟩
    refine ⟨_, rfl, (by show 2 ≤ sizeLine; decide), fun tp htp => ?_⟩
    have s1 : Same H (upd H tp (.tup [.ty "list", .ty "tuple"])) := Same.new htp
    rcases hy with ⟨hn, rfl⟩ | ⟨a, rfl, ha, l10, hcell⟩
    · obtain ⟨ty0, ty, kk⟩ := (hn.ext (Same.x s1)).ty (K := K)
      exact ⟨_, tp, _, ty0, _, false, rfl, upd_same, .cons (.ty "list") (.cons (.ty "tuple") .nil), ty, kk, _, rfl, iteT (hq _ s1)⟩
    obtain ⟨t, ty, kk⟩ := (ha.same s1).ty (K := K)
    refine ⟨_, tp, _, t, _, true, rfl, upd_same, .cons (.ty "list") (.cons (.ty "tuple") .nil), ty, kk, _, rfl, iteF ?_⟩
    refine ⟨_, rfl, a, _, rfl, (ha.same s1).or, rfl, _, rfl, ?_⟩
    have e2 : (!decide (V.int (cs.length : Nat) = V.int 4)) = decide (cs.length ≠ 4) := by
      by_cases h : cs.length = 4
      · rw [h]; rfl
      · rw [decide_eq_true h, decide_eq_false (fun e => h (by have := V.int.inj e; omega))]; rfl
    rw [e2]
    by_cases h4 : cs.length = 4
    · rw [decide_eq_false (fun h => h h4)]
      refine iteF ?_
      obtain ⟨c1, c2, c3, c4, rfl⟩ : ∃ c1 c2 c3 c4, cs = [c1, c2, c3, c4] := by
        match cs, h4 with
        | [c1, c2, c3, c4], _ => exact ⟨_, _, _, _, rfl⟩
      have un : SqT K (upd H tp (.tup [.ty "list", .ty "tuple"])) a [c1, c2, c3, c4] ∨ SqL K (upd H tp (.tup [.ty "list", .ty "tuple"])) a [c1, c2, c3, c4] := (ha.same s1).or.symm
      refine ⟨fun σ' H' => σ' = [some (.ref a), some (.ref d1), some (.ref d2), some c1, some c2, some c3, some c4] ∧ H' = upd H tp (.tup [.ty "list", .ty "tuple"]), ?_, ?_⟩
      · refine ⟨_, rfl, ?_⟩
        rcases un with un | un
        · exact .inl ⟨a, _, rfl, un, rfl, _, _, rfl, _, _, rfl, _, _, rfl, _, _, rfl, rfl, rfl, rfl⟩
        · exact .inr ⟨a, _, rfl, un, rfl, _, _, rfl, _, _, rfl, _, _, rfl, _, _, rfl, rfl, rfl, rfl⟩
      rintro σ' H' ⟨rfl, rfl⟩
      have hx : ∀ c ∈ [c1, c2, c3, c4], CellV (upd H tp (.tup [.ty "list", .ty "tuple"])) c := fun c hc => (hcell c hc).ext (Same.x s1)
      have hq1 : ∀ H', Same H H' → Q (.bl (nameB c1 && (!inB N c1 && (inB F c2 && (inB kinds3 c3 && prB c4))))) H' := hq
      obtain ⟨kN, eN, pN, _⟩ := hN.ex
      obtain ⟨kF, eF, pF, _⟩ := hF.ex
      refine ⟨_, rfl, c1, rfl, hx c1 (by simp), _, rfl, ?_⟩
      cases b1 : nameB c1 with
      | false =>
        rw [b1] at hq1
        exact iteT (hq1 _ s1)
      | true =>
      rw [b1] at hq1
      obtain ⟨z, rfl, hz⟩ := nameB_str b1
      refine iteF ⟨_, rfl, _, rfl, d1, _, rfl, DGet.k (k := Sum.inr z) (s1 _ _ eN), _, rfl, ?_⟩
      rw [pN]
      have hq2 : ∀ H', Same H H' → Q (.bl (!decide (z ∈ N) && (inB F c2 && (inB kinds3 c3 && prB c4)))) H' := hq1
      cases b2 : decide (z ∈ N) with
      | true =>
        rw [b2] at hq2
        exact iteT (hq2 _ s1)
      | false =>
      rw [b2] at hq2
      refine iteF ?_
      obtain ⟨ty2, hty2, k2, _, _⟩ := (hx c2 (by simp)).ty (K := K)
      refine ⟨_, rfl, _, _, _, _, isS c2, rfl, .ty "str", hty2, k2, _, rfl, ?_⟩
      have hq3 : ∀ H', Same H H' → Q (.bl (inB F c2 && (inB kinds3 c3 && prB c4))) H' := hq2
      have nostr : isS c2 = false → inB F c2 = false := fun h => by cases c2 <;> first | rfl | cases h
      cases b3 : isS c2 with
      | false =>
        rw [nostr b3] at hq3
        exact iteT (hq3 _ s1)
      | true =>
      obtain ⟨f, rfl⟩ : ∃ f, c2 = .str f := by cases c2 <;> first | exact ⟨_, rfl⟩ | cases b3
      refine iteF ⟨_, rfl, _, rfl, d2, _, rfl, DGet.k (k := Sum.inr f) (s1 _ _ eF), _, rfl, ?_⟩
      rw [pF]
      have hq4 : ∀ H', Same H H' → Q (.bl (decide (f ∈ F) && (inB kinds3 c3 && prB c4))) H' := hq3
      cases b4 : decide (f ∈ F) with
      | false =>
        rw [b4] at hq4
        exact iteT (hq4 _ s1)
      | true =>
      rw [b4] at hq4
      refine iteF ?_
      have hq5 : ∀ H', Same H H' → Q (.bl (inB kinds3 c3 && prB c4)) H' := hq4
      refine ⟨_, rfl, C.kindsA, kinds3, rfl, .inr (.inr C.kindsT), ?_⟩
      rcases hx c3 (by simp) with ⟨k, rfl, _⟩ | ho
      · refine .inl ⟨k, rfl, _, rfl, ?_⟩
        have hq6 : ∀ H', Same H H' → Q (.bl (decide (k ∈ kinds3) && prB c4)) H' := hq5
        cases b5 : decide (k ∈ kinds3) with
        | false =>
          rw [b5] at hq6
          exact iteF (hq6 _ s1)
        | true =>
          rw [b5] at hq6
          exact iteT ⟨_, rfl, c4, rfl, hx c4 (by simp), hq6 _ s1⟩
      · have n3 : inB kinds3 c3 = false := by rcases ho with rfl | ⟨i, rfl⟩ | ⟨b, rfl⟩ | ⟨a, xs, rfl, _⟩ | ⟨a, xs, rfl, _⟩ | ⟨a, xs, rfl, _⟩ <;> rfl
        rw [n3] at hq5
        exact .inr ⟨(ho.t (K := K)).1, _, rfl, iteF (hq5 _ s1)⟩
    · rw [decide_eq_true h4]
      rw [fit_len h4] at hq
      exact iteT (hq _ s1)
theorem ok_check_rowsG {fR : Addr} {fdR : FuncData} (D : DefAt K mg "check_rows" s_check_rows ["rows", "names", "folders"]) (Dr : DefAt K mg "is_row" s_is_row ["thing", "taken", "homes"]) (Dn : DefAt K mg "is_name" s_is_name ["thing"]) (Dp : DefAt K mg "is_price" s_is_price ["thing"]) (B : TxB mg) (C : TxC K mg)
    (TR : ErrT K mg CR "BadRow" "index") (iR : PySem.W.findIn K (.ref CR) "__init__" = some (some (.ref fR))) (tR : PySem.W.typeIn K (.ref fR) = some (.type "function")) (GI : FnOk P w K mg base CX0 2 fR fdR ["self", "index"] (spErr1 CR "index")) (bR : Binds K fdR ["self", "index"] []) :
    FnOk P w K mg base (L2.CX P w) 4 D.f D.fd ["rows", "names", "folders"] (spCheckRowsG K CR) := by
  have Gr : FnOk P w K mg base CX0 3 Dr.f Dr.fd ["thing", "taken", "homes"] spIsRowG := ok_is_rowG Dr Dn Dp B C
  obtain ⟨t1, gF⟩ := C.folder
  refine D.F.okX sc_check_rows (fun vs H Q E h => ?_) (fun cdv A outer s H vs Q E hr h => ?_)
  · obtain ⟨x, nm, fo, N, F, i0, rfl, _⟩ := h
    rfl
  · obtain ⟨x, nm, fo, N, F, i0, rfl, hnm, hfo, hln, hlh, hbad, hE⟩ := h
    have hu := hu_of hr
    refine ⟨_, pss_cons (ps_if (pt_not (pt_val (pe_callB call_isiT (by rfl) B.isinstance (by decide +kernel) (pa_cons (pv 0) (pa_cons (pe_tup (pa_cons (pe_bltn (by rfl) B.list (by decide +kernel) (v := .ty "list") rfl) (pa_cons (pe_bltn (by rfl) B.tuple (by decide +kernel) (v := .ty "tuple") rfl) pa_nil))) pa_nil))))) (pss_one (ps_raise rfl (takes_of rfl rfl rfl rfl) (pmk_oex TR.O iR tR GI hr bR .nil pass0 rfl TR.g (by exact pa_cons pe_int pa_nil)))) pss_nil)
      (pss_cons (ps_setDc (i := 3) (own := [("name", 7)]) (g := gName 7) (tt := tYes) rfl sc_check_rows.nd rfl rfl (swd_true rfl rfl rfl (by decide +kernel)) (pi_tup (pv 1)) (blkOk_by (N := nCheckRows) (sc := defScope s_check_rows) (by decide +kernel))
        (fun _ _ _ _ _ => pg_name (i := 7) sc_check_rows.nd rfl (Or.inl rfl)) (fun _ _ _ _ _ => pts_nil) (fun _ _ _ _ _ => pv 7) (fun _ _ _ _ _ => pe_bl))
      (pss_cons (ps_setDc (i := 4) (own := [("folder", 8)]) (g := gName 8) (tt := tYes) rfl sc_check_rows.nd rfl rfl (swd_true rfl rfl rfl (by decide +kernel)) (pi_tup (pv 2)) (blkOk_by (N := nCheckRows) (sc := defScope s_check_rows) (by decide +kernel))
        (fun _ _ _ _ _ => pg_name (i := 8) sc_check_rows.nd rfl (Or.inl rfl)) (fun _ _ _ _ _ => pts_nil) (fun _ _ _ _ _ => pv 8) (fun _ _ _ _ _ => pe_bl))
      (pss_one (ps_for PassesOwn.leaving rfl (pi_enumS (by rfl) B.enumerate (pv 0)) (pg_tup rfl (pgs_cons (pg_name (i := 5) sc_check_rows.nd rfl (.inl rfl)) (pgs_cons (pg_name (i := 6) sc_check_rows.nd rfl (.inl rfl)) pgs_nil)))
        (pss_cons (ps_if (pt_not (pt_val (pe_call Gr hr rfl Dr.g Dr.F.kp Dr.b .nil pass0 (pa_cons (pv 6) (pa_cons (pv 3) (pa_cons (pv 4) pa_nil)))))) (pss_one (ps_raise rfl (takes_of rfl rfl rfl rfl) (pmk_oex TR.O iR tR GI hr bR .nil pass0 rfl TR.g (by exact pa_cons (pv 5) pa_nil)))) pss_nil)
        (C8.pss_cut (ps_asg (pv 6) (pg_or (pg_tup rfl (pgs_cons (pg_name (i := 7) sc_check_rows.nd rfl (.inl rfl)) (pgs_cons (pg_name (i := 8) sc_check_rows.nd rfl (.inl rfl)) (pgs_cons (pg_name (i := 9) sc_check_rows.nd rfl (.inl rfl)) (pgs_cons (pg_name (i := 10) sc_check_rows.nd rfl (.inl rfl)) pgs_nil)))))
          (pg_unl rfl (pgs_cons (pg_name (i := 7) sc_check_rows.nd rfl (.inl rfl)) (pgs_cons (pg_name (i := 8) sc_check_rows.nd rfl (.inl rfl)) (pgs_cons (pg_name (i := 9) sc_check_rows.nd rfl (.inl rfl)) (pgs_cons (pg_name (i := 10) sc_check_rows.nd rfl (.inl rfl)) pgs_nil)))))))
        (pss_cons (ps_dput hu (pv 3) (pv 7) pe_bl rfl)
        (pss_one (ps_if (pt_cmpR op_eq (pv 9) (pe_glob (by rfl) gF (v := .str ("folder" : Str)) ⟨_, rfl⟩) (nomark _)) (pss_one (ps_dput hu (pv 4) (pv 7) pe_bl rfl)) pss_nil)))))))))
      , ?_⟩
    refine ⟨_, rfl, (by show 2 ≤ sizeLine; decide), fun tp htp => ?_⟩
    have s1 : Same H (upd H tp (.tup [.ty "list", .ty "tuple"])) := Same.new htp
    rcases hbad with ⟨hn, rfl⟩ | ⟨rw, ys, css, rfl, hrw, hth, hlc, hdue⟩
    · obtain ⟨ty0, ty, kk⟩ := (hn.ext (Same.x s1)).ty (K := K)
      refine ⟨_, tp, _, ty0, _, false, rfl, upd_same, .cons (.ty "list") (.cons (.ty "tuple") .nil), ty, kk, _, rfl, iteT ?_⟩
      exact rd_err1 fun d hd => hE d _ (s1.free hd) (s1.trans (Same.new hd)) upd_same
    obtain ⟨t, ty, kk⟩ := (hrw.same s1).ty (K := K)
    refine ⟨_, tp, _, t, _, true, rfl, upd_same, .cons (.ty "list") (.cons (.ty "tuple") .nil), ty, kk, _, rfl, iteF ?_⟩
    generalize upd H tp (.tup [.ty "list", .ty "tuple"]) = H1 at s1 ty
    have dict : ∀ (l : List Str) (td : Addr) (H1 H' : Hp) (i : Nat) (x : V), (l.map V.str)[i]? = some x → MemD H' td (l.take i) → ∃ (z : Str) (kv : List (Key × V)), x = .str z ∧ l[i]? = some z ∧ H' td = some (.dK kv) ∧ (∀ z : Str, (valV kv (.inr z : Key)).isSome = decide (z ∈ l.take i)) ∧ kv.length ≤ (l.take i).length := by
      intro l td H1 H' i x hx m
      rw [List.getElem?_map] at hx
      obtain ⟨z, hz, rfl⟩ := Option.map_eq_some_iff.mp hx
      obtain ⟨kv, e1, e2, e3⟩ := m.ex
      exact ⟨z, kv, rfl, hz, e1, e2, e3⟩
    refine ⟨_, rfl, nm, rfl, ⟨_, hnm.ext s1⟩, fun td htd => ?_⟩
    refine dc_tup (K := K) (a := nm) (xs := N.map V.str) (fun i H' => Same H1 H' ∧ MemD H' td (N.take i)) ⟨Same.new htd, [], upd_same, fun z => rfl, Nat.le_refl _⟩ (fun i H' _ m => hnm.ext (s1.trans m.1)) ?_ ?_
    · rintro i x H' hx ⟨sm, m⟩
      obtain ⟨z, kv, rfl, hz, e1, e2, e3⟩ := dict N td H1 H' i x hx m
      refine ⟨rfl, tYes_if ⟨_, rfl, kv, .inr z, rfl, e1, small1000 (by rw [List.length_take] at e3; omega), fun b o e => ?_, ?_⟩⟩
      · rw [upd_ne (fun q => by rw [q, htd] at e; cases e)]
        exact sm b o e
      · rw [take_more hz]
        exact MemD.put e2 e3 z _
    · rintro H2 ⟨sm, m⟩
      rw [List.length_map, List.take_length] at m
      have s2 := s1.trans sm
      refine ⟨_, rfl, fo, rfl, ⟨_, hfo.ext s2⟩, fun hd hhd => ?_⟩
      have nth : td ≠ hd := by obtain ⟨kv, e1, _⟩ := m.ex; exact ne_of_none e1 hhd
      refine dc_tup (K := K) (a := fo) (xs := F.map V.str) (fun i H' => Same H2 H' ∧ MemD H' hd (F.take i)) ⟨Same.new hhd, [], upd_same, fun z => rfl, Nat.le_refl _⟩ (fun i H' _ m => hfo.ext (s2.trans m.1)) ?_ ?_
      · rintro i x H' hx ⟨sm, m⟩
        obtain ⟨z, kv, rfl, hz, e1, e2, e3⟩ := dict F hd H2 H' i x hx m
        refine ⟨rfl, tYes_if ⟨_, rfl, kv, .inr z, rfl, e1, small1000 (by rw [List.length_take] at e3; omega), fun b o e => ?_, ?_⟩⟩
        · rw [upd_ne (fun q => by rw [q, hhd] at e; cases e)]
          exact sm b o e
        · rw [take_more hz]
          exact MemD.put e2 e3 z _
      · rintro H3 ⟨sm3, m3⟩
        rw [List.length_map, List.take_length] at m3
        have s3 := s2.trans sm3
        have mt : MemD H3 td N := by
          obtain ⟨kv, e1, e⟩ := m.ex
          exact ⟨kv, sm3 _ _ e1, e⟩
        have ftd : H td = none := s1.free htd
        have fhd : H hd = none := s2.free hhd
        obtain ⟨hi0, hok, hbd⟩ : i0 < css.length ∧ (∀ j, j < i0 → fitAt N F css j = true) ∧ fitAt N F css i0 = false := by
          cases hdue with
          | bad hi h hb => exact ⟨hi, h, hb⟩
        refine ⟨rw, _, rfl, hrw.same s3, fun J W => ?_⟩
        refine for_it W (fun i σ H' => i ≤ i0 ∧ ∃ (v5 v6 v7 v8 v9 v10 : Option V), σ = [some (.ref rw), some (.ref nm), some (.ref fo), some (.ref td), some (.ref hd), v5, v6, v7, v8, v9, v10] ∧ Same H H' ∧ H' rw = H3 rw ∧ MemD H' td (nsA N (css.take i)) ∧ MemD H' hd (fsA F (css.take i))) ⟨Nat.zero_le _, none, none, none, none, none, none, rfl, s3, rfl, by simpa [nsA] using mt, by simpa [fsA] using m3⟩ (fun i σ H' _ ⟨_, _, _, _, _, _, _, _, _, e, _⟩ => e) ?_ ?_
        · rintro i x σ H4 H5 hi ⟨hle, v5, v6, v7, v8, v9, v10, rfl, s4, e4, mt, mh⟩ ⟨T, xi, xr, rfl, hT, rfl, exi, exr⟩
          obtain rfl := Option.some.inj exi
          have hic : i < css.length := by omega
          obtain ⟨cs, hcs⟩ : ∃ cs, css[i]? = some cs := ⟨css[i]'hic, List.getElem?_eq_getElem _⟩
          have s5 : Same H (upd H4 T (.tup [.int (i : Nat), xr])) := s4.trans (Same.new hT)
          have th := (hth.at_ i xr cs exr hcs).ext (Same.x s5)
          have nt : td ≠ T := let ⟨_, e, _⟩ := mt.ex; ne_of_none e hT
          have nh : hd ≠ T := let ⟨_, e, _⟩ := mh.ex; ne_of_none e hT
          have mt5 : MemD (upd H4 T (.tup [.int (i : Nat), xr])) td (nsA N (css.take i)) := mt.same (upd_ne nt)
          have mh5 : MemD (upd H4 T (.tup [.int (i : Nat), xr])) hd (fsA F (css.take i)) := mh.same (upd_ne nh)
          have i100 : i < 100 := by omega
          refine ⟨T, _, rfl, sqT upd_same, rfl, _, _, rfl, _, _, rfl, rfl, ?_⟩
          refine ⟨_, rfl, _, rfl, _, rfl, xr, td, hd, cs, _, _, rfl, th, mt5, mh5, fun H6 s6 => ?_⟩
          by_cases q : i = i0
          · subst q
            rw [fitAt_eq hcs] at hbd
            rw [hbd]
            exact ⟨_, rfl, iteT ⟨_, rfl, rd_err1 fun d hd => hE d _ ((s5.trans s6).free hd) ((s5.trans s6).trans (Same.new hd)) upd_same⟩⟩
          have hfit := hok i (by omega)
          rw [fitAt_eq hcs] at hfit
          rw [hfit]
          refine ⟨_, rfl, iteF ?_⟩
          obtain ⟨z, f, k, pv_, rfl, hz, hzn, hf, hk, hp⟩ := fit_inv hfit
          obtain ⟨ra, rfl, rr⟩ : ∃ ra, xr = .ref ra ∧ Seq H ra [.str z, .str f, .str k, pv_] := by
            rcases hth.at_ i xr _ exr hcs with ⟨_, e⟩ | ⟨a, e, h, _⟩
            · cases e
            · exact ⟨a, e, h⟩
          have rr6 := (rr.same s5).same s6
          refine ⟨fun σ' H' => σ' = [some (.ref rw), some (.ref nm), some (.ref fo), some (.ref td), some (.ref hd), some (.int (i : Nat)), some (.ref ra), some (.str z), some (.str f), some (.str k), some pv_] ∧ H' = H6, ?_, ?_⟩
          · refine ⟨_, rfl, ?_⟩
            rcases rr6 with un | un
            · exact .inl ⟨ra, _, rfl, sqT un, rfl, _, _, rfl, _, _, rfl, _, _, rfl, _, _, rfl, rfl, rfl, rfl⟩
            · exact .inr ⟨ra, _, rfl, SqL.of un, rfl, _, _, rfl, _, _, rfl, _, _, rfl, _, _, rfl, rfl, rfl, rfl⟩
          rintro σ' H' ⟨rfl, rfl⟩
          obtain ⟨kt, et, pt, lt⟩ := mt5.ex
          obtain ⟨kh, eh, ph, lh⟩ := mh5.ex
          have et6 := s6 _ _ et
          have eh6 := s6 _ _ eh
          have lt' : kt.length ≤ 300 := by
            unfold nsA at lt
            rw [List.length_append, List.length_map, List.length_take] at lt; omega
          have lh' : kh.length ≤ 300 := by
            unfold fsA at lh
            have h1 := List.length_filter_le foC (css.take i)
            rw [List.length_take] at h1
            rw [List.length_append, List.length_map] at lh; omega
          refine ⟨_, rfl, _, rfl, td, _, rfl, DPut.k (k := Sum.inr z) et6 (small1000 (by omega)), ?_⟩
          have s7 : Same H (upd H' td (.dK (putK kt (.inr z) (.bl true)))) := fun b o e => by
            rw [upd_ne (fun q => by rw [q, ftd] at e; cases e)]
            exact s6 _ _ (s5 b o e)
          have mT : MemD (upd H' td (.dK (putK kt (.inr z) (.bl true)))) td (nsA N (css.take (i + 1))) := by rw [nsA_more hcs]; exact MemD.put pt lt _ _
          have rw4 : Seq H4 rw ys := hrw.same s4
          have ert : rw ≠ td := fun q => by
            obtain ⟨_, et4, _⟩ := mt.ex
            rcases rw4 with z | z <;> (rw [q, et4] at z; cases z)
          have erh : rw ≠ hd := fun q => by
            obtain ⟨_, eh4, _⟩ := mh.ex
            rcases rw4 with z | z <;> (rw [q, eh4] at z; cases z)
          have rw6 : H' rw = H4 rw := by
            rcases rw4 with z | z
            · rw [z]; exact s6 _ _ (by rw [upd_ne (ne_of_none z hT)]; exact z)
            · rw [z]; exact s6 _ _ (by rw [upd_ne (ne_of_none z hT)]; exact z)
          have eh7 : (upd H' td (.dK (putK kt (.inr z) (.bl true)))) hd = some (.dK kh) := by rw [upd_ne nth.symm]; exact eh6
          refine ⟨_, rfl, rfl, _, rfl, ?_⟩
          by_cases ek : k = ("folder" : Str)
          · subst ek
            rw [decide_eq_true rfl]
            refine iteT ⟨_, rfl, _, rfl, hd, _, rfl, DPut.k (k := Sum.inr z) eh7 (small1000 (by omega)), ?_⟩
            refine ⟨by omega, _, _, _, _, _, _, rfl, fun b o e => ?_, ?_, ?_, ?_⟩
            · rw [upd_ne (fun q => by rw [q, fhd] at e; cases e)]
              exact s7 b o e
            · rw [upd_ne erh, upd_ne ert, rw6]; exact e4
            · exact mT.same (upd_ne nth)
            · rw [fsA_more hcs, if_pos (show foC [V.str z, .str f, .str ("folder" : Str), pv_] = true by show decide (("folder" : Str) ∈ [("folder" : Str)]) = true; decide +kernel)]
              exact MemD.put ph lh _ _
          · rw [decide_eq_false (fun q => ek (V.str.inj q))]
            refine iteF ⟨by omega, _, _, _, _, _, _, rfl, s7, ?_, mT, ?_⟩
            · rw [upd_ne ert, rw6]; exact e4
            · rw [fsA_more hcs, if_neg (show ¬ foC [V.str z, .str f, .str k, pv_] = true by show ¬ decide (k ∈ [("folder" : Str)]) = true; simp [ek]), List.append_nil]
              exact ⟨kh, eh7, ph, lh⟩
        · rintro σ H4 ⟨hle, _⟩
          have := hth.len
          omega
theorem ok_check_rowsGD {fR : Addr} {fdR : FuncData} (D : DefAt K mg "check_rows" s_check_rows ["rows", "names", "folders"]) (Dr : DefAt K mg "is_row" s_is_row ["thing", "taken", "homes"]) (Dn : DefAt K mg "is_name" s_is_name ["thing"]) (Dp : DefAt K mg "is_price" s_is_price ["thing"]) (B : TxB mg) (C : TxC K mg)
    (TR : ErrT K mg CR "BadRow" "index") (iR : PySem.W.findIn K (.ref CR) "__init__" = some (some (.ref fR))) (tR : PySem.W.typeIn K (.ref fR) = some (.type "function")) (GI : FnOk P w K mg base CX0 2 fR fdR ["self", "index"] (spErr1 CR "index")) (bR : Binds K fdR ["self", "index"] []) :
    FnOk P w K mg base (L2.CX P w) 4 D.f D.fd ["rows", "names", "folders"] (spCheckRowsGD K CR) := by
  have Gr : FnOk P w K mg base CX0 3 Dr.f Dr.fd ["thing", "taken", "homes"] spIsRowG := ok_is_rowG Dr Dn Dp B C
  obtain ⟨t1, gF⟩ := C.folder
  refine D.F.okX sc_check_rows (fun vs H Q E h => ?_) (fun cdv A outer s H vs Q E hr h => ?_)
  · obtain ⟨x, nm, fo, g, bs, F, i0, rfl, _⟩ := h
    rfl
  · obtain ⟨x, nm, fo, g, bs, F, i0, rfl, hnm, hfo, hln', hlh, hbad, hE⟩ := h
    obtain ⟨N, eN⟩ : ∃ N, N = names bs := ⟨_, rfl⟩
    have hln : N.length ≤ 100 := by rw [eN]; unfold names; rw [List.length_map]; exact hln'
    rw [← eN] at hbad
    have hu := hu_of hr
    refine ⟨_, pss_cons (ps_if (pt_not (pt_val (pe_callB call_isiT (by rfl) B.isinstance (by decide +kernel) (pa_cons (pv 0) (pa_cons (pe_tup (pa_cons (pe_bltn (by rfl) B.list (by decide +kernel) (v := .ty "list") rfl) (pa_cons (pe_bltn (by rfl) B.tuple (by decide +kernel) (v := .ty "tuple") rfl) pa_nil))) pa_nil))))) (pss_one (ps_raise rfl (takes_of rfl rfl rfl rfl) (pmk_oex TR.O iR tR GI hr bR .nil pass0 rfl TR.g (by exact pa_cons pe_int pa_nil)))) pss_nil)
      (pss_cons (ps_lock (ps_setDc (i := 3) (own := [("name", 7)]) (g := gName 7) (tt := tYes) rfl sc_check_rows.nd rfl rfl (swd_true rfl rfl rfl (by decide +kernel)) (pi_keys (pv 1)) (blkOk_by (N := nCheckRows) (sc := defScope s_check_rows) (by decide +kernel))
        (fun _ _ _ _ _ => pg_name (i := 7) sc_check_rows.nd rfl (Or.inl rfl)) (fun _ _ _ _ _ => pts_nil) (fun _ _ _ _ _ => pv 7) (fun _ _ _ _ _ => pe_bl)))
      (pss_cons (ps_setDc (i := 4) (own := [("folder", 8)]) (g := gName 8) (tt := tYes) rfl sc_check_rows.nd rfl rfl (swd_true rfl rfl rfl (by decide +kernel)) (pi_tup (pv 2)) (blkOk_by (N := nCheckRows) (sc := defScope s_check_rows) (by decide +kernel))
        (fun _ _ _ _ _ => pg_name (i := 8) sc_check_rows.nd rfl (Or.inl rfl)) (fun _ _ _ _ _ => pts_nil) (fun _ _ _ _ _ => pv 8) (fun _ _ _ _ _ => pe_bl))
      (pss_one (ps_for PassesOwn.leaving rfl (pi_enumS (by rfl) B.enumerate (pv 0)) (pg_tup rfl (pgs_cons (pg_name (i := 5) sc_check_rows.nd rfl (.inl rfl)) (pgs_cons (pg_name (i := 6) sc_check_rows.nd rfl (.inl rfl)) pgs_nil)))
        (pss_cons (ps_if (pt_not (pt_val (pe_call Gr hr rfl Dr.g Dr.F.kp Dr.b .nil pass0 (pa_cons (pv 6) (pa_cons (pv 3) (pa_cons (pv 4) pa_nil)))))) (pss_one (ps_raise rfl (takes_of rfl rfl rfl rfl) (pmk_oex TR.O iR tR GI hr bR .nil pass0 rfl TR.g (by exact pa_cons (pv 5) pa_nil)))) pss_nil)
        (C8.pss_cut (ps_asg (pv 6) (pg_or (pg_tup rfl (pgs_cons (pg_name (i := 7) sc_check_rows.nd rfl (.inl rfl)) (pgs_cons (pg_name (i := 8) sc_check_rows.nd rfl (.inl rfl)) (pgs_cons (pg_name (i := 9) sc_check_rows.nd rfl (.inl rfl)) (pgs_cons (pg_name (i := 10) sc_check_rows.nd rfl (.inl rfl)) pgs_nil)))))
          (pg_unl rfl (pgs_cons (pg_name (i := 7) sc_check_rows.nd rfl (.inl rfl)) (pgs_cons (pg_name (i := 8) sc_check_rows.nd rfl (.inl rfl)) (pgs_cons (pg_name (i := 9) sc_check_rows.nd rfl (.inl rfl)) (pgs_cons (pg_name (i := 10) sc_check_rows.nd rfl (.inl rfl)) pgs_nil)))))))
        (pss_cons (ps_dput hu (pv 3) (pv 7) pe_bl rfl)
        (pss_one (ps_if (pt_cmpR op_eq (pv 9) (pe_glob (by rfl) gF (v := .str ("folder" : Str)) ⟨_, rfl⟩) (nomark _)) (pss_one (ps_dput hu (pv 4) (pv 7) pe_bl rfl)) pss_nil)))))))))
      , ?_⟩
    refine ⟨_, rfl, (by show 2 ≤ sizeLine; decide), fun tp htp => ?_⟩
    have s1 : Same H (upd H tp (.tup [.ty "list", .ty "tuple"])) := Same.new htp
    rcases hbad with ⟨hn, rfl⟩ | ⟨rw, ys, css, rfl, hrw, hth, hlc, hdue⟩
    · obtain ⟨ty0, ty, kk⟩ := (hn.ext (Same.x s1)).ty (K := K)
      refine ⟨_, tp, _, ty0, _, false, rfl, upd_same, .cons (.ty "list") (.cons (.ty "tuple") .nil), ty, kk, _, rfl, iteT ?_⟩
      exact rd_err1 fun d hd => hE d _ (s1.free hd) (s1.trans (Same.new hd)) upd_same
    obtain ⟨t, ty, kk⟩ := (hrw.same s1).ty (K := K)
    refine ⟨_, tp, _, t, _, true, rfl, upd_same, .cons (.ty "list") (.cons (.ty "tuple") .nil), ty, kk, _, rfl, iteF ?_⟩
    generalize upd H tp (.tup [.ty "list", .ty "tuple"]) = H1 at s1 ty
    have dict : ∀ (l : List Str) (td : Addr) (H1 H' : Hp) (i : Nat) (x : V), (l.map V.str)[i]? = some x → MemD H' td (l.take i) → ∃ (z : Str) (kv : List (Key × V)), x = .str z ∧ l[i]? = some z ∧ H' td = some (.dK kv) ∧ (∀ z : Str, (valV kv (.inr z : Key)).isSome = decide (z ∈ l.take i)) ∧ kv.length ≤ (l.take i).length := by
      intro l td H1 H' i x hx m
      rw [List.getElem?_map] at hx
      obtain ⟨z, hz, rfl⟩ := Option.map_eq_some_iff.mp hx
      obtain ⟨kv, e1, e2, e3⟩ := m.ex
      exact ⟨z, kv, rfl, hz, e1, e2, e3⟩
    have hnm1 := s1 _ _ hnm
    refine ⟨nm, _, hnm1, trivial, fun od => ?_⟩
    obtain ⟨Hl, El⟩ : ∃ Hx, Hx = upd H1 nm (.frz od (.dK (kvF g bs))) := ⟨_, rfl⟩
    have l2 : Hl nm = some (.frz od (.dK (kvF g bs))) := by rw [El]; exact upd_same
    have l4 : ∀ b o, b ≠ nm → H1 b = some o → Hl b = some o := fun b o nb e => by rw [El, upd_ne nb]; exact e
    have l5 : ∀ b, Hl b = none → H1 b = none := fun b e => by
      by_cases h : b = nm
      · rw [h, l2] at e; cases e
      · rw [El, upd_ne h] at e; exact e
    rw [← El]
    clear El
    refine ⟨_, rfl, nm, od, rfl, .inl ⟨_, l2, fun td htd => ?_⟩⟩
    refine dc_it (walk_keys (d := nm) (o := od) (kvs := kvF g bs)) (fun i H' => Same Hl H' ∧ MemD H' td (N.take i)) ⟨Same.new htd, [], upd_same, fun z => rfl, Nat.le_refl _⟩ (fun i H' _ m => m.1 _ _ l2) ?_ ?_
    · rintro i x H' H'' hi ⟨sm, m⟩ ⟨rfl, k', v', hk, rfl⟩
      obtain ⟨r, hr', rfl, rfl⟩ := kvF_at hk
      have hz : N[i]? = some r.nm := by rw [eN]; unfold names; rw [List.getElem?_map, hr']; rfl
      obtain ⟨kv, e1, e2, e3⟩ := m.ex
      refine ⟨rfl, tYes_if ⟨_, rfl, kv, .inr r.nm, rfl, e1, small1000 (by rw [List.length_take] at e3; omega), fun b o e => ?_, ?_⟩⟩
      · rw [upd_ne (fun q => by rw [q, htd] at e; cases e)]
        exact sm b o e
      · rw [take_more hz]
        exact MemD.put e2 e3 r.nm _
    · rintro H2a ⟨sma, ma⟩
      have ekl : (kvF g bs).length = N.length := by rw [eN]; unfold kvF names; rw [List.length_map, List.length_map]
      rw [ekl, List.take_length] at ma
      have ntd : td ≠ nm := fun y => by rw [y, l2] at htd; cases htd
      refine ⟨sma _ _ l2, ?_⟩
      have sm : Same H1 (upd H2a nm (.dK (kvF g bs))) := fun b o e => by
        by_cases h : b = nm
        · rw [h, hnm1] at e; rw [h, upd_same]; exact e
        · rw [upd_ne h]; exact sma _ _ (l4 _ _ h e)
      have m : MemD (upd H2a nm (.dK (kvF g bs))) td N := ma.same (upd_ne ntd)
      have htd := l5 _ htd
      generalize upd H2a nm (.dK (kvF g bs)) = H2 at sm m
      have s2 := s1.trans sm
      refine ⟨_, rfl, fo, rfl, ⟨_, hfo.ext s2⟩, fun hd hhd => ?_⟩
      have nth : td ≠ hd := by obtain ⟨kv, e1, _⟩ := m.ex; exact ne_of_none e1 hhd
      refine dc_tup (K := K) (a := fo) (xs := F.map V.str) (fun i H' => Same H2 H' ∧ MemD H' hd (F.take i)) ⟨Same.new hhd, [], upd_same, fun z => rfl, Nat.le_refl _⟩ (fun i H' _ m => hfo.ext (s2.trans m.1)) ?_ ?_
      · rintro i x H' hx ⟨sm, m⟩
        obtain ⟨z, kv, rfl, hz, e1, e2, e3⟩ := dict F hd H2 H' i x hx m
        refine ⟨rfl, tYes_if ⟨_, rfl, kv, .inr z, rfl, e1, small1000 (by rw [List.length_take] at e3; omega), fun b o e => ?_, ?_⟩⟩
        · rw [upd_ne (fun q => by rw [q, hhd] at e; cases e)]
          exact sm b o e
        · rw [take_more hz]
          exact MemD.put e2 e3 z _
      · rintro H3 ⟨sm3, m3⟩
        rw [List.length_map, List.take_length] at m3
        have s3 := s2.trans sm3
        have mt : MemD H3 td N := by
          obtain ⟨kv, e1, e⟩ := m.ex
          exact ⟨kv, sm3 _ _ e1, e⟩
        have ftd : H td = none := s1.free htd
        have fhd : H hd = none := s2.free hhd
        obtain ⟨hi0, hok, hbd⟩ : i0 < css.length ∧ (∀ j, j < i0 → fitAt N F css j = true) ∧ fitAt N F css i0 = false := by
          cases hdue with
          | bad hi h hb => exact ⟨hi, h, hb⟩
        refine ⟨rw, _, rfl, hrw.same s3, fun J W => ?_⟩
        refine for_it W (fun i σ H' => i ≤ i0 ∧ ∃ (v5 v6 v7 v8 v9 v10 : Option V), σ = [some (.ref rw), some (.ref nm), some (.ref fo), some (.ref td), some (.ref hd), v5, v6, v7, v8, v9, v10] ∧ Same H H' ∧ H' rw = H3 rw ∧ MemD H' td (nsA N (css.take i)) ∧ MemD H' hd (fsA F (css.take i))) ⟨Nat.zero_le _, none, none, none, none, none, none, rfl, s3, rfl, by simpa [nsA] using mt, by simpa [fsA] using m3⟩ (fun i σ H' _ ⟨_, _, _, _, _, _, _, _, _, e, _⟩ => e) ?_ ?_
        · rintro i x σ H4 H5 hi ⟨hle, v5, v6, v7, v8, v9, v10, rfl, s4, e4, mt, mh⟩ ⟨T, xi, xr, rfl, hT, rfl, exi, exr⟩
          obtain rfl := Option.some.inj exi
          have hic : i < css.length := by omega
          obtain ⟨cs, hcs⟩ : ∃ cs, css[i]? = some cs := ⟨css[i]'hic, List.getElem?_eq_getElem _⟩
          have s5 : Same H (upd H4 T (.tup [.int (i : Nat), xr])) := s4.trans (Same.new hT)
          have th := (hth.at_ i xr cs exr hcs).ext (Same.x s5)
          have nt : td ≠ T := let ⟨_, e, _⟩ := mt.ex; ne_of_none e hT
          have nh : hd ≠ T := let ⟨_, e, _⟩ := mh.ex; ne_of_none e hT
          have mt5 : MemD (upd H4 T (.tup [.int (i : Nat), xr])) td (nsA N (css.take i)) := mt.same (upd_ne nt)
          have mh5 : MemD (upd H4 T (.tup [.int (i : Nat), xr])) hd (fsA F (css.take i)) := mh.same (upd_ne nh)
          have i100 : i < 100 := by omega
          refine ⟨T, _, rfl, sqT upd_same, rfl, _, _, rfl, _, _, rfl, rfl, ?_⟩
          refine ⟨_, rfl, _, rfl, _, rfl, xr, td, hd, cs, _, _, rfl, th, mt5, mh5, fun H6 s6 => ?_⟩
          by_cases q : i = i0
          · subst q
            rw [fitAt_eq hcs] at hbd
            rw [hbd]
            exact ⟨_, rfl, iteT ⟨_, rfl, rd_err1 fun d hd => hE d _ ((s5.trans s6).free hd) ((s5.trans s6).trans (Same.new hd)) upd_same⟩⟩
          have hfit := hok i (by omega)
          rw [fitAt_eq hcs] at hfit
          rw [hfit]
          refine ⟨_, rfl, iteF ?_⟩
          obtain ⟨z, f, k, pv_, rfl, hz, hzn, hf, hk, hp⟩ := fit_inv hfit
          obtain ⟨ra, rfl, rr⟩ : ∃ ra, xr = .ref ra ∧ Seq H ra [.str z, .str f, .str k, pv_] := by
            rcases hth.at_ i xr _ exr hcs with ⟨_, e⟩ | ⟨a, e, h, _⟩
            · cases e
            · exact ⟨a, e, h⟩
          have rr6 := (rr.same s5).same s6
          refine ⟨fun σ' H' => σ' = [some (.ref rw), some (.ref nm), some (.ref fo), some (.ref td), some (.ref hd), some (.int (i : Nat)), some (.ref ra), some (.str z), some (.str f), some (.str k), some pv_] ∧ H' = H6, ?_, ?_⟩
          · refine ⟨_, rfl, ?_⟩
            rcases rr6 with un | un
            · exact .inl ⟨ra, _, rfl, sqT un, rfl, _, _, rfl, _, _, rfl, _, _, rfl, _, _, rfl, rfl, rfl, rfl⟩
            · exact .inr ⟨ra, _, rfl, SqL.of un, rfl, _, _, rfl, _, _, rfl, _, _, rfl, _, _, rfl, rfl, rfl, rfl⟩
          rintro σ' H' ⟨rfl, rfl⟩
          obtain ⟨kt, et, pt, lt⟩ := mt5.ex
          obtain ⟨kh, eh, ph, lh⟩ := mh5.ex
          have et6 := s6 _ _ et
          have eh6 := s6 _ _ eh
          have lt' : kt.length ≤ 300 := by
            unfold nsA at lt
            rw [List.length_append, List.length_map, List.length_take] at lt; omega
          have lh' : kh.length ≤ 300 := by
            unfold fsA at lh
            have h1 := List.length_filter_le foC (css.take i)
            rw [List.length_take] at h1
            rw [List.length_append, List.length_map] at lh; omega
          refine ⟨_, rfl, _, rfl, td, _, rfl, DPut.k (k := Sum.inr z) et6 (small1000 (by omega)), ?_⟩
          have s7 : Same H (upd H' td (.dK (putK kt (.inr z) (.bl true)))) := fun b o e => by
            rw [upd_ne (fun q => by rw [q, ftd] at e; cases e)]
            exact s6 _ _ (s5 b o e)
          have mT : MemD (upd H' td (.dK (putK kt (.inr z) (.bl true)))) td (nsA N (css.take (i + 1))) := by rw [nsA_more hcs]; exact MemD.put pt lt _ _
          have rw4 : Seq H4 rw ys := hrw.same s4
          have ert : rw ≠ td := fun q => by
            obtain ⟨_, et4, _⟩ := mt.ex
            rcases rw4 with z | z <;> (rw [q, et4] at z; cases z)
          have erh : rw ≠ hd := fun q => by
            obtain ⟨_, eh4, _⟩ := mh.ex
            rcases rw4 with z | z <;> (rw [q, eh4] at z; cases z)
          have rw6 : H' rw = H4 rw := by
            rcases rw4 with z | z
            · rw [z]; exact s6 _ _ (by rw [upd_ne (ne_of_none z hT)]; exact z)
            · rw [z]; exact s6 _ _ (by rw [upd_ne (ne_of_none z hT)]; exact z)
          have eh7 : (upd H' td (.dK (putK kt (.inr z) (.bl true)))) hd = some (.dK kh) := by rw [upd_ne nth.symm]; exact eh6
          refine ⟨_, rfl, rfl, _, rfl, ?_⟩
          by_cases ek : k = ("folder" : Str)
          · subst ek
            rw [decide_eq_true rfl]
            refine iteT ⟨_, rfl, _, rfl, hd, _, rfl, DPut.k (k := Sum.inr z) eh7 (small1000 (by omega)), ?_⟩
            refine ⟨by omega, _, _, _, _, _, _, rfl, fun b o e => ?_, ?_, ?_, ?_⟩
            · rw [upd_ne (fun q => by rw [q, fhd] at e; cases e)]
              exact s7 b o e
            · rw [upd_ne erh, upd_ne ert, rw6]; exact e4
            · exact mT.same (upd_ne nth)
            · rw [fsA_more hcs, if_pos (show foC [V.str z, .str f, .str ("folder" : Str), pv_] = true by show decide (("folder" : Str) ∈ [("folder" : Str)]) = true; decide +kernel)]
              exact MemD.put ph lh _ _
          · rw [decide_eq_false (fun q => ek (V.str.inj q))]
            refine iteF ⟨by omega, _, _, _, _, _, _, rfl, s7, ?_, mT, ?_⟩
            · rw [upd_ne ert, rw6]; exact e4
            · rw [fsA_more hcs, if_neg (show ¬ foC [V.str z, .str f, .str k, pv_] = true by show ¬ decide (k ∈ [("folder" : Str)]) = true; simp [ek]), List.append_nil]
              exact ⟨kh, eh7, ph, lh⟩
        · rintro σ H4 ⟨hle, _⟩
          have := hth.len
          omega
end
end Ts

set_option maxRecDepth 100000
set_option maxHeartbeats 4000000
namespace Ts
open PySem L2
open LamX (ExtN Tabs TabB)
theorem nmB_of {z : Str} (h : NameShape z) (ht : z ≠ ("top" : Str)) : nmB z = true := by
  unfold nmB
  have hp := h.pos
  rw [decide_eq_false ht, decide_eq_false (by omega), low_ascii h.2, low_alpha h.2 hp.1, low_lower h.2 hp.1]
  rfl
theorem nsA_rows (N : List Str) (rs : List Row) (i : Nat) : nsA N ((rs.map rowVs).take i) = N ++ (rs.take i).map (·.nm) := by
  unfold nsA
  rw [← List.map_take, List.map_map]; rfl
theorem fsA_rows (F : List Str) (rs : List Row) (i : Nat) : fsA F ((rs.map rowVs).take i) = F ++ folderNames (rs.take i) := by
  unfold fsA folderNames
  rw [← List.map_take, List.filter_map, List.map_map]
  congr 1
  have e : (foC ∘ rowVs) = fun r : Row => decide (r.ki = ("folder" : Str)) := by
    funext r
    show decide (r.ki ∈ [("folder" : Str)]) = decide (r.ki = ("folder" : Str))
    exact decide_eq_decide.mpr ⟨fun h => by simpa using h, fun h => by simpa using h⟩
  rw [e]; rfl
theorem prB_of {o : Option Int} (h : PriceOk o) : prB (prV o) = true := by
  cases o with
  | none => rfl
  | some i => exact decide_eq_true h
theorem fit_row {N F : List Str} {pre : List Row} {r : Row} (f : FitsB N F pre r) : fitB (N ++ pre.map (·.nm)) (F ++ folderNames pre) (rowVs r) = true := by
  show (nmB r.nm && (!decide (r.nm ∈ N ++ pre.map (·.nm)) && (decide (r.fo ∈ F ++ folderNames pre) && (decide (r.ki ∈ kinds3) && prB (prV r.pr))))) = true
  rw [nmB_of f.shape f.top, decide_eq_false f.new, decide_eq_true (show r.fo ∈ F ++ folderNames pre from f.home), decide_eq_true f.kind, prB_of f.price]
  rfl
theorem fitAt_row {N F : List Str} {rs : List Row} {more : List (List V)} {i : Nat} {r : Row} (hr : rs[i]? = some r) (f : FitsB N F (rs.take i) r) : fitAt N F (rs.map rowVs ++ more) i = true := by
  have hi := (List.getElem?_eq_some_iff.mp hr).1
  have e : (rs.map rowVs ++ more)[i]? = some (rowVs r) := by rw [List.getElem?_append_left (by rw [List.length_map]; exact hi), List.getElem?_map, hr]; rfl
  rw [fitAt_eq e, List.take_append_of_le_length (by rw [List.length_map]; omega), nsA_rows, fsA_rows]
  exact fit_row f
/-- the first thing of a row, where it is a name, is one that is drawn or written -/
def HeadOk (cs : List V) : Prop := ∀ z, cs.head? = some (.str z) → nmB z = true → NameShape z
def rowC : List V → Row
  | [.str z, .str f, .str k, .int i] => ⟨z, f, k, some i⟩
  | [.str z, .str f, .str k, _] => ⟨z, f, k, none⟩
  | _ => ⟨"", "", "", none⟩
theorem rowC_eq {N F : List Str} {cs : List V} (h : fitB N F cs = true) : rowVs (rowC cs) = cs ∧ PriceOk (rowC cs).pr := by
  obtain ⟨z, f, k, d, rfl, _, _, _, _, hd⟩ := fit_inv h
  cases d with
  | int i => exact ⟨rfl, (of_decide_eq_true (show decide (1 ≤ i) = true from hd) : 1 ≤ i)⟩
  | non => exact ⟨rfl, trivial⟩
  | _ => cases hd
theorem fit_fits {N F : List Str} {cs : List V} (h : fitB N F cs = true) (hd : HeadOk cs) : NameShape (rowC cs).nm ∧ (rowC cs).nm ≠ ("top" : Str) ∧ (rowC cs).nm ∉ N ∧ (rowC cs).fo ∈ F ∧ (rowC cs).ki ∈ kinds3 ∧ PriceOk (rowC cs).pr := by
  have hp := (rowC_eq h).2
  obtain ⟨z, f, k, d, rfl, hz, h1, h2, h3, hd'⟩ := fit_inv h
  have e : (rowC [V.str z, .str f, .str k, d]).nm = z ∧ (rowC [V.str z, .str f, .str k, d]).fo = f ∧ (rowC [V.str z, .str f, .str k, d]).ki = k := by
    cases d <;> exact ⟨rfl, rfl, rfl⟩
  rw [e.1, e.2.1, e.2.2]
  refine ⟨hd z rfl hz, fun q => ?_, h1, h2, h3, hp⟩
  rw [q] at hz
  unfold nmB at hz
  simp at hz
theorem rows_of {N F : List Str} {css : List (List V)} (h : ∀ i, i < css.length → fitAt N F css i = true) (hd : ∀ cs ∈ css, HeadOk cs) : css = (css.map rowC).map rowVs ∧ ∀ i r, (css.map rowC)[i]? = some r → FitsB N F ((css.map rowC).take i) r := by
  have e : css = (css.map rowC).map rowVs := by
    rw [List.map_map]
    refine List.ext_getElem? fun i => ?_
    rw [List.getElem?_map]
    by_cases hi : i < css.length
    · have e1 : css[i]? = some css[i] := List.getElem?_eq_getElem hi
      have h1 := h i hi
      rw [fitAt_eq e1] at h1
      rw [e1]
      show some css[i] = some (rowVs (rowC css[i]))
      rw [(rowC_eq h1).1]
    · rw [List.getElem?_eq_none (by omega)]; rfl
  refine ⟨e, fun i r hr => ?_⟩
  rw [List.getElem?_map] at hr
  obtain ⟨cs, hcs, rfl⟩ := Option.map_eq_some_iff.mp hr
  have hi := (List.getElem?_eq_some_iff.mp hcs).1
  have h1 := h i hi
  rw [fitAt_eq hcs] at h1
  have et : css.take i = ((css.map rowC).take i).map rowVs := by rw [List.map_take, ← e]
  have en : nsA N (css.take i) = N ++ ((css.map rowC).take i).map (·.nm) := by
    have := nsA_rows N (css.map rowC) i
    rw [← e] at this
    exact this
  have ef : fsA F (css.take i) = F ++ folderNames ((css.map rowC).take i) := by
    have := fsA_rows F (css.map rowC) i
    rw [← e] at this
    exact this
  rw [en, ef] at h1
  obtain ⟨a, b, c, d, e5, f⟩ := fit_fits h1 (hd cs (List.mem_of_getElem? hcs))
  exact ⟨a, b, c, d, e5, f⟩
theorem fits_of {pre : List Row} {r : Row} (f : FitsB [] [("top" : Str)] pre r) : Fits pre r := by
  refine ⟨f.shape, f.top, by simpa using f.new, ?_, f.kind, f.price⟩
  have h := f.home
  rcases List.mem_append.mp h with h | h
  · exact .inl (by simpa using h)
  · exact .inr (mem_folders h)
theorem seq_of {H : Hp} {ys : List V} {css : List (List V)} {rs : List Row} (h : ThL H ys css) (e : css = rs.map rowVs) : ∃ as : List Addr, ys = as.map V.ref ∧ SeqRows H as rs := by
  have each : ∀ i (hi : i < ys.length), ∃ a, ys[i] = .ref a ∧ ∀ r, rs[i]? = some r → Seq H a (rowVs r) := by
    intro i hi
    have hl := h.len
    rw [e, List.length_map] at hl
    have hr : rs[i]? = some (rs[i]'(by omega)) := List.getElem?_eq_getElem (by omega)
    rcases h.at_ i ys[i] (rowVs (rs[i]'(by omega))) (List.getElem?_eq_getElem hi) (by rw [e, List.getElem?_map, hr]; rfl) with ⟨_, e2⟩ | ⟨a, ea, hs, _⟩
    · cases e2
    · refine ⟨a, ea, fun r hr2 => ?_⟩
      rw [hr] at hr2
      cases hr2
      exact hs
  have : ∀ n, n ≤ ys.length → ∃ as : List Addr, ys.take n = as.map V.ref ∧ as.length = n ∧ ∀ (i : Nat) (a : Addr) (r : Row), as[i]? = some a → rs[i]? = some r → Seq H a (rowVs r) := by
    intro n
    induction n with
    | zero => exact fun _ => ⟨[], by simp, rfl, fun i a r h => by simp at h⟩
    | succ n ih =>
      intro hn
      obtain ⟨as, e1, e2, e3⟩ := ih (by omega)
      obtain ⟨a, ea, hs⟩ := each n (by omega)
      refine ⟨as ++ [a], ?_, by rw [List.length_append, e2]; rfl, fun i b r hb hr => ?_⟩
      · rw [take_more (List.getElem?_eq_getElem (by omega)), e1, List.map_append, ea]; rfl
      · by_cases q : i < n
        · rw [List.getElem?_append_left (by omega)] at hb
          exact e3 i b r hb hr
        · rw [List.getElem?_append_right (by omega)] at hb
          have : i = n := by
            have := (List.getElem?_eq_some_iff.mp hb).1
            simp at this
            omega
          subst this
          rw [e2, Nat.sub_self] at hb
          cases hb
          exact hs r hr
  obtain ⟨as, e1, e2, e3⟩ := this ys.length (Nat.le_refl _)
  rw [List.take_length] at e1
  have hl := h.len
  rw [e, List.length_map] at hl
  exact ⟨as, e1, ⟨by omega, e3⟩⟩
/-- real rows as things -/
theorem cell_str {H : Hp} {z : Str} (h : z.length ≤ 100) : CellV H (.str z) := .inl ⟨z, rfl, h⟩
theorem cell_pr {H : Hp} (o : Option Int) : CellV H (prV o) := by
  cases o with
  | none => exact .inr (.inl rfl)
  | some i => exact .inr (.inr (.inl ⟨i, rfl⟩))
theorem kind_len : ∀ k ∈ kinds3, k.length ≤ 100 := by decide +kernel
theorem home_len {rs : List Row} (hv : Valid rs) {i : Nat} {r : Row} (hr : rs[i]? = some r) : r.fo.length ≤ 100 := by
  rcases (hv i r hr).home with e | ⟨q, hq, e, _⟩
  · rw [e]; decide +kernel
  · obtain ⟨j, hj, ej⟩ := List.mem_take_iff_getElem.mp hq
    have := (hv j q (by rw [← ej]; exact List.getElem?_eq_getElem _)).shape.pos
    rw [← e]; omega
theorem row_th {H : Hp} {a : Addr} {rs : List Row} (hv : Valid rs) {i : Nat} {r : Row} (hr : rs[i]? = some r) (h : Seq H a (rowVs r)) : ThAt H (.ref a) (rowVs r) := by
  refine .inr ⟨a, rfl, h, (by show 4 ≤ 10; decide), fun c hc => ?_⟩
  have hp := (hv i r hr).shape.pos
  simp only [rowVs, List.mem_cons, List.not_mem_nil, or_false] at hc
  rcases hc with rfl | rfl | rfl | rfl
  · exact cell_str (by omega)
  · exact cell_str (home_len hv hr)
  · exact cell_str (kind_len _ (hv i r hr).kind)
  · exact cell_pr _
theorem rows_thl {H : Hp} {as : List Addr} {rs : List Row} (hv : Valid rs) (h : RowsAt H as rs) : ThL H (as.map V.ref) (rs.map rowVs) := by
  refine ⟨by rw [List.length_map, List.length_map]; exact h.len, fun i y cs hy hc => ?_⟩
  rw [List.getElem?_map] at hy hc
  obtain ⟨a, ha, rfl⟩ := Option.map_eq_some_iff.mp hy
  obtain ⟨r, hr, rfl⟩ := Option.map_eq_some_iff.mp hc
  exact row_th hv hr (.inl (h.at_ i a r ha hr))
theorem ThL.snoc {H : Hp} {ys : List V} {css : List (List V)} {y : V} {cs : List V} (h : ThL H ys css) (hy : ThAt H y cs) : ThL H (ys ++ [y]) (css ++ [cs]) := by
  refine ⟨by rw [List.length_append, List.length_append, h.len]; rfl, fun i z ds hz hd => ?_⟩
  by_cases q : i < ys.length
  · rw [List.getElem?_append_left q] at hz
    rw [List.getElem?_append_left (by rw [← h.len]; exact q)] at hd
    exact h.at_ i z ds hz hd
  · rw [List.getElem?_append_right (by omega)] at hz
    rw [List.getElem?_append_right (by rw [← h.len]; omega)] at hd
    rw [h.len] at hz
    have e0 : i - css.length = 0 := by
      have := (List.getElem?_eq_some_iff.mp hz).1
      simp at this
      omega
    rw [e0] at hz hd
    cases hz
    cases hd
    exact hy
/-- valid rows with one behind that cannot stand -/
theorem more_bad {rs : List Row} (hv : Valid rs) {cs : List V} (hb : fitB (names rs) (("top" : Str) :: folderNames rs) cs = false) : DueI [] [("top" : Str)] (rs.map rowVs ++ [cs]) (some rs.length) := by
  refine .bad (by rw [List.length_append, List.length_map]; exact Nat.lt_succ_self _) (fun j hj => ?_) ?_
  · obtain ⟨r, hr⟩ : ∃ r, rs[j]? = some r := ⟨rs[j]'hj, List.getElem?_eq_getElem _⟩
    exact fitAt_row hr (hv j r hr).b
  · have e : (rs.map rowVs ++ [cs])[rs.length]? = some cs := by rw [List.getElem?_append_right (by rw [List.length_map]; exact Nat.le_refl _), List.length_map, Nat.sub_self]; rfl
    rw [fitAt_eq e, List.take_append_of_le_length (by rw [List.length_map]; exact Nat.le_refl _), nsA_rows, fsA_rows, List.take_length]
    exact hb
def spTreeInitG (C CR : Addr) : Sp := fun vs H Q E => ∃ (t dx : Addr) (x : V) (i : Nat), vs = [.ref t, x] ∧ H t = some (.ins C dx []) ∧ BadX H [] [("top" : Str)] x i ∧ ∀ d H', H d = none → Same H H' → H' d = some (.xd [("index", .int i)]) → E (.ref CR) (some d) H'
def spMoreG (C CR : Addr) : Sp := fun vs H Q E => ∃ (t : Addr) (y : V) (cs : List V) (rs : List Row), vs = [.ref t, y] ∧ TreeAt C H t rs ∧ rs.length ≤ 90 ∧ ThAt H y cs ∧ fitB (names rs) (("top" : Str) :: folderNames rs) cs = false ∧ ∀ d H', H d = none → Same H H' → H' d = some (.xd [("index", .int (rs.length : Nat))]) → E (.ref CR) (some d) H'
def spOpenedG (C CR : Addr) : Sp := fun vs H Q E => ∃ (t : Addr) (x : V) (b : Row) (rs : List Row) (i : Nat), vs = [.ref t, .str b.nm, x] ∧ TreeAt C H t rs ∧ b ∈ rs ∧ b.ki = ("shut" : Str) ∧ BadX H (names rs) [b.nm] x i ∧ ∀ d H', H d = none → Same H H' → H' d = some (.xd [("index", .int i)]) → E (.ref CR) (some d) H'
theorem fn_or {P : Program} {w : World} {K : PySem.W.Frag} {mg : Str → Option Value} {base : Heap} {k k0 k1 : Nat} {f : Addr} {fd : FuncData} {ps : List Str} {sp0 sp1 : Sp} (h0 : k0 ≤ k) (h1 : k1 ≤ k) (F0 : FnOk P w K mg base CX0 k0 f fd ps sp0) (F1 : FnOk P w K mg base (L2.CX P w) k1 f fd ps sp1) : FnOk P w K mg base (L2.CX P w) k f fd ps (fun vs H Q E => sp0 vs H Q E0 ∨ sp1 vs H Q E) :=
  ⟨fun vs H Q E q => q.elim (F0.len vs H Q E0) (F1.len vs H Q E), fun A outer s H args us vs Q E hr he hb hv hs => hs.elim
    (fun h => codeAny_mono (F0.run A outer s H args us vs Q E0 (hr.mono h0) he hb hv h) fun r s' q => by
      cases r with
      | ok f => cases f <;> exact q
      | error e => exact (show False from q).elim)
    (fun h => F1.run A outer s H args us vs Q E (hr.mono h1) he hb hv h)⟩
section
variable {P : Program} {w : World} {K : PySem.W.Frag} {mg : Str → Option Value} {base : Heap} {C CR : Addr}
theorem ok_Tree_initG {f : Addr} {fd : FuncData} (F : Fun K "__init__" "Tree.__init__" s_Tree_init f fd) (Dc : DefAt K mg "check_rows" s_check_rows ["rows", "names", "folders"]) (Xc : FnOk P w K mg base (L2.CX P w) 4 Dc.f Dc.fd ["rows", "names", "folders"] (spCheckRowsG K CR)) (TC : TxC K mg) :
    FnOk P w K mg base (L2.CX P w) 5 f fd ["self", "rows"] (spTreeInitG C CR) := by
  obtain ⟨t1, gT⟩ := TC.top
  refine F.okX sc_Tree_init (fun vs H Q E h => ?_) (fun cdv A outer s H vs Q E hr h => ?_)
  · obtain ⟨t, dx, x, i, rfl, _⟩ := h
    rfl
  · obtain ⟨t, dx, x, i, rfl, ht, hb, hE⟩ := h
    refine ⟨_, pss_cons (ps_expr (pe_call Xc hr rfl Dc.g Dc.F.kp Dc.b .nil (passes_call (takes_of rfl rfl rfl rfl) (fun _ _ _ _ h => h)) (pa_cons (pv 1) (pa_cons (pe_tup pa_nil) (pa_cons (pe_tup (pa_cons (pe_glob (by rfl) gT (v := .str ("top" : Str)) ⟨_, rfl⟩) pa_nil)) pa_nil))))) pss_never, ?_⟩
    refine ⟨_, rfl, (by show 0 ≤ sizeLine; decide), fun t1 ht1 => ⟨(by show 1 ≤ sizeLine; decide), fun t2 ht2 => ?_⟩⟩
    have s1 := Same.new (o := .tup []) ht1
    have e1 : (upd H t1 (.tup [])) t1 = some (.tup []) := upd_same
    have s2 := Same.new (o := .tup [V.str ("top" : Str)]) ht2
    have s12 := s1.trans s2
    exact ⟨x, t1, t2, [], [("top" : Str)], i, rfl, sqT (s2 _ _ e1), sqT upd_same, (by show 0 ≤ 100; decide), (by show 1 ≤ 100; decide), hb.ext (Same.x s12), fun d H' hd s e => hE d H' (s12.free hd) (s12.trans s) e⟩
theorem ok_moreG {f fT : Addr} {fd fdT : FuncData} (F : Fun K "more" "Tree.more" s_Tree_more f fd) (mR : MethAt K C "rows" "Tree.rows" s_Tree_rows ["self"]) (B : TxB mg) (T : TxT K mg C)
    (MT : Mk K C fT) (bT : Binds K fdT ["self", "rows"] []) (XT : FnOk P w K mg base (L2.CX P w) 5 fT fdT ["self", "rows"] (spTreeInitG C CR)) : FnOk P w K mg base (L2.CX P w) 7 f fd ["self", "row"] (spMoreG C CR) := by
  have GR : FnOk P w K mg base CX0 2 mR.f mR.fd ["self"] (spRowsM C) := ok_Tree_rows mR.F B T
  refine F.okX sc_Tree_more (fun vs H Q E h => ?_) (fun cdv A outer s H vs Q E hr h => ?_)
  · obtain ⟨t, y, cs, rs, rfl, _⟩ := h
    rfl
  · obtain ⟨t, y, cs, rs, rfl, ht, l90, hy, hb, hE⟩ := h
    obtain ⟨dx, q, f, k, p, qs, h1, h2, h3, h4, h5, h6⟩ := id ht.ex
    refine ⟨_, pss_one (ps_ret (pe_make MT XT hr rfl T.g bT .nil (passes_call (takes_of rfl rfl rfl rfl) (fun _ _ _ _ h => h)) (pa_cons (pe_op op_cat (pe_meth0 (pv 0) T.cl mR.m GR (hr.mono (by decide)) mR.b .nil pass0) (pe_lst (pa_cons (pv 1) pa_nil))) pa_nil))), ?_⟩
    have noR : (tf q f k p).lookup ("rows" : Str) = none := tf_no _ _ _ _ (by decide +kernel) (by decide +kernel) (by decide +kernel) (by decide +kernel)
    refine ⟨_, rfl, t, dx, _, rfl, h1, noR, t, rs, rfl, ht, fun l qs2 hl' hq2 => ⟨_, rfl, (by show 1 ≤ sizeLine; decide), fun l2 hl2 => ?_⟩⟩
    have s1 := (Same.new (o := .lst (qs2.map V.ref)) hl').trans (Same.new (o := .lst [y]) hl2)
    refine ⟨l, l2, _, _, rfl, rfl, (Same.new hl2) _ _ upd_same, upd_same, szl (by rw [List.length_map, hq2.len]; show _ + 1 ≤ 1000; omega), fun l3 hl3 => ?_⟩
    have s2 := s1.trans (Same.new (o := .lst (qs2.map V.ref ++ [y])) hl3)
    have e3 : (upd (upd (upd H l (.lst (qs2.map V.ref))) l2 (.lst [y])) l3 (.lst (qs2.map V.ref ++ [y]))) l3 = some (.lst (qs2.map V.ref ++ [y])) := upd_same
    generalize upd (upd (upd H l (.lst (qs2.map V.ref))) l2 (.lst [y])) l3 (.lst (qs2.map V.ref ++ [y])) = H3 at s2 e3
    intro x d nx nd _
    have s3 := mk_same0 (C := C) nx nd
    have s23 := s2.trans s3
    exact ⟨x, d, .ref l3, rs.length, rfl, upd_same, .inr ⟨l3, _, rs.map rowVs ++ [cs], rfl, .inr (s3 _ _ e3), ((rows_thl ht.val hq2).ext (Same.x s23)).snoc (hy.ext (Same.x s23)), by rw [List.length_append, List.length_map]; show _ + 1 ≤ 100; omega, more_bad ht.val hb⟩, fun d' H' hd s e => hE d' H' (s23.free hd) (s23.trans s) e⟩
theorem ok_openedG {f : Addr} {fd : FuncData} (F : Fun K "opened" "Tree.opened" s_Tree_opened f fd) (Db : DefAt K mg "check_box" s_check_box ["tree", "thing"]) (Gb : FnOk P w K mg base CX0 3 Db.f Db.fd ["tree", "thing"] (spBox C))
    (Dc : DefAt K mg "check_rows" s_check_rows ["rows", "names", "folders"]) (Xc : FnOk P w K mg base (L2.CX P w) 4 Dc.f Dc.fd ["rows", "names", "folders"] (spCheckRowsGD K CR)) (hS : ∃ t, mg "SHUT" = some (.str "shut" t)) (T : TxT K mg C) : FnOk P w K mg base (L2.CX P w) 7 f fd ["self", "box", "rows"] (spOpenedG C CR) := by
  obtain ⟨t3, gS⟩ := hS
  refine F.okX sc_Tree_opened (fun vs H Q E h => ?_) (fun cdv A outer s H vs Q E hr h => ?_)
  · obtain ⟨t, x, b, rs, i, rfl, _⟩ := h
    rfl
  · obtain ⟨t, x, b, rs, i, rfl, ht, hb, hk, hbad, hE⟩ := h
    have hu := hu_of hr
    have hv := ht.val
    have l100 := ht.len
    obtain ⟨dx, q, f, k, p, qs, h1, h2, h3, h4, h5, h6⟩ := id ht.ex
    refine ⟨_, pss_cons (ps_expr (pe_call Gb (hr.mono (by decide)) rfl Db.g Db.F.kp Db.b .nil pass0 (pa_cons (pv 0) (pa_cons (pv 1) pa_nil))))
      (pss_cons (ps_if (pt_cmpR op_ne (pe_dget hu (pe_fld (pv 0) rfl) (pv 1) (fun _ _ => rfl)) (pe_glob (by rfl) gS (v := .str ("shut" : Str)) ⟨_, rfl⟩) (nomark _)) (pss_one ps_never) pss_nil)
      (pss_cons (ps_expr (pe_call Xc (hr.mono (by decide)) rfl Dc.g Dc.F.kp Dc.b .nil (passes_call (takes_of rfl rfl rfl rfl) (fun _ _ _ _ h => h)) (pa_cons (pv 2) (pa_cons (pe_fld (pv 0) rfl) (pa_cons (pe_tup (pa_cons (pv 1) pa_nil)) pa_nil)))))
      pss_never)), ?_⟩
    have hz : b.nm ∈ names rs := List.mem_map.mpr ⟨b, hb, rfl⟩
    obtain ⟨j, hj, ej⟩ := List.mem_iff_getElem.mp hb
    have ro := rowOf_at hv (i := j) (r := b) (by rw [← ej]; exact List.getElem?_eq_getElem hj)
    refine ⟨_, rfl, _, rfl, t, b.nm, rs, rfl, ht, hz, ?_⟩
    have dgk := DGet.k (k := Sum.inr b.nm) h5
    rw [valV_kvF, show (rs.find? fun q => decide (q.nm = b.nm)) = some b from ro] at dgk
    refine ⟨_, rfl, t, C, dx, _, _, rfl, h1, T.cl, T.nk, tf_k _ _ _ _, _, rfl, k, _, rfl, dgk, rfl, _, rfl, ?_⟩
    rw [show decide (V.str b.ki = V.str ("shut" : Str)) = true from decide_eq_true (by rw [hk])]
    refine iteF ?_
    refine ⟨_, rfl, _, rfl, t, C, dx, _, _, rfl, h1, T.cl, T.nk, tf_k _ _ _ _, _, rfl, (by show 1 ≤ sizeLine; decide), fun ft hft => ?_⟩
    have s1 := Same.new (o := .tup [V.str b.nm]) hft
    exact ⟨x, k, ft, (fun r => V.str r.ki), rs, [b.nm], i, rfl, s1 _ _ h5, sqT upd_same, l100, (by show 1 ≤ 100; decide), hbad.ext (Same.x s1), fun d H' hd s e => hE d H' (s1.free hd) (s1.trans s) e⟩
end
end Ts

set_option maxRecDepth 100000
set_option maxHeartbeats 4000000
namespace Ts
open PySem L2
open LamX (ExtN Tabs TabB)
abbrev abcS : Str := "abcdefghijklmnopqrstuvwxyz"
/-- the law's own look at a name -/
def lawNm (z : Str) : Bool := (decide (1 ≤ z.length) && decide (z.length ≤ 8)) && (!decide (z = ("top" : Str)) && z.cps.toList.all fun c => decide (c ∈ abcS.cps.toList))
def Okz (z : Str) : Prop := lawNm z = nmB z ∧ (nmB z = true → NameShape z)
def HeadZ (cs : List V) : Prop := ∀ z, cs.head? = some (.str z) → Okz z
theorem HeadZ.ok {cs : List V} (h : HeadZ cs) : HeadOk cs := fun z e => (h z e).2
theorem low_abc {c : Nat} (h : 97 ≤ c ∧ c ≤ 122) : c ∈ abcS.cps.toList := by
  have : ∀ c ∈ List.range' 97 26, c ∈ abcS.cps.toList := by decide +kernel
  exact this c (List.mem_range'_1.mpr ⟨h.1, by omega⟩)
theorem okz_shape {z : Str} (h : NameShape z) : Okz z := by
  have hp := h.pos
  refine ⟨?_, fun _ => h⟩
  unfold lawNm
  rw [decide_eq_true hp.1, decide_eq_true hp.2]
  have ha : (z.cps.toList.all fun c => decide (c ∈ abcS.cps.toList)) = true := List.all_eq_true.mpr fun c hc => decide_eq_true (low_abc (h.2 c hc))
  rw [ha]
  by_cases e : z = ("top" : Str)
  · rw [decide_eq_true e]; subst e; decide +kernel
  · rw [decide_eq_false e, nmB_of h e]; rfl
theorem at0 (a b c d : V) : atI [a, b, c, d] 0 = some a := rfl
theorem at1 (a b c d : V) : atI [a, b, c, d] 1 = some b := rfl
theorem at2 (a b c d : V) : atI [a, b, c, d] 2 = some c := rfl
theorem at3 (a b c d : V) : atI [a, b, c, d] 3 = some d := rfl
theorem okz_no {z : Str} (h1 : lawNm z = false) (h2 : nmB z = false) : Okz z := ⟨by rw [h1, h2], fun h => by rw [h2] at h; cases h⟩
def spLIsName : Sp := fun vs H Q _ => ∃ x, vs = [x] ∧ CellV H x ∧ (∀ z, x = .str z → Okz z) ∧ ∀ H', Same H H' → Q (.bl (nameB x)) H'
def spLFits : Sp := fun vs H Q _ => ∃ (y : V) (f n : Addr) (cs : List V) (N F : List Str), vs = [y, .ref f, .ref n] ∧ ThAt H y cs ∧ HeadZ cs ∧ H f = some (.lst (F.map V.str)) ∧ H n = some (.lst (N.map V.str)) ∧ ∀ H', Same H H' → Q (.bl (fitB N F cs)) H'
section
variable {P : Program} {w : World} {K : PySem.W.Frag} {mg : Str → Option Value} {base : Heap}
abbrev nLIn : List Str := ["_law_thing", "_law_sign"]
theorem sc_LIn : FnScope nLIn ["_law_thing"] (defScope s_L_is_name) := ⟨rfl, rfl, rfl, by decide +kernel, rfl, by decide +kernel, by decide +kernel⟩
theorem ok_LIn (D : DefAt K mg "_law_is_name" s_L_is_name ["_law_thing"]) (B : TxB mg) : FnOk P w K mg base CX0 2 D.f D.fd ["_law_thing"] spLIsName := by
  refine D.F.ok sc_LIn (fun vs H Q E h => ?_) (fun cdv A outer s H vs Q E hr h => ?_)
  · obtain ⟨x, rfl, _⟩ := h
    rfl
  · obtain ⟨x, rfl, hx, hz, hq⟩ := h
    refine ⟨_, pss_cons (ps_if (PW.pt (pw_or (pt_not (pt_val (pe_callB call_isi (by rfl) B.isinstance (by decide +kernel) (pa_cons (pv 0) (pa_cons (pe_bltn (by rfl) B.str (by decide +kernel) (v := .ty "str") rfl) pa_nil)))))
        (pw_or (pt_not (pt_chain op_le op_le pe_int (pe_callB call_len (by rfl) B.len PySem.boot_len (pa_cons (pv 0) pa_nil)) pe_int)) (pw_or1 (pt_cmpR op_eq (pv 0) pe_str (nomark _)))))) (pss_one (ps_ret pe_bl)) pss_nil)
      (pss_one (ps_ret (pe_callB (cr_all rfl) (by rfl) B.all (by decide +kernel) (pa_cons (pe_lc (own := [("_law_sign", 1)]) (g := gName 1) (tt := tYes) (te := tOp (fun x y H Q => ∃ (c : Nat) (z : Str), x = .str ⟨#[c]⟩ ∧ y = .str z ∧ Q (.bl (decide (c ∈ z.cps.toList))) H) (tVar 1) (tC (.str abcS))) rfl sc_LIn.nd (pi_str (pv 0)) (blkOk_by (N := nLIn) (sc := defScope s_L_is_name) (by decide +kernel))
        (fun _ _ _ _ _ => pg_name (i := 1) sc_LIn.nd rfl (Or.inl rfl)) (fun _ _ _ _ _ => pts_nil) (fun _ _ _ _ _ => by exact pe_cmpR op_in_sign (pv 1) pe_str (by rfl))) pa_nil)))), ?_⟩
    obtain ⟨ty, hty, k1, _, _⟩ := hx.ty (K := K)
    rcases hx with ⟨z, rfl, lz⟩ | ho
    · refine ⟨_, rfl, _, _, _, _, true, rfl, .ty "str", hty, k1, _, rfl, iteF ?_⟩
      have hq' : ∀ H', Same H H' → Q (.bl ((decide (1 ≤ z.length) && decide (z.length ≤ 8)) && (!decide (z = ("top" : Str)) && z.cps.toList.all fun c => decide (c ∈ abcS.cps.toList)))) H' := fun H' s => by
        have := hq H' s
        have e : nameB (.str z) = lawNm z := (hz z rfl).1.symm
        rw [e] at this
        exact this
      refine ⟨_, rfl, _, z.length, rfl, ⟨szl (by omega), rfl⟩, 1, _, rfl, rfl, _, rfl, ?_⟩
      by_cases h1 : 1 ≤ z.length
      · rw [decide_eq_true (show (1 : Int) ≤ (z.length : Int) by omega)]
        rw [decide_eq_true h1] at hq'
        refine iteT ⟨_, 8, rfl, rfl, _, rfl, ?_⟩
        by_cases h8 : z.length ≤ 8
        · rw [decide_eq_true (show (z.length : Int) ≤ 8 by omega)]
          rw [decide_eq_true h8] at hq'
          refine iteF ⟨_, rfl, rfl, _, rfl, ?_⟩
          by_cases e : z = ("top" : Str)
          · rw [decide_eq_true (show V.str z = V.str ("top" : Str) by rw [e])]
            rw [decide_eq_true e] at hq'
            exact iteT (hq' H (Same.refl _))
          rw [decide_eq_false (fun q => e (V.str.inj q))]
          rw [decide_eq_false e] at hq'
          refine iteF ?_
          have hq2 : ∀ H', Same H H' → Q (.bl (z.cps.toList.all fun c => decide (c ∈ abcS.cps.toList))) H' := hq'
          refine ⟨_, rfl, z, rfl, fun D hD => ?_⟩
          have ls : z.cps.size = z.length := rfl
          refine lc_it (walk_str (z := z)) (fun i H' => Same H H' ∧ H' D = some (.lst (((z.cps.toList.take i).map fun c => decide (c ∈ abcS.cps.toList)).map V.bl))) ⟨Same.new hD, upd_same⟩ (fun i H' _ _ => trivial) ?_ ?_
          · rintro i x H2 H3 hi ⟨s2, e2⟩ ⟨rfl, c, hc, rfl⟩
            have hc' : z.cps.toList[i]? = some c := by rw [Array.getElem?_toList]; exact hc
            refine ⟨rfl, tYes_if ⟨_, rfl, c, abcS, rfl, rfl, _, e2, small1000 (by rw [List.length_map, List.length_map, List.length_take]; omega), fun b o eb => ?_, ?_⟩⟩
            · rw [upd_ne (fun y => by rw [y, hD] at eb; cases eb)]
              exact s2 _ _ eb
            · rw [upd_same, take_more hc', List.map_append, List.map_append]; rfl
          · rintro H2 ⟨s2, e2⟩
            rw [show z.cps.size = z.cps.toList.length from (Array.length_toList).symm, List.take_length] at e2
            refine ⟨D, _, rfl, SqL.of e2, ?_⟩
            have := hq2 H2 s2
            rw [List.all_map]
            exact this
        · rw [decide_eq_false (show ¬ (z.length : Int) ≤ 8 by omega)]
          rw [decide_eq_false h8] at hq'
          exact iteT (hq' H (Same.refl _))
      · rw [decide_eq_false (show ¬ (1 : Int) ≤ (z.length : Int) by omega)]
        rw [decide_eq_false h1] at hq'
        exact iteF ⟨_, rfl, iteT (hq' H (Same.refl _))⟩
    · have n1 : isS x = false := by rcases ho with rfl | ⟨i, rfl⟩ | ⟨b, rfl⟩ | ⟨a, xs, rfl, _⟩ | ⟨a, xs, rfl, _⟩ | ⟨a, xs, rfl, _⟩ <;> rfl
      have n2 : nameB x = false := by rcases ho with rfl | ⟨i, rfl⟩ | ⟨b, rfl⟩ | ⟨a, xs, rfl, _⟩ | ⟨a, xs, rfl, _⟩ | ⟨a, xs, rfl, _⟩ <;> rfl
      rw [n1] at k1
      rw [n2] at hq
      exact ⟨_, rfl, _, _, _, _, false, rfl, .ty "str", hty, k1, _, rfl, iteT (hq H (Same.refl _))⟩
abbrev pLFi : List Str := ["_law_thing", "_law_folders", "_law_names"]
theorem sc_LFi : FnScope pLFi pLFi (defScope s_L_fits) := ⟨rfl, rfl, rfl, by decide +kernel, rfl, by decide +kernel, by decide +kernel⟩
theorem rd_sqIx {H : Hp} {p : Addr} {xs : List V} {v : V} {Q : VK} {i : Int} (h : Seq H p xs) (e : atI xs i = some v) (q : Q v H) : rIx K (.ref p) (.int i) H Q :=
  h.elim (fun h => .inr (.inl ⟨p, xs, i, v, rfl, rfl, sqT h, e, q⟩)) fun h => .inl ⟨p, xs, i, v, rfl, rfl, SqL.of h, e, q⟩
theorem ok_LFi (D : DefAt K mg "_law_fits" s_L_fits pLFi) (B : TxB mg) (Dn : DefAt K mg "_law_is_name" s_L_is_name ["_law_thing"]) : FnOk P w K mg base CX0 3 D.f D.fd pLFi spLFits := by
  have Gn : FnOk P w K mg base CX0 2 Dn.f Dn.fd ["_law_thing"] spLIsName := ok_LIn Dn B
  refine D.F.ok sc_LFi (fun vs H Q E h => ?_) (fun cdv A outer s H vs Q E hr h => ?_)
  · obtain ⟨y, f, n, cs, N, F, rfl, _⟩ := h
    rfl
  · obtain ⟨y, f, n, cs, N, F, rfl, hy, hh, hf, hn, hq⟩ := h
    have hu := hu_of hr
    refine ⟨_, pss_cons (ps_if (PW.pt (pw_or (pt_not (pt_val (pe_callB call_isiT (by rfl) B.isinstance (by decide +kernel) (pa_cons (pv 0) (pa_cons (pe_tup (pa_cons (pe_bltn (by rfl) B.list (by decide +kernel) (v := .ty "list") rfl) (pa_cons (pe_bltn (by rfl) B.tuple (by decide +kernel) (v := .ty "tuple") rfl) pa_nil))) pa_nil)))))
        (pw_or1 (pt_cmpR op_ne (pe_callB call_len_seq (by rfl) B.len PySem.boot_len (pa_cons (pv 0) pa_nil)) pe_int (nomark _))))) (pss_one (ps_ret pe_bl)) pss_nil)
      (pss_cons (ps_if (PW.pt (pw_or (pt_not (pt_val (pe_call Gn hr rfl Dn.g Dn.F.kp Dn.b .nil pass0 (pa_cons (pe_ix ix_seq (pv 0) pe_int (fun _ _ => rfl)) pa_nil)))) (pw_or1 (pt_cmpR op_in_seq (pe_ix ix_seq (pv 0) pe_int (fun _ _ => rfl)) (pv 2) (by rfl))))) (pss_one (ps_ret pe_bl)) pss_nil)
      (pss_cons (ps_if (PW.pt (pw_or (pt_not (pt_val (pe_callB call_isi (by rfl) B.isinstance (by decide +kernel) (pa_cons (pe_ix ix_seq (pv 0) pe_int (fun _ _ => rfl)) (pa_cons (pe_bltn (by rfl) B.str (by decide +kernel) (v := .ty "str") rfl) pa_nil))))) (pw_or1 (pt_cmpR op_notIn_seq (pe_ix ix_seq (pv 0) pe_int (fun _ _ => rfl)) (pv 1) (by rfl))))) (pss_one (ps_ret pe_bl)) pss_nil)
      (pss_cons (ps_if (PW.pt (pw_or (pt_not (pt_val (pe_callB call_isi (by rfl) B.isinstance (by decide +kernel) (pa_cons (pe_ix ix_seq (pv 0) pe_int (fun _ _ => rfl)) (pa_cons (pe_bltn (by rfl) B.str (by decide +kernel) (v := .ty "str") rfl) pa_nil))))) (pw_or1 (pt_cmpR op_notIn_seq (pe_ix ix_seq (pv 0) pe_int (fun _ _ => rfl)) (pe_tup (pa_cons pe_str (pa_cons pe_str (pa_cons pe_str pa_nil)))) (by rfl))))) (pss_one (ps_ret pe_bl)) pss_nil)
      (pss_one (ps_ret (pe_or (pe_cmpR op_isN (pe_ix ix_seq (pv 0) pe_int (fun _ _ => rfl)) pe_non (nomark _)) (pe_one (pe_and (pe_callB call_isi (by rfl) B.isinstance (by decide +kernel) (pa_cons (pe_ix ix_seq (pv 0) pe_int (fun _ _ => rfl)) (pa_cons (pe_bltn (by rfl) B.int (by decide +kernel) (v := .ty "int") rfl) pa_nil))) (pe_and (pe_not (pe_callB call_isi (by rfl) B.isinstance (by decide +kernel) (pa_cons (pe_ix ix_seq (pv 0) pe_int (fun _ _ => rfl)) (pa_cons (pe_bltn (by rfl) B.bool (by decide +kernel) (v := .ty "bool") rfl) pa_nil)))) (pe_one (pe_cmpR op_gt (pe_ix ix_seq (pv 0) pe_int (fun _ _ => rfl)) pe_int (nomark _)))))))))))), ?_⟩
    refine ⟨_, rfl, (by show 2 ≤ sizeLine; decide), fun tp htp => ?_⟩
    have s1 : Same H (upd H tp (.tup [.ty "list", .ty "tuple"])) := Same.new htp
    rcases hy with ⟨hn', rfl⟩ | ⟨a, rfl, ha, l10, hcell⟩
    · obtain ⟨ty0, ty, kk⟩ := (hn'.ext (Same.x s1)).ty (K := K)
      exact ⟨_, tp, _, ty0, _, false, rfl, upd_same, .cons (.ty "list") (.cons (.ty "tuple") .nil), ty, kk, _, rfl, iteT (hq _ s1)⟩
    obtain ⟨t, ty, kk⟩ := (ha.same s1).ty (K := K)
    refine ⟨_, tp, _, t, _, true, rfl, upd_same, .cons (.ty "list") (.cons (.ty "tuple") .nil), ty, kk, _, rfl, iteF ?_⟩
    refine ⟨_, rfl, a, _, rfl, (ha.same s1).or, rfl, _, rfl, ?_⟩
    have e2 : (!decide (V.int (cs.length : Nat) = V.int 4)) = decide (cs.length ≠ 4) := by
      by_cases h : cs.length = 4
      · rw [h]; rfl
      · rw [decide_eq_true h, decide_eq_false (fun e => h (by have := V.int.inj e; omega))]; rfl
    rw [e2]
    by_cases h4 : cs.length = 4
    · rw [decide_eq_false (fun h => h h4)]
      refine iteF ?_
      obtain ⟨c1, c2, c3, c4, rfl⟩ : ∃ c1 c2 c3 c4, cs = [c1, c2, c3, c4] := by
        match cs, h4 with
        | [c1, c2, c3, c4], _ => exact ⟨_, _, _, _, rfl⟩
      have ha1 := ha.same s1
      have hf1 := s1 _ _ hf
      have hn1 := s1 _ _ hn
      have hx1 : ∀ c ∈ [c1, c2, c3, c4], CellV (upd H tp (.tup [.ty "list", .ty "tuple"])) c := fun c hc => (hcell c hc).ext (Same.x s1)
      generalize upd H tp (.tup [.ty "list", .ty "tuple"]) = H1 at s1 ha1 hf1 hn1 hx1
      clear ty kk
      have hq1 : ∀ H', Same H H' → Q (.bl (nameB c1 && (!inB N c1 && (inB F c2 && (inB kinds3 c3 && prB c4))))) H' := hq
      refine ⟨_, rfl, rd_sqIx ha1 (at0 _ _ _ _) ⟨c1, rfl, hx1 c1 (by simp), (fun z e => hh z (by rw [e]; rfl)), fun H2 s2 => ⟨_, rfl, ?_⟩⟩⟩
      have S2 := s1.trans s2
      cases b1 : nameB c1 with
      | false =>
        rw [b1] at hq1
        exact iteT (hq1 _ S2)
      | true =>
      rw [b1] at hq1
      obtain ⟨z, rfl, hz⟩ := nameB_str b1
      have hq2 : ∀ H', Same H H' → Q (.bl (!decide (z ∈ N) && (inB F c2 && (inB kinds3 c3 && prB c4)))) H' := hq1
      refine iteF ⟨_, rfl, rd_sqIx (ha1.same s2) (at0 _ _ _ _) ⟨_, rfl, n, _, rfl, .inl (SqL.of (s2 _ _ hn1)), rfl, flat_strs _, _, rfl, ?_⟩⟩
      rw [if_neg Bool.false_ne_true, inV_strs]
      cases b2 : decide (z ∈ N) with
      | true =>
        rw [b2] at hq2
        exact iteT (hq2 _ S2)
      | false =>
      rw [b2] at hq2
      have hq3 : ∀ H', Same H H' → Q (.bl (inB F c2 && (inB kinds3 c3 && prB c4))) H' := hq2
      refine iteF ?_
      obtain ⟨ty2, hty2, k2, _, _⟩ := ((hx1 c2 (by simp)).ext (Same.x s2)).ty (K := K)
      refine ⟨_, rfl, rd_sqIx (ha1.same s2) (at1 _ _ _ _) ⟨_, _, _, _, isS c2, rfl, .ty "str", hty2, k2, _, rfl, ?_⟩⟩
      have nostr : isS c2 = false → inB F c2 = false := fun h => by cases c2 <;> first | rfl | cases h
      cases b3 : isS c2 with
      | false =>
        rw [nostr b3] at hq3
        exact iteT (hq3 _ S2)
      | true =>
      obtain ⟨f', rfl⟩ : ∃ f, c2 = .str f := by cases c2 <;> first | exact ⟨_, rfl⟩ | cases b3
      have hq4 : ∀ H', Same H H' → Q (.bl (decide (f' ∈ F) && (inB kinds3 c3 && prB c4))) H' := hq3
      refine iteF ⟨_, rfl, rd_sqIx (ha1.same s2) (at1 _ _ _ _) ⟨_, rfl, f, _, rfl, .inl (SqL.of (s2 _ _ hf1)), rfl, flat_strs _, _, rfl, ?_⟩⟩
      rw [if_pos rfl, inV_strs]
      cases b4 : decide (f' ∈ F) with
      | false =>
        rw [b4] at hq4
        exact iteT (hq4 _ S2)
      | true =>
      rw [b4] at hq4
      have hq5 : ∀ H', Same H H' → Q (.bl (inB kinds3 c3 && prB c4)) H' := hq4
      refine iteF ?_
      obtain ⟨ty3, hty3, k3, _, _⟩ := ((hx1 c3 (by simp)).ext (Same.x s2)).ty (K := K)
      refine ⟨_, rfl, rd_sqIx (ha1.same s2) (at2 _ _ _ _) ⟨_, _, _, _, isS c3, rfl, .ty "str", hty3, k3, _, rfl, ?_⟩⟩
      have nostr3 : isS c3 = false → inB kinds3 c3 = false := fun h => by cases c3 <;> first | rfl | cases h
      cases b5 : isS c3 with
      | false =>
        rw [nostr3 b5] at hq5
        exact iteT (hq5 _ S2)
      | true =>
      obtain ⟨k', rfl⟩ : ∃ f, c3 = .str f := by cases c3 <;> first | exact ⟨_, rfl⟩ | cases b5
      have hq6 : ∀ H', Same H H' → Q (.bl (decide (k' ∈ kinds3) && prB c4)) H' := hq5
      refine iteF ⟨_, rfl, rd_sqIx (ha1.same s2) (at2 _ _ _ _) ⟨(by show 3 ≤ sizeLine; decide), fun kt hkt => ?_⟩⟩
      have s3 := Same.new (o := .tup [V.str ("folder" : Str), V.str ("item" : Str), V.str ("shut" : Str)]) hkt
      have e3 : (upd H2 kt (.tup [V.str ("folder" : Str), V.str ("item" : Str), V.str ("shut" : Str)])) kt = some (.tup [V.str ("folder" : Str), V.str ("item" : Str), V.str ("shut" : Str)]) := upd_same
      generalize upd H2 kt (.tup [V.str ("folder" : Str), V.str ("item" : Str), V.str ("shut" : Str)]) = H3 at s3 e3
      have S3 := S2.trans s3
      refine ⟨kt, _, rfl, .inr (sqT e3), rfl, flat_strs kinds3, _, rfl, ?_⟩
      rw [if_pos rfl, show (!inV (.str k') [V.str ("folder" : Str), V.str ("item" : Str), V.str ("shut" : Str)]) = !decide (k' ∈ kinds3) from by rw [← inV_strs]; rfl]
      cases b6 : decide (k' ∈ kinds3) with
      | false =>
        rw [b6] at hq6
        exact iteT (hq6 _ S3)
      | true =>
      rw [b6] at hq6
      have hq7 : ∀ H', Same H H' → Q (.bl (prB c4)) H' := hq6
      refine iteF ?_
      have ha3 := (ha1.same s2).same s3
      obtain ⟨ty4, hty4, _, k4, k5⟩ := (((hx1 c4 (by simp)).ext (Same.x s2)).ext (Same.x s3)).ty (K := K)
      refine ⟨_, rfl, rd_sqIx ha3 (at3 _ _ _ _) ⟨rfl, _, rfl, ?_⟩⟩
      by_cases e : c4 = .non
      · subst e
        rw [decide_eq_true rfl]
        exact iteT (hq7 _ S3)
      rw [decide_eq_false e]
      have ep : prB c4 = numB 1 c4 := by cases c4 <;> first | rfl | exact absurd rfl e
      rw [ep] at hq7
      refine iteF ⟨_, rfl, rd_sqIx ha3 (at3 _ _ _ _) ⟨_, _, _, _, isI c4, rfl, .ty "int", hty4, k4, _, rfl, ?_⟩⟩
      cases c4 with
      | int i =>
        refine iteT ⟨_, rfl, rd_sqIx ha3 (at3 _ _ _ _) ⟨_, _, _, _, false, rfl, .ty "bool", hty4, k5, _, rfl, _, rfl, iteT ⟨_, rfl, rd_sqIx ha3 (at3 _ _ _ _) ⟨_, _, rfl, rfl, ?_⟩⟩⟩⟩
        have := hq7 H3 S3
        show Q (.bl (decide ((0 : Int) < i))) H3
        rw [show decide ((0 : Int) < i) = numB 1 (.int i) from decide_eq_decide.mpr (by omega)]
        exact this
      | bl b => exact iteT ⟨_, rfl, rd_sqIx ha3 (at3 _ _ _ _) ⟨_, _, _, _, true, rfl, .ty "bool", hty4, k5, _, rfl, _, rfl, iteF (hq7 _ S3)⟩⟩
      | non => exact absurd rfl e
      | str z => exact iteF (hq7 _ S3)
      | ref a => exact iteF (hq7 _ S3)
      | _ => exact iteF (hq7 _ S3)
    · rw [decide_eq_true h4]
      rw [fit_len h4] at hq
      exact iteT (hq _ s1)
end
end Ts

set_option maxRecDepth 100000
set_option maxHeartbeats 4000000
namespace L2
open PySem PySem.Spec PyProof.Rows
/-! ### several clauses, each with a name: except A as e: .. except B as e: .. -/
abbrev AsClause := Value × Option Nat × (Addr → Value → Option Addr → TS)
/-- behind its suite the clause's name is gone -/
def unAs1 (i : Nat) (D : Ends) : Ends where
  nx := fun u v => D.nx (u.set i none) v
  rt := D.rt
  bk := fun u v => D.bk (u.set i none) v
  ct := fun u v => D.ct (u.set i none) v
def unAs : Option Nat → Ends → Ends
  | none, D => D
  | some i, D => unAs1 i D
def putAs : Option Nat → Addr → St → St
  | none, _, u => u
  | some i, p, u => u.set i (some (.ref p))
def wAsM (K : PySem.W.Frag) (W0 : WX) (D : Ends) : List AsClause → WX
  | [] => W0
  | q :: rest => fun cl od u v => ∃ y, PySem.W.exmOne K cl q.1 = some y ∧ (y = true → ∀ p, v p = none → q.2.2 p cl od (unAs q.2.1 D) (putAs q.2.1 p u) v) ∧ (y = false → wAsM K W0 D rest cl od u v)
inductive AsOk (X : Cx) : List ExceptHandler → List AsClause → Prop
  | nil : AsOk X [] []
  | cons {cn en : Str} {cv : Value} {k : Nat} {act : Addr → Value → Option Addr → TS} {st : Stmt} {sts : List Stmt} {p1 p2 : Pos} {more : List ExceptHandler} {l : List AsClause}
      (slot : X.N[k]? = some en) (own : X.env.kindOf en = some .local) (nm : Names X cn cv)
      (run : ∀ (p : Addr) (ob : Obj) (cl : Value) (od : Option Addr) (pn : List (Addr × Obj)), Zc cl od ob → (∃ fs, ob.data = .fields fs) → PSs (X.suite p ((p, ob) :: pn)) (st :: sts) (act p cl od))
      (rest : AsOk X more l) : AsOk X (.ExceptHandler (some (.Name cn p1)) (some en) (st :: sts) p2 :: more) ((cv, some k, act) :: l)
  | bare {cn : Str} {cv : Value} {act : Addr → Value → Option Addr → TS} {st : Stmt} {sts : List Stmt} {p1 p2 : Pos} {more : List ExceptHandler} {l : List AsClause} (nm : Names X cn cv)
      (run : ∀ (p : Addr) (ob : Obj) (cl : Value) (od : Option Addr) (pn : List (Addr × Obj)), Zc cl od ob → (∃ fs, ob.data = .fields fs) → PSs (X.suite p ((p, ob) :: pn)) (st :: sts) (act p cl od))
      (rest : AsOk X more l) : AsOk X (.ExceptHandler (some (.Name cn p1)) none (st :: sts) p2 :: more) ((cv, none, act) :: l)
section
variable {X : Cx} {ss : List Stmt} {hd : ExceptHandler} {hs : List ExceptHandler} {cls : List AsClause} {pos : Pos} {tb : WX → TS} {W0 : WX}
theorem ps_try_asm (st1 : X.stack = X.env :: X.outer) (fr1 : X.env.frame = some X.env.locals) (nd : X.N.Nodup) (take : Takes X W0)
    (try_ : ∀ (V : WX) (ps : List (Addr × Obj)) (ex : Value → Shared → Prop), Takes (X.tr ps ex) V → PassesOwn (model X.prog X.w) X.A X.env ex → PSs (X.tr ps ex) ss (tb V))
    (all : AsOk X (hd :: hs) cls) : PS X (.Try ss (hd :: hs) [] [] pos) (fun D u v => tb (wAsM X.K W0 D cls) D u v) := by
  refine ⟨fun pins s0 u0 v0 D inv want => ?_⟩
  have rdy := inv.ok
  have frames_ : X.A.frames = some (X.env :: X.outer) := by rw [rdy.frames, st1]
  refine wpAny_Try_except ?_
  refine wpAny_mono ((try_ (wAsM X.K W0 D cls) (X.pn ++ pins)
      (fun er z1 => wpAny (model X.prog X.w) X.A (noteFrame er X.env)
        (fun _ z2 => wpAny (model X.prog X.w) X.A (setFlight er none)
          (fun _ z3 => wpAny (model X.prog X.w) X.A (handleBy er X.env (hd :: hs)) (SP X pins D) X.xe z3) X.xe z2) X.xe z1)
      (fun er z1 caught => ?_) PassesOwn.looking).run [] s0 u0 v0 D (inv.toTry _) want) (fun fl z1 went => ?_) (fun _ _ z => z)
  · -- an error of the body
    obtain ⟨p, B, sX, pinsX, u1, v1, cl, od, rfl, invT, nb, grew, sky0, np, os0, ag0, wish⟩ := caught
    have invJ : Inv X pins u1 v1 sX := invT.ofTry rdy
    have sky1 : Sky B (X.env :: X.outer) p (Zc cl od) X.env.locals z1.heap := by
      rw [← st1]
      exact sky0
    show wpAny (model X.prog X.w) X.A (noteFrame (.ref p) X.env) _ _ _
    refine Sky.land Zc.steady frames_ fr1 sky1 fun g3 lands3 grew3 => ?_
    have inv3 : Inv X pins u1 v1 { z1 with heap := g3 } := invJ.landed nb lands3.1 (grew.trans grew3) os0 ag0
    obtain ⟨ob3, fs3, get3, zc3, dat3⟩ := lands3.there
    have away : ∀ {h : Heap} {o : Obj} {w : Array Value}, h.FunFrames B (X.env :: X.outer) → h.get? p = some o → o.data = .fields w → p ∉ frs (X.env :: X.outer) := by
      intro h o w ff ge da mem
      obtain ⟨_, o1, ge1, no1⟩ := ff.mem mem
      rw [ge] at ge1
      cases ge1
      exact no1 _ da
    have offAll := away lands3.2.2.1 get3 dat3
    have offL : p ≠ X.env.locals := by
      intro same
      exact offAll (List.mem_filterMap.mpr ⟨X.env, List.mem_cons_self, by rw [fr1, same]⟩)
    have offF : p ∉ X.fs := by
      intro mem
      obtain ⟨en, hen, qen⟩ := List.mem_filterMap.mp mem
      exact offAll (List.mem_filterMap.mpr ⟨en, List.mem_cons_of_mem _ hen, qen⟩)
    have invS := inv3.suite get3 dat3 np offL offF
    have each : ∀ {hh : List ExceptHandler} {ll : List AsClause}, AsOk X hh ll → wAsM X.K W0 D ll cl od u1 v1 → wpAny (model X.prog X.w) X.A (handleBy (.ref p) X.env hh) (SP X pins D) X.xe { z1 with heap := g3 } := by
      intro hh ll ok
      induction ok with
      | nil =>
        intro last
        refine wpAny_handleBy_nil ?_
        obtain ⟨_, _, _, ob, fs, T, oT, tk1, g1, g2, g4, g5, _⟩ := id lands3
        unfold PySem.passOn
        refine wpAny_bind (wpAny_field g1 g4 g5 ?_)
        rw [if_neg (show ¬ ((Value.ref T == Value.none) = true) by simp)]
        have done_ : wpAny (model X.prog X.w) X.A (setFlight (.ref p) X.env.frame)
            (fun _ z4 => wpAny (model X.prog X.w) X.A (throw (.ref p) : Sem Flow) (SP X pins D) X.xe z4) X.xe { z1 with heap := g3 } := by
          rw [fr1]
          refine HandSPX.setFlight_upZ lands3 fun g6 land6 grew6 => wpAny_throw (take _ _ ?_)
          exact ⟨p, B, sX, pins, u1, v1, cl, od, rfl, invJ, nb, (grew.trans grew3).trans grew6, .inr (.inr (by rw [st1]; exact land6)), np, os0, ag0, last⟩
        first
          | exact wpAny_bind (wpAny_pure (wpAny_bind done_))
          | exact wpAny_bind done_
      | @cons cn en cv k act st sts p1 p2 more l slot own nm run rest ih =>
        intro wants
        obtain ⟨y, is_, yes, no⟩ := wants
        refine wpAny_handleBy_cons (codeAny_handlers_test ?_) (by intro q; cases q)
        have looks : PySem.W.Looks (model X.prog X.w) g3 (typeOf (.ref p)) cl := fun A Q E z keep q => wpAny_typeOf_ref (keep _ _ get3) (by rw [zc3.1]; exact q)
        have meets_ := PySem.W.exm_one (M := model X.prog X.w) (inv3.kIn) looks is_
        have ask : ∀ {Q E : Value → Shared → Prop}, Q cv { z1 with heap := g3 } → wpAny (model X.prog X.w) (X.A.mark (some (.ref p))) (eval (.Name cn p1) X.env) Q E { z1 with heap := g3 } := by
          intro Q E q
          obtain ⟨isG, dbg, atM | ⟨atM, atB, notN⟩⟩ := nm
          · exact ld_glob (X := X.suite p ((p, ob3) :: (X.pn ++ pins))) invS isG atM q dbg
          · exact ld_blt (X := X.suite p ((p, ob3) :: (X.pn ++ pins))) invS isG atM atB q notN dbg
        refine ask (meets_.here ?_)
        cases y with
        | false =>
          show wpAny _ X.A (handleBy (.ref p) X.env more) _ _ _
          exact ih (no rfl)
        | true =>
          refine codeAny_handlers_suite_as ?_
          refine HandSPX.lands_againZ lands3 fun g4 lands4 grew4 => ?_
          have inv4 : Inv X pins u1 v1 { z1 with heap := g4 } := invJ.landed nb lands4.1 ((grew.trans grew3).trans grew4) os0 ag0
          obtain ⟨ob4, fs4, get4, zc4, dat4⟩ := lands4.there
          have invS4 := inv4.suite get4 dat4 np offL offF
          refine store_ok (X := X.suite p ((p, ob4) :: (X.pn ++ pins))) (v := .ref p) invS4 nd slot (.inl own) rfl (fun z5 inv5 => ?_) (.inr own)
          refine wpAny_mono ((run p ob4 cl od (X.pn ++ pins) zc4 ⟨_, dat4⟩).run [] z5 _ v1 _ inv5 (yes rfl p np)) (fun fl z6 went => ?_) (fun _ _ z => False.elim z)
          have gone : ∀ {u6 : St} {v6 : Hp} {Q : Shared → Prop}, Inv (X.suite p ((p, ob4) :: (X.pn ++ pins))) [] u6 v6 z6 → (∀ z7, Inv X pins (u6.set k none) v6 z7 → Q z7) →
              wpAny (model X.prog X.w) X.A (do bindName X.env en .none; unbindBehindTheSuite X.env en p2) (fun _ z7 => Q z7) X.xe z6 := by
            intro u6 v6 Q i6 q6
            exact gone_ok (i6.unsuite rdy) nd slot own q6
          cases fl with
          | next =>
            obtain ⟨u6, v6, i6, q6⟩ := went
            exact gone i6 fun z7 i7 => ⟨_, _, i7, q6⟩
          | brk =>
            obtain ⟨u6, v6, i6, q6⟩ := went
            exact gone i6 fun z7 i7 => ⟨_, _, i7, q6⟩
          | cont =>
            obtain ⟨u6, v6, i6, q6⟩ := went
            exact gone i6 fun z7 i7 => ⟨_, _, i7, q6⟩
          | ret rv =>
            obtain ⟨w6, u6, v6, i6, r6, q6⟩ := went
            exact gone i6 fun z7 i7 => ⟨_, _, _, i7, r6, q6⟩
      | @bare cn cv act st sts p1 p2 more l nm run rest ih =>
        intro wants
        obtain ⟨y, is_, yes, no⟩ := wants
        refine wpAny_handleBy_cons (codeAny_handlers_test ?_) (by intro q; cases q)
        have looks : PySem.W.Looks (model X.prog X.w) g3 (typeOf (.ref p)) cl := fun A Q E z keep q => wpAny_typeOf_ref (keep _ _ get3) (by rw [zc3.1]; exact q)
        have meets_ := PySem.W.exm_one (M := model X.prog X.w) (inv3.kIn) looks is_
        have ask : ∀ {Q E : Value → Shared → Prop}, Q cv { z1 with heap := g3 } → wpAny (model X.prog X.w) (X.A.mark (some (.ref p))) (eval (.Name cn p1) X.env) Q E { z1 with heap := g3 } := by
          intro Q E q
          obtain ⟨isG, dbg, atM | ⟨atM, atB, notN⟩⟩ := nm
          · exact ld_glob (X := X.suite p ((p, ob3) :: (X.pn ++ pins))) invS isG atM q dbg
          · exact ld_blt (X := X.suite p ((p, ob3) :: (X.pn ++ pins))) invS isG atM atB q notN dbg
        refine ask (meets_.here ?_)
        cases y with
        | false =>
          show wpAny _ X.A (handleBy (.ref p) X.env more) _ _ _
          exact ih (no rfl)
        | true =>
          refine codeAny_handlers_suite ?_
          refine HandSPX.lands_againZ lands3 fun g4 lands4 grew4 => ?_
          have inv4 : Inv X pins u1 v1 { z1 with heap := g4 } := invJ.landed nb lands4.1 ((grew.trans grew3).trans grew4) os0 ag0
          obtain ⟨ob4, fs4, get4, zc4, dat4⟩ := lands4.there
          have invS4 := inv4.suite get4 dat4 np offL offF
          refine wpAny_mono ((run p ob4 cl od (X.pn ++ pins) zc4 ⟨_, dat4⟩).run [] _ _ v1 _ invS4 (yes rfl p np)) (fun fl z6 went => ?_) (fun _ _ z => False.elim z)
          cases fl with
          | next =>
            obtain ⟨u6, v6, i6, q6⟩ := went
            exact ⟨_, _, i6.unsuite rdy, q6⟩
          | brk =>
            obtain ⟨u6, v6, i6, q6⟩ := went
            exact ⟨_, _, i6.unsuite rdy, q6⟩
          | cont =>
            obtain ⟨u6, v6, i6, q6⟩ := went
            exact ⟨_, _, i6.unsuite rdy, q6⟩
          | ret rv =>
            obtain ⟨w6, u6, v6, i6, r6, q6⟩ := went
            exact ⟨_, _, _, i6.unsuite rdy, r6, q6⟩
    exact each all wish
  · cases fl with
    | next =>
      obtain ⟨u6, v6, i6, q6⟩ := went
      exact wpAny_execs_nil ⟨u6, v6, i6.ofTry rdy, q6⟩
    | brk =>
      obtain ⟨u6, v6, i6, q6⟩ := went
      exact ⟨u6, v6, i6.ofTry rdy, q6⟩
    | cont =>
      obtain ⟨u6, v6, i6, q6⟩ := went
      exact ⟨u6, v6, i6.ofTry rdy, q6⟩
    | ret rv =>
      obtain ⟨w6, u6, v6, i6, r6, q6⟩ := went
      exact ⟨w6, u6, v6, i6.ofTry rdy, r6, q6⟩
end
end L2

set_option maxRecDepth 100000
set_option maxHeartbeats 4000000
namespace Ts
open PySem L2
open LamX (ExtN Tabs TabB)
def TRef1 (CR : Addr) : (XK → Hp → VK → Prop) → Hp → VK → Prop := fun tl H Q =>
  tl (fun cls d H' => ∃ (dd : Addr) (v : V), cls = .ref CR ∧ d = some dd ∧ H' dd = some (.xd [("index", v)]) ∧ Q v H') H (fun _ H' => Q .non H')
abbrev nRf : List Str := ["_law_make", "e"]
theorem sc_Rf : FnScope nRf ["_law_make"] (defScope s_L_refused) := ⟨rfl, rfl, rfl, by decide +kernel, rfl, by decide +kernel, by decide +kernel⟩
theorem pss_len {X : Cx} {ss : List Stmt} {t : TS} (h : PSs X ss t) : PSs X ss (fun D σ H => σ.length = X.N.length → t D σ H) := ⟨fun pins s σ H D I q => h.run pins s σ H D I (q I.len)⟩
theorem refused_gives {X : Cx} {g CR : Addr} {cdg : Value} {q : Str} (T : ErrT X.K X.mg CR "BadRow" "index") : LamX.GivesTo X nRf "_law_refused" (defScope s_L_refused) g cdg (defBody s_L_refused) "_law_make" q (TRef1 CR) := by
  intro f c' s H Q tl act hc h
  refine ⟨_, pss_cons (ps_try_asm (X := (cxOf C8.CX0 X.prog X.w X.K X.mg X.base nRf "_law_refused" (defScope s_L_refused) g cdg X.A X.stack s H C8.E0).nox)
      (tb := fun W D σ H => ∃ Ech : XK, (∀ cls d σ' H', Ech cls d H' → W cls d σ' H') ∧ σ[0]? = some (some (.ref f)) ∧ H c' = some (LamX.CodeO c' q) ∧ tl Ech H (fun _ H1 => D.nx σ H1))
      (W0 := fun _ _ _ _ => False)
      (cls := [(.ref CR, some 1, fun a cls d D σ H => σ.length = nRf.length → tRet (tXf a cls d CR "index" (tVar 1)) D σ H)])
      rfl rfl sc_Rf.nd LamX.takes0 (fun W pn xe tk _ => ?_)
      (.cons rfl rfl ⟨rfl, by decide, .inl T.g⟩ (fun a oe cls d pn hz hf => pss_len (pss_one (ps_ret (by exact pe_xf T.X T.nb hz hf (pv 1))))) .nil)) (pss_one (ps_ret pe_non)), ?_⟩
  · refine ⟨fun pins s' σ H' D I h' => ?_⟩
    obtain ⟨Ech, hW, h1, h2, h3⟩ := h'
    exact PSs.run (pss_one (ps_expr (act W pn xe Ech _ _ tk hW))) pins s' σ H' D I ⟨h1, h2, h3⟩
  · refine ⟨_, fun cls d σ' H' z => ?_, rfl, hc, h⟩
    have no2 : ∀ {P : Prop}, (true = false) → P := fun q => Bool.noConfusion q
    have lk : ∀ a : Addr, (σ'.set 1 (some (V.ref a))).length = nRf.length → (σ'.set 1 (some (V.ref a)))[1]? = some (some (V.ref a)) := fun a hl => List.getElem?_set_self (by rw [List.length_set] at hl; rw [hl]; decide)
    obtain ⟨dd, v, rfl, rfl, e, k⟩ := z
    exact ⟨true, T.te, fun _ a ha hl => ⟨_, lk a hl, rfl, rfl, dd, _, v, rfl, e, rfl, k⟩, no2⟩
end Ts

set_option maxRecDepth 100000
set_option maxHeartbeats 4000000
namespace L2
open PySem PySem.Spec PyProof.Rows
/-! ### things made alike: lists and tuples, nested, of the same things -/
def Al (K : PySem.W.Frag) (H : Hp) : Nat → V → V → Prop
  | 0, x, y => x = y ∧ (flatB x = true ∨ ∃ c, x = .ref c)
  | n + 1, x, y => Al K H n x y ∨ ∃ (a b : Addr) (xs ys : List V), x = .ref a ∧ y = .ref b ∧ ((SqL K H a xs ∧ SqL K H b ys) ∨ (SqT K H a xs ∧ SqT K H b ys)) ∧ xs.length = ys.length ∧ ∀ (i : Nat) (u v : V), xs[i]? = some u → ys[i]? = some v → Al K H n u v
theorem vals_at {xs : List V} {us : List Value} (r : Vals xs us) {j : Nat} (h : j < us.length) : ∃ x, xs[j]? = some x ∧ RelV x us[j] := by
  have l := r.length
  have hj : j < xs.length := by omega
  obtain ⟨z, hz, rz⟩ := Vals.get (i := j) (x := xs[j]) r (List.getElem?_eq_getElem hj)
  rw [List.getElem?_eq_getElem h] at hz
  cases hz
  exact ⟨_, List.getElem?_eq_getElem hj, rz⟩
section
variable {X : Cx} {pins : List (Addr × Obj)} {σ : St} {H : Hp} {s : Shared}
theorem al_eq (I : Inv X pins σ H s) : ∀ (n : Nat) {A : Around} {x y : V} {u v : Value}, Al X.K H n x y → RelV x u → RelV y v → A.units + n < cLine + 1 → SeqAt.EqAt A s u v true
  | 0, A, x, y, u, v, h, rx, ry, hu => by
    obtain ⟨rfl, f | ⟨c, rfl⟩⟩ := h
    · exact eqAt_same rx ry f
    · cases (show u = Value.ref c from rx)
      cases (show v = Value.ref c from ry)
      exact SeqAt.EqAt.same _
  | n + 1, A, x, y, u, v, h, rx, ry, hu => by
    rcases h with h | ⟨a, b, xs, ys, rfl, rfl, hs, hl, he⟩
    · exact al_eq I n h rx ry (by omega)
    · cases (show u = Value.ref a from rx)
      cases (show v = Value.ref b from ry)
      by_cases e : a = b
      · rw [e]; exact SeqAt.EqAt.same _
      refine SeqAt.EqAt.of_refs e ?_
      have hu1 : A.in1.units + n < cLine + 1 := by show A.units + 1 + n < cLine + 1; omega
      rcases hs with ⟨h1, h2⟩ | ⟨h1, h2⟩
      · obtain ⟨us, r1, p1, _⟩ := I.list h1
        obtain ⟨ws, r2, p2, _⟩ := I.list h2
        have l1 := r1.length
        have l2 := r2.length
        have := SeqAt.RcAt.lists (A := A) (e := fun _ => true) p1.isList p2.isList (by rw [List.size_toArray, List.size_toArray]; omega) (by omega) (fun j h3 h4 => by
          have h3' : j < us.length := by simpa using h3
          have h4' : j < ws.length := by simpa using h4
          obtain ⟨x1, e1, q1⟩ := vals_at r1 h3'
          obtain ⟨x2, e2, q2⟩ := vals_at r2 h4'
          exact al_eq I n (he j x1 x2 e1 e2) (by simpa using q1) (by simpa using q2) hu1)
        rw [show ((List.range us.toArray.size).all fun _ => true) = true from List.all_eq_true.mpr fun _ _ => rfl] at this
        exact this
      · obtain ⟨us, r1, p1, _⟩ := I.tuple h1
        obtain ⟨ws, r2, p2, _⟩ := I.tuple h2
        have l1 := r1.length
        have l2 := r2.length
        have := SeqAt.RcAt.tuples (A := A) (e := fun _ => true) p1 p2 (by omega) (fun j h3 h4 => by
          have h3' : j < us.length := by simpa using h3
          have h4' : j < ws.length := by simpa using h4
          obtain ⟨x1, e1, q1⟩ := vals_at r1 h3'
          obtain ⟨x2, e2, q2⟩ := vals_at r2 h4'
          exact al_eq I n (he j x1 x2 e1 e2) (by simpa using q1) (by simpa using q2) hu1)
        have e : (us.toArray.size == ws.toArray.size) = true := by
          rw [List.size_toArray, List.size_toArray]
          simp; omega
        rw [show ((List.range (min us.toArray.size ws.toArray.size)).all fun _ => true) = true from List.all_eq_true.mpr fun _ _ => rfl, e] at this
        exact this
/-- != of two things made alike: None, texts, numbers, lists or tuples -/
def rNeAl (K : PySem.W.Frag) : R2 := fun x y H Q => ((∃ z : Str, x = .str z ∧ y = .str z) ∨ (∃ i : Int, x = .int i ∧ y = .int i) ∨ (x = .non ∧ y = .non) ∨ (∃ b : Bool, x = .bl b ∧ y = .bl b) ∨
  ∃ (a b : Addr) (xs ys : List V), x = .ref a ∧ y = .ref b ∧ ((SqL K H a xs ∧ SqL K H b ys) ∨ (SqT K H a xs ∧ SqT K H b ys)) ∧ xs.length = ys.length ∧ ∀ (i : Nat) (u v : V), xs[i]? = some u → ys[i]? = some v → Al K H 8 u v) ∧ Q (.bl false) H
end
section
variable {X : Cx}
theorem op_neAl (hu : X.A.units + 64 < cLine) : OpR X (compareOp .NotEq) (rNeAl X.K) := by
  intro pins s σ H x y v w Q I rx ry h
  obtain ⟨h, q⟩ := h
  rcases h with ⟨z, rfl, rfl⟩ | ⟨i, rfl, rfl⟩ | ⟨rfl, rfl⟩ | ⟨b, rfl, rfl⟩ | ⟨a, b, xs, ys, rfl, rfl, hs, hl, he⟩
  · obtain ⟨t1, rfl⟩ := rx
    obtain ⟨t2, rfl⟩ := ry
    refine SeqAt.RcNeAt.str_str z t1 z t2 _ _ _ _ ⟨.bl false, H, I, ?_, q⟩
    show Value.bool (!(z == z)) = Value.bool false
    simp
  · obtain ⟨t1, rfl⟩ := rx
    obtain ⟨t2, rfl⟩ := ry
    refine SeqAt.RcNeAt.int_int i t1 i t2 _ _ _ _ ⟨.bl false, H, I, ?_, q⟩
    show Value.bool (!(i == i)) = Value.bool false
    simp
  · cases (show v = Value.none from rx)
    cases (show w = Value.none from ry)
    exact SeqAt.RcNeAt.none_none _ _ _ _ ⟨.bl false, H, I, rfl, q⟩
  · cases (show v = Value.bool b from rx)
    cases (show w = Value.bool b from ry)
    refine SeqAt.RcNeAt.bool_bool b b _ _ _ _ ⟨.bl false, H, I, ?_, q⟩
    show Value.bool (!(b == b)) = Value.bool false
    simp
  · cases (show v = Value.ref a from rx)
    cases (show w = Value.ref b from ry)
    have hu1 : X.A.in1.units + 8 < cLine + 1 := by show X.A.units + 1 + 8 < cLine + 1; omega
    rcases hs with ⟨h1, h2⟩ | ⟨h1, h2⟩
    · obtain ⟨us, r1, p1, _⟩ := I.list h1
      obtain ⟨ws, r2, p2, _⟩ := I.list h2
      have l1 := r1.length
      have l2 := r2.length
      refine SeqAt.RcNeAt.lists p1.isList p2.isList (by rw [List.size_toArray, List.size_toArray]; omega) (by omega) (e := fun _ => true) (fun j h3 h4 => ?_) _ _ _ _ ?_
      · obtain ⟨x1, e1, q1⟩ := vals_at r1 (show j < us.length by simpa using h3)
        obtain ⟨x2, e2, q2⟩ := vals_at r2 (show j < ws.length by simpa using h4)
        exact al_eq I 8 (he j x1 x2 e1 e2) (by simpa using q1) (by simpa using q2) hu1
      · rw [show ((List.range us.toArray.size).all fun _ => true) = true from List.all_eq_true.mpr fun _ _ => rfl]
        exact ⟨.bl false, H, I, rfl, q⟩
    · obtain ⟨us, r1, p1, _⟩ := I.tuple h1
      obtain ⟨ws, r2, p2, _⟩ := I.tuple h2
      have l1 := r1.length
      have l2 := r2.length
      refine SeqAt.RcNeAt.tuples p1 p2 (by omega) (e := fun _ => true) (fun j h3 h4 => ?_) _ _ _ _ ?_
      · obtain ⟨x1, e1, q1⟩ := vals_at r1 (show j < us.length by simpa using h3)
        obtain ⟨x2, e2, q2⟩ := vals_at r2 (show j < ws.length by simpa using h4)
        exact al_eq I 8 (he j x1 x2 e1 e2) (by simpa using q1) (by simpa using q2) hu1
      · rw [show ((List.range (min us.toArray.size ws.toArray.size)).all fun _ => true) = true from List.all_eq_true.mpr fun _ _ => rfl, show (us.toArray.size == ws.toArray.size) = true from by rw [List.size_toArray, List.size_toArray]; simp; omega]
        exact ⟨.bl false, H, I, rfl, q⟩
end
end L2

set_option maxRecDepth 100000
set_option maxHeartbeats 4000000
namespace Ts
open PySem L2
open LamX (ExtN Tabs TabB)
/-! ### a def whose code object is known -/
structure FunC (K : PySem.W.Frag) (x q : Str) (st : Stmt) (f : Addr) (fd : FuncData) (c : Addr) : Prop where
  ex : ∃ (oc : Value) (od : Option Addr) (kV doc pm : Value) (an : Option Addr) (ct : Value) (osl : Array (Option Value)),
    fd = PySem.W.fnOf x q (defArgs st) (defBody st) (defScope st) .none kV doc pm an (.ref c) ct ∧ K.lookup f = some ⟨oc, od, .func fd, osl⟩ ∧ PySem.W.codeIn K (.ref c) q = true
  kp : PySem.W.keepIn K (.ref f) = true
section
variable {P : Program} {w : World} {K : PySem.W.Frag} {mg : Str → Option Value} {base : Heap} {C : Addr}
theorem FunC.ok {x qual : Str} {st : Stmt} {f c : Addr} {fd : FuncData} {N ps : List Str} {k : Nat} {sp : Sp} (F : FunC K x qual st f fd c) (S : FnScope N ps (defScope st)) (len : ∀ vs H Q E, sp vs H Q E → vs.length = ps.length)
    (hbody : ∀ (A : Around) (outer : List Env) (s : Shared) (H : Hp) (vs : List V) (Q : VK) (E : XK), Room k (A.deeper (PyProof.Rows.envOfC qual (defScope st) s.heap.objs.size f (.ref c))) → sp vs H Q E →
      ∃ t, PSs (cxOf CX0 P w K mg base N qual (defScope st) f (.ref c) A outer s H E).nox (defBody st) t ∧ t { nx := fun _ H' => Q .non H', rt := Q } (L2.start N vs) H) : FnOk P w K mg base CX0 (k + 1) f fd ps sp := by
  obtain ⟨oc, od, kV, doc, pm, an, ct, osl, rfl, lk, hcd⟩ := F.ex
  refine fn_of lk hcd S len fun A outer s H vs Q E hr hsp => ?_
  obtain ⟨t, h, q⟩ := hbody A outer s H vs Q E hr hsp
  exact ⟨t, h.nox, q⟩
structure DefC (K : PySem.W.Frag) (mg : Str → Option Value) (x : Str) (st : Stmt) (ps : List Str) where
  f : Addr
  fd : FuncData
  c : Addr
  F : FunC K x x st f fd c
  b : Binds K fd ps []
  g : mg x = some (.ref f)
theorem pe_refused {X : Cx} {T : List (Addr × Str)} {c P : Addr} {k : Nat} {params : Arguments} {body : Expr} {scope : Scope} {t : XK → TE} {p lpos pos : Pos} (D : DefAt X.K X.mg "_law_refused" s_L_refused ["_law_make"]) {CR : Addr} (TN : ErrT X.K X.mg CR "BadRow" "index")
    (hg : Gl X "_law_refused") (TB : TabB X.base X.mg c P) (hcode : X.env.code = .ref c) (hmT : (P, X.env.qual ++ "<lambda>") ∈ T) (hu : ∀ p ∈ T, p.1 = P → p.2 = X.env.qual ++ "<lambda>") (hr : Room (k + 2) X.A) (L : LamX.LamS X.env.scope scope) (hdef : defaultsOf params X.env = ([], []))
    (hbind : ∀ (q : Str) (cl : List (Str × Addr)) (pm cv ctv : Value), bindArgs (PySem.W.kla_fn "<lambda>" q params body scope cl pm cv ctv) ⟨[], []⟩ = pure [])
    (hbody : ∀ (A : Around) (outer : List Env) (s : Shared) (H : Hp) (E : XK) (f c' : Addr), Room k (A.deeper (LamX.lamEnv X scope s.heap.objs.size f c')) → PE (LamX.lamCx X A outer s H E scope f c') body (t E)) :
    PE X (.Call (.Name "_law_refused" p) [.Lambda params body scope lpos] [] pos) (LamX.tLam T (TRef1 CR) t) := by
  obtain ⟨f, fd, F, b, g⟩ := D
  have kp := F.kp
  obtain ⟨oc, od, kV, doc, pm, an, cdv, ct, osl, rfl, lk, hcd⟩ := F.ex
  exact LamX.pe_lamcall hg g kp lk hcd b sc_Rf rfl (.inl rfl) (refused_gives TN) TB hcode hmT hu hr L hdef hbind hbody
end
theorem tabs_put {T : List (Addr × Str)} {H : Hp} {D : Addr} {xs ys : List V} (h : Tabs T H) (e : H D = some (.lst xs)) : Tabs T (upd H D (.lst ys)) := fun p hp => by
  obtain ⟨ps, h1, h2, h3⟩ := h p hp
  have n1 : p.1 ≠ D := fun q => by rw [q, e] at h1; cases h1
  refine ⟨ps, by rw [upd_ne n1]; exact h1, h2, fun pos cv hc => ?_⟩
  obtain ⟨c, e1, e2⟩ := h3 pos cv hc
  refine ⟨c, e1, ?_⟩
  rw [upd_ne fun q => by rw [q, e] at e2; unfold LamX.CodeO at e2; cases e2]
  exact e2
theorem tabs_sb {T : List (Addr × Str)} {H H' : Hp} {a : Addr} {n : Int} (h : Tabs T H) (st : Stm H a n) (s : SB a H H') : Tabs T H' := fun p hp => by
  obtain ⟨ps, h1, h2, h3⟩ := h p hp
  obtain ⟨x, y, z, ea, _⟩ := st
  have n1 : p.1 ≠ a := fun q => by rw [q, ea] at h1; cases h1
  refine ⟨ps, s _ _ n1 h1, h2, fun pos cv hc => ?_⟩
  obtain ⟨c, e1, e2⟩ := h3 pos cv hc
  exact ⟨c, e1, s _ _ (fun q => by rw [q, ea] at e2; unfold LamX.CodeO at e2; cases e2) e2⟩
theorem sq_ext {K : PySem.W.Frag} {H H' : Hp} {a : Addr} {xs : List V} (h : SqL K H a xs) (s : ExtN H H') : SqL K H' a xs := by
  rcases h with (h | ⟨o, h⟩) | h
  · exact .inl (.inl (s _ _ h nofun))
  · exact .inl (.inr ⟨o, s _ _ h nofun⟩)
  · exact .inr h
theorem Stm.ext {H H' : Hp} {a : Addr} {n : Int} (h : Stm H a n) (s : ExtN H H') : Stm H' a n := let ⟨x, y, z, e, k⟩ := h; ⟨x, y, z, s _ _ e nofun, k⟩
/-- the index that is refused, or None -/
def ixV : Option Nat → V
  | none => .non
  | some i => .int (i : Nat)
section
variable {CR : Addr} {T : List (Addr × Str)} {H : Hp} {σ : St} {Q : VK}
theorem lam_ix {t : XK → TE} {r : Option Nat} (hT : Tabs T H)
    (hX : ∀ i, r = some i → ∀ (H1 : Hp) (E : XK) (Q' : VK), ExtN H H1 → (∀ d H2, H1 d = none → Same H1 H2 → H2 d = some (.xd [("index", .int (i : Nat))]) → E (.ref CR) (some d) H2) → t E σ H1 Q')
    (hN : r = none → ∀ (H1 : Hp) (E : XK) (Q' : VK), ExtN H H1 → (∀ v H2, Same H1 H2 → Q' v H2) → t E σ H1 Q')
    (k : ∀ H', ExtN H H' → Tabs T H' → Q (ixV r) H') : LamX.tLam T (TRef1 CR) t σ H Q := by
  cases r with
  | some i => exact ⟨hT, fun H1 e1 T1 => hX i rfl H1 _ _ e1 fun d H2 hd s2 h => ⟨d, _, rfl, rfl, h, k H2 (e1.trans (Same.x s2)) (T1.ext s2)⟩⟩
  | none => exact ⟨hT, fun H1 e1 T1 => hN rfl H1 _ _ e1 fun _ H2 s2 => k H2 (e1.trans (Same.x s2)) (T1.ext s2)⟩
end
theorem rd_neIx {K : PySem.W.Frag} {H : Hp} {r : Option Nat} {Q : VK} (k : Q (.bl false) H) : rNeAl K (ixV r) (ixV r) H Q := by
  cases r with
  | none => exact ⟨.inr (.inr (.inl ⟨rfl, rfl⟩)), k⟩
  | some i => exact ⟨.inr (.inl ⟨_, rfl, rfl⟩), k⟩
end Ts

set_option maxRecDepth 100000
set_option maxHeartbeats 4000000
namespace Ts
open PySem L2
open LamX (ExtN Tabs TabB)
def spLDue : Sp := fun vs H Q _ => ∃ (D f n : Addr) (ys : List V) (css : List (List V)) (N F : List Str) (r : Option Nat), vs = [.ref D, .ref f, .ref n] ∧ H D = some (.lst ys) ∧ ThL H ys css ∧ (∀ cs ∈ css, HeadZ cs) ∧ css.length ≤ 100 ∧ H f = some (.lst (F.map V.str)) ∧ H n = some (.lst (N.map V.str)) ∧ F.length ≤ 100 ∧ N.length ≤ 100 ∧ DueI N F css r ∧
  ∀ H', Same H H' → Q (ixV r) H'
section
variable {P : Program} {w : World} {K : PySem.W.Frag} {mg : Str → Option Value} {base : Heap}
abbrev pLDu : List Str := ["_law_things", "_law_folders", "_law_names"]
abbrev nLDu : List Str := ["_law_things", "_law_folders", "_law_names", "_law_at", "_law_thing"]
theorem sc_LDu : FnScope nLDu pLDu (defScope s_L_due) := ⟨rfl, rfl, rfl, by decide +kernel, rfl, by decide +kernel, by decide +kernel⟩
theorem ok_LDu (D : DefAt K mg "_law_due" s_L_due pLDu) (B : TxB mg) (Df : DefAt K mg "_law_fits" s_L_fits pLFi) (Gf : FnOk P w K mg base CX0 3 Df.f Df.fd pLFi spLFits) : FnOk P w K mg base CX0 4 D.f D.fd pLDu spLDue := by
  refine D.F.ok sc_LDu (fun vs H Q E h => ?_) (fun cdv A outer s H vs Q E hr h => ?_)
  · obtain ⟨D, f, n, ys, css, N, F, r, rfl, _⟩ := h
    rfl
  · obtain ⟨D, f, n, ys, css, N, F, r, rfl, hD, hth, hz, hlc, hf, hn, hlF, hlN, hdue, hq⟩ := h
    refine ⟨_, pss_cons (ps_if (pt_not (pt_val (pe_callB call_isiT (by rfl) B.isinstance (by decide +kernel) (pa_cons (pv 0) (pa_cons (pe_tup (pa_cons (pe_bltn (by rfl) B.list (by decide +kernel) (v := .ty "list") rfl) (pa_cons (pe_bltn (by rfl) B.tuple (by decide +kernel) (v := .ty "tuple") rfl) pa_nil))) pa_nil))))) (pss_one (ps_ret pe_int)) pss_nil)
      (pss_cons (ps_par (i := 1) (j := 2) rfl sc_LDu.nd rfl rfl (by decide) rfl rfl (pa_cons (pe_callTy (T := "list") call_list_of (by rfl) B.list (by decide +kernel) (pa_cons (pv 1) pa_nil)) (pa_cons (pe_callTy (T := "list") call_list_of (by rfl) B.list (by decide +kernel) (pa_cons (pv 2) pa_nil)) pa_nil)) (by rfl))
      (pss_cons (ps_for PassesOwn.never rfl (pi_enum (by rfl) B.enumerate (pa_cons (pv 0) pa_nil)) (pg_tup rfl (pgs_cons (pg_name (i := 3) sc_LDu.nd rfl (.inl rfl)) (pgs_cons (pg_name (i := 4) sc_LDu.nd rfl (.inl rfl)) pgs_nil)))
        (pss_cons (ps_if (pt_not (pt_val (pe_call Gf hr rfl Df.g Df.F.kp Df.b .nil pass0 (pa_cons (pv 4) (pa_cons (pv 1) (pa_cons (pv 2) pa_nil)))))) (pss_one (ps_ret (pv 3))) pss_nil)
        (pss_cons (ps_expr (pe_bm PySem.F.plainAttrs_list PySem.F.slot_list_append PySem.F.type_list_append mt_append (pv 2) (pa_cons (pe_ix ix_seq (pv 4) pe_int (fun _ _ => rfl)) pa_nil)))
        (pss_one (ps_expr (pe_bm PySem.F.plainAttrs_list PySem.F.slot_list_extend PySem.F.type_list_extend mt_extend (pv 1) (pa_cons (pe_ifExp (pt_cmpR op_eq (pe_ix ix_seq (pv 4) pe_int (fun _ _ => rfl)) pe_str (nomark _)) (pe_lst (pa_cons (pe_ix ix_seq (pv 4) pe_int (fun _ _ => rfl)) pa_nil)) (pe_lst pa_nil)) pa_nil)))))))
      (pss_one (ps_ret pe_non)))), ?_⟩
    refine ⟨_, rfl, (by show 2 ≤ sizeLine; decide), fun tp htp => ?_⟩
    have s1 : Same H (upd H tp (.tup [.ty "list", .ty "tuple"])) := Same.new htp
    have hD1 := s1 _ _ hD
    obtain ⟨t, ty, kk⟩ := (show Seq (upd H tp (.tup [.ty "list", .ty "tuple"])) D ys from .inr hD1).ty (K := K)
    refine ⟨_, tp, _, t, _, true, rfl, upd_same, .cons (.ty "list") (.cons (.ty "tuple") .nil), ty, kk, _, rfl, iteF ?_⟩
    generalize upd H tp (.tup [.ty "list", .ty "tuple"]) = H1 at s1 ty hD1
    clear ty kk
    refine ⟨_, rfl, f, _, rfl, .inl (SqL.of (s1 _ _ hf)), fun f2 hf2 => ?_⟩
    have s2 : Same H1 (upd H1 f2 (.lst (F.map V.str))) := Same.new hf2
    have ef2 : (upd H1 f2 (.lst (F.map V.str))) f2 = some (.lst (F.map V.str)) := upd_same
    generalize upd H1 f2 (.lst (F.map V.str)) = H2 at s2 ef2
    refine ⟨_, rfl, n, _, rfl, .inl (SqL.of ((s1.trans s2) _ _ hn)), fun n2 hn2 => ⟨_, _, rfl, ?_⟩⟩
    have s3 : Same H2 (upd H2 n2 (.lst (N.map V.str))) := Same.new hn2
    have en2 : (upd H2 n2 (.lst (N.map V.str))) n2 = some (.lst (N.map V.str)) := upd_same
    have nfn : f2 ≠ n2 := ne_of_none ef2 hn2
    generalize upd H2 n2 (.lst (N.map V.str)) = H3 at s3 en2
    have S3 := (s1.trans s2).trans s3
    have Hf2 : H f2 = none := s1.free hf2
    have Hn2 : H n2 = none := (s1.trans s2).free hn2
    have nDf : D ≠ f2 := ne_of_none hD Hf2
    have nDn : D ≠ n2 := ne_of_none hD Hn2
    refine ⟨_, rfl, D, ys, rfl, SqL.of (S3 _ _ hD), ?_⟩
    refine for_it (walk_enum (K := K) (a := D) (xs := ys)) (fun j σ H' => (∀ i, i < j → fitAt N F css i = true) ∧ ∃ v3 v4 : Option V, σ = [some (.ref D), some (.ref f2), some (.ref n2), v3, v4] ∧ Same H H' ∧ H' f2 = some (.lst ((fsA F (css.take j)).map V.str)) ∧ H' n2 = some (.lst ((nsA N (css.take j)).map V.str))) ⟨fun i hi => absurd hi (Nat.not_lt_zero _), none, none, rfl, S3, by rw [s3 _ _ ef2]; simp [fsA], by rw [en2]; simp [nsA]⟩ (fun i σ H' _ ⟨_, _, _, _, s, _⟩ => SqL.of (s _ _ hD)) ?_ ?_
    · rintro j x σ H4 H5 hj ⟨hok, v3, v4, rfl, s4, e4f, e4n⟩ ⟨T, xi, xr, rfl, hT, rfl, exi, exr⟩
      obtain rfl := Option.some.inj exi
      have hjc : j < css.length := by rw [← hth.len]; exact hj
      obtain ⟨cs, hcs⟩ : ∃ cs, css[j]? = some cs := ⟨css[j]'hjc, List.getElem?_eq_getElem _⟩
      have s45 : Same H4 (upd H4 T (.tup [.int (j : Nat), xr])) := Same.new hT
      have s5 := s4.trans s45
      have e5f := s45 _ _ e4f
      have e5n := s45 _ _ e4n
      have th := (hth.at_ j xr cs exr hcs)
      refine ⟨T, _, rfl, sqT upd_same, rfl, _, _, rfl, _, _, rfl, rfl, ?_⟩
      refine ⟨_, rfl, _, rfl, _, rfl, xr, f2, n2, cs, _, _, rfl, th.ext (Same.x s5), hz cs (List.mem_of_getElem? hcs), e5f, e5n, fun H6 s6 => ⟨_, rfl, ?_⟩⟩
      have S6 := s5.trans s6
      have e6f := s6 _ _ e5f
      have e6n := s6 _ _ e5n
      cases hfit : fitB (nsA N (css.take j)) (fsA F (css.take j)) cs with
      | false =>
        have hb : fitAt N F css j = false := by rw [fitAt_eq hcs]; exact hfit
        have er : r = some j := by
          cases hdue with
          | fine h => rw [h j hjc] at hb; cases hb
          | @bad i hi h h2 =>
            rcases Nat.lt_trichotomy i j with q | q | q
            · rw [hok i q] at h2; cases h2
            · rw [q]
            · rw [h j q] at hb; cases hb
        subst er
        exact iteT ⟨_, rfl, hq _ S6⟩
      | true =>
        refine iteF ?_
        have hok' : ∀ i, i < j + 1 → fitAt N F css i = true := fun i hi => by
          by_cases q : i = j
          · rw [q, fitAt_eq hcs]; exact hfit
          · exact hok i (by omega)
        obtain ⟨z, fo, k, d, rfl, _, _, _, _, _⟩ := fit_inv hfit
        obtain ⟨ra, rfl, rr⟩ : ∃ ra, xr = .ref ra ∧ Seq H ra [.str z, .str fo, .str k, d] := by
          rcases th with ⟨_, e⟩ | ⟨a, e, h, _⟩
          · cases e
          · exact ⟨a, e, h⟩
        have rr6 := rr.same S6
        have lN : (nsA N (css.take j)).length ≤ 300 := by
          unfold nsA
          rw [List.length_append, List.length_map, List.length_take]; omega
        have lF : (fsA F (css.take j)).length ≤ 300 := by
          unfold fsA
          have h1 := List.length_filter_le foC (css.take j)
          rw [List.length_take] at h1
          rw [List.length_append, List.length_map]; omega
        refine ⟨_, rfl, .inl ⟨rfl, _, SqL.of e6n⟩, _, rfl, rd_sqIx rr6 (at0 _ _ _ _) ⟨n2, _, _, rfl, rfl, e6n, small1000 (by rw [List.length_map]; omega), ?_⟩⟩
        have e7n : (upd H6 n2 (.lst ((nsA N (css.take j)).map V.str ++ [V.str z]))) n2 = some (.lst ((nsA N (css.take (j + 1))).map V.str)) := by
          rw [upd_same, nsA_more hcs, List.map_append]; rfl
        have e7f : (upd H6 n2 (.lst ((nsA N (css.take j)).map V.str ++ [V.str z]))) f2 = some (.lst ((fsA F (css.take j)).map V.str)) := by rw [upd_ne nfn]; exact e6f
        have S7 : Same H (upd H6 n2 (.lst ((nsA N (css.take j)).map V.str ++ [V.str z]))) := fun b o e => by rw [upd_ne (ne_of_none e Hn2)]; exact S6 _ _ e
        generalize upd H6 n2 (.lst ((nsA N (css.take j)).map V.str ++ [V.str z])) = H7 at e7n e7f S7
        have rr7 := rr.same S7
        have fin : ∀ (b : Addr) (zs : List Str) (H8 : Hp), Same H7 H8 → H8 b = some (.lst (zs.map V.str)) → zs = (if foC [V.str z, .str fo, .str k, d] = true then [nmC [V.str z, .str fo, .str k, d]] else []) → zs.length ≤ 1 →
            ∃ (l b' : Addr) (xs ws : List V), V.ref f2 = .ref l ∧ [V.ref b] = [V.ref b'] ∧ H8 l = some (.lst xs) ∧ H8 b' = some (.lst ws) ∧ xs.length + ws.length ≤ sizeLine ∧ ((∀ i, i < j + 1 → fitAt N F css i = true) ∧ ∃ v3 v4 : Option V, [some (V.ref D), some (.ref f2), some (.ref n2), some (.int (j : Nat)), some (.ref ra)] = [some (.ref D), some (.ref f2), some (.ref n2), v3, v4] ∧ Same H (upd H8 l (.lst (xs ++ ws))) ∧ (upd H8 l (.lst (xs ++ ws))) f2 = some (.lst ((fsA F (css.take (j + 1))).map V.str)) ∧ (upd H8 l (.lst (xs ++ ws))) n2 = some (.lst ((nsA N (css.take (j + 1))).map V.str))) := by
          intro b zs H8 s8 eb ez lz
          refine ⟨f2, b, _, _, rfl, rfl, s8 _ _ e7f, eb, szl (by rw [List.length_map, List.length_map]; omega), hok', _, _, rfl, fun c o e => ?_, ?_, ?_⟩
          · rw [upd_ne (ne_of_none e Hf2)]; exact s8 _ _ (S7 _ _ e)
          · rw [upd_same, fsA_more hcs, List.map_append, ez]
          · rw [upd_ne nfn.symm]; exact s8 _ _ e7n
        refine ⟨_, rfl, .inl ⟨rfl, _, SqL.of e7f⟩, _, rfl, rd_sqIx rr7 (at2 _ _ _ _) ⟨rfl, _, rfl, ?_⟩⟩
        by_cases ek : k = ("folder" : Str)
        · subst ek
          rw [decide_eq_true rfl]
          refine iteT ⟨_, rfl, rd_sqIx rr7 (at0 _ _ _ _) ⟨(by show 1 ≤ sizeLine; decide), fun b hb => ?_⟩⟩
          exact fin b [z] _ (Same.new hb) upd_same (by rw [if_pos (show foC [V.str z, .str fo, .str ("folder" : Str), d] = true by show decide (("folder" : Str) ∈ [("folder" : Str)]) = true; decide +kernel)]; rfl) (Nat.le_refl _)
        · rw [decide_eq_false (fun q => ek (V.str.inj q))]
          refine iteF ⟨(by show 0 ≤ sizeLine; decide), fun b hb => ?_⟩
          exact fin b [] _ (Same.new hb) upd_same (by rw [if_neg (show ¬ foC [V.str z, .str fo, .str k, d] = true by show ¬ decide (k ∈ [("folder" : Str)]) = true; simp [ek])]) (Nat.zero_le _)
    · rintro σ H4 ⟨hok, v3, v4, rfl, s4, _, _⟩
      have er : r = none := by
        cases hdue with
        | fine h => rfl
        | @bad i hi h h2 =>
          rw [hok i (by rw [hth.len]; exact hi)] at h2
          cases h2
      subst er
      exact hq _ s4
end
end Ts

set_option maxRecDepth 100000
set_option maxHeartbeats 4000000
namespace Ts
open PySem L2
/-! ### all but lists is kept -/
def KL (H H' : Hp) : Prop := ∀ b o, H b = some o → (∀ xs, o ≠ .lst xs) → H' b = some o
theorem KL.of {H H' : Hp} (s : Same H H') : KL H H' := fun b o e _ => s b o e
theorem KL.refl (H : Hp) : KL H H := fun _ _ e _ => e
theorem KL.trans {H H1 H2 : Hp} (x : KL H H1) (y : KL H1 H2) : KL H H2 := fun b o e n => y b o (x b o e n) n
theorem KL.upd {H : Hp} {l : Addr} {xs : List V} {o : HO} (h : H l = some (.lst xs)) : KL H (L2.upd H l o) := fun b o e n => by
  rw [upd_ne (fun q => by rw [q, h] at e; exact n _ (Option.some.inj e).symm)]
  exact e
theorem RowsAt.kl {H H' : Hp} {as : List Addr} {rs : List Row} (h : RowsAt H as rs) (s : KL H H') : RowsAt H' as rs := ⟨h.len, fun i a r ha hr => s _ _ (h.at_ i a r ha hr) (fun _ e => nomatch e)⟩
theorem TreeAt.kl {C : Addr} {H H' : Hp} {t : Addr} {rs : List Row} (h : TreeAt C H t rs) (s : KL H H') : TreeAt C H' t rs := by
  obtain ⟨dx, q, f, k, p, qs, h1, h2, h3, h4, h5, h6⟩ := h.ex
  exact ⟨⟨dx, q, f, k, p, qs, s _ _ h1 (fun _ e => nomatch e), s _ _ h2 (fun _ e => nomatch e), h3.kl s, s _ _ h4 (fun _ e => nomatch e), s _ _ h5 (fun _ e => nomatch e), s _ _ h6 (fun _ e => nomatch e)⟩, h.val, h.len⟩
theorem any_falses : ∀ n : Nat, (List.replicate n false).any id = false
  | 0 => rfl
  | n + 1 => by rw [List.replicate_succ, List.any_cons, any_falses n]; rfl
theorem all_trues : ∀ n : Nat, (List.replicate n true).all id = true
  | 0 => rfl
  | n + 1 => by rw [List.replicate_succ, List.all_cons, all_trues n]; rfl
theorem KL.sb {H H' : Hp} {a : Addr} {n : Int} (st : Stm H a n) (s : SB a H H') : KL H H' := fun b o e no => s b o (fun q => by
  obtain ⟨x, y, z, ea, _⟩ := st
  rw [q, ea] at e
  exact no _ (Option.some.inj e).symm) e
theorem RowsL.sbk {H H' : Hp} {a p : Addr} {rs : List Row} {n : Int} (h : RowsL H p rs) (np : p ≠ a) (st : Stm H a n) (s : SB a H H') : RowsL H' p rs := by
  obtain ⟨as, h1, h2⟩ := h.ex
  exact ⟨as, s _ _ np h1, h2.kl (KL.sb st s)⟩
theorem RowsL.upd {H : Hp} {p l : Addr} {xs : List V} {o : HO} {rs : List Row} (h : RowsL H p rs) (np : p ≠ l) (e : H l = some (.lst xs)) : RowsL (L2.upd H l o) p rs := by
  obtain ⟨as, h1, h2⟩ := h.ex
  exact ⟨as, by rw [upd_ne np]; exact h1, h2.kl (KL.upd e)⟩
theorem smb {H H1 H2 : Hp} {a : Addr} (h : Same H H1) (ha : H a = none) (s : SB a H1 H2) : Same H H2 := fun b o e => s b o (ne_of_none e ha) (h b o e)
theorem smu {H H1 : Hp} {a : Addr} {o : HO} (h : Same H H1) (ha : H a = none) : Same H (L2.upd H1 a o) := fun b o e => by
  rw [upd_ne (ne_of_none e ha)]
  exact h b o e
theorem cut_str (ts : List Str) (lo hi : Option Int) : ∃ zs : List Str, cutV (ts.map V.str) lo hi = zs.map V.str ∧ (∀ z ∈ zs, z ∈ ts) ∧ zs.length ≤ ts.length := by
  refine ⟨(ts.drop (HT.sIx (ts.map V.str).length 0 lo)).take (HT.sIx (ts.map V.str).length (ts.map V.str).length hi - HT.sIx (ts.map V.str).length 0 lo), ?_, fun z hz => List.mem_of_mem_drop (List.mem_of_mem_take hz), ?_⟩
  · unfold cutV
    rw [← List.map_drop, ← List.map_take]
  · rw [List.length_take, List.length_drop]; omega
theorem prices_ok : ∀ q ∈ pricesL, PriceOk q := by
  intro q hq
  simp [pricesL] at hq
  rcases hq with rfl | rfl | rfl | rfl | rfl <;> simp [PriceOk]
theorem kinds_ok3 : ∀ k ∈ kindsL, k ∈ kinds3 := by decide +kernel
theorem iteF' {c : Bool} {A B : Prop} (h : c = false) (b : B) : if c = true then A else B := by rw [h]; exact b
end Ts

set_option maxRecDepth 100000
set_option maxHeartbeats 8000000
namespace Ts
open PySem L2
open LamX (ExtN Tabs TabB)
/-! ### lists stay lists, all else but tables as it is -/
def LX (H H' : Hp) : Prop := ∀ b o, H b = some o → (∀ ps, o ≠ .tbl ps) → H' b = some o ∨ ∃ xs ys : List V, o = .lst xs ∧ H' b = some (.lst ys)
theorem LX.of {H H' : Hp} (s : ExtN H H') : LX H H' := fun b o e n => .inl (s b o e n)
theorem LX.sb {a : Addr} {H H' : Hp} {n m : Int} (st : Stm H a n) (s : SB a H H') (st' : Stm H' a m) : LX H H' := fun b o e _ => by
  by_cases q : b = a
  · subst q
    obtain ⟨x, y, z, h1, _⟩ := st
    obtain ⟨x', y', z', h2, _⟩ := st'
    rw [h1] at e
    cases e
    exact .inr ⟨_, _, rfl, h2⟩
  · exact .inl (s b o q e)
theorem LX.put {H : Hp} {l : Addr} {xs ys : List V} (e : H l = some (.lst xs)) : LX H (upd H l (.lst ys)) := fun b o h _ => by
  by_cases q : b = l
  · subst q
    rw [e] at h
    cases h
    exact .inr ⟨_, _, rfl, upd_same⟩
  · exact .inl (by rw [upd_ne q]; exact h)
theorem OddH.lx {H H' : Hp} {x : V} (h : OddH H x) (s : LX H H') : OddH H' x := by
  rcases h with h | h | h | ⟨a, xs, e, h⟩ | ⟨a, xs, e, h⟩ | ⟨a, xs, e, h⟩
  · exact .inl h
  · exact .inr (.inl h)
  · exact .inr (.inr (.inl h))
  · rcases s _ _ h nofun with h2 | ⟨_, ys, _, h2⟩
    · exact .inr (.inr (.inr (.inl ⟨a, xs, e, h2⟩)))
    · exact .inr (.inr (.inr (.inl ⟨a, ys, e, h2⟩)))
  · rcases s _ _ h nofun with h2 | ⟨_, _, q, _⟩
    · exact .inr (.inr (.inr (.inr (.inl ⟨a, xs, e, h2⟩))))
    · cases q
  · rcases s _ _ h nofun with h2 | ⟨_, _, q, _⟩
    · exact .inr (.inr (.inr (.inr (.inr ⟨a, xs, e, h2⟩))))
    · cases q

theorem CellV.lx {H H' : Hp} {x : V} (h : CellV H x) (s : LX H H') : CellV H' x := h.imp id fun h => h.lx s
theorem NoSq.sb {a : Addr} {H H' : Hp} {n : Int} {y : V} (h : NoSq H y) (st : Stm H a n) (s : SB a H H') : NoSq H' y := by
  rcases h with h | h | h | ⟨b, kvs, e, h⟩
  · exact .inl h
  · exact .inr (.inl h)
  · exact .inr (.inr (.inl h))
  · refine .inr (.inr (.inr ⟨b, kvs, e, s _ _ (fun q => ?_) h⟩))
    obtain ⟨x, y, z, e1, _⟩ := st
    rw [q, e1] at h
    cases h
theorem ThAt.sb {a : Addr} {H H' : Hp} {n m : Int} {y : V} {cs : List V} (h : ThAt H y cs) (na : y ≠ .ref a) (st : Stm H a n) (s : SB a H H') (st' : Stm H' a m) : ThAt H' y cs := by
  rcases h with ⟨h, e⟩ | ⟨b, rfl, hs, l, hc⟩
  · exact .inl ⟨h.sb st s, e⟩
  · exact .inr ⟨b, rfl, hs.imp (s _ _ (fun q => na (by rw [q]))) (s _ _ (fun q => na (by rw [q]))), l, fun c h => (hc c h).lx (LX.sb st s st')⟩
theorem ThL.sb {a : Addr} {H H' : Hp} {n m : Int} {ys : List V} {css : List (List V)} (h : ThL H ys css) (na : ∀ y ∈ ys, y ≠ .ref a) (st : Stm H a n) (s : SB a H H') (st' : Stm H' a m) : ThL H' ys css :=
  ⟨h.len, fun i y cs hy hc => (h.at_ i y cs hy hc).sb (na y (List.mem_of_getElem? hy)) st s st'⟩
theorem ThL.set {H : Hp} {ys : List V} {css : List (List V)} {y : V} {cs : List V} (h : ThL H ys css) (k : Nat) (hy : ThAt H y cs) : ThL H (ys.set k y) (css.set k cs) := by
  refine ⟨by rw [List.length_set, List.length_set]; exact h.len, fun i z ds hz hd => ?_⟩
  rw [List.getElem?_set] at hz hd
  by_cases e : k = i
  · subst e
    rw [if_pos rfl] at hz hd
    by_cases hk : k < ys.length
    · rw [if_pos hk] at hz
      rw [if_pos (by rw [← h.len]; exact hk)] at hd
      cases hz
      cases hd
      exact hy
    · rw [if_neg hk] at hz
      cases hz
  · rw [if_neg e] at hz hd
    exact h.at_ i z ds hz hd
theorem mem_set_of {α : Type} {l : List α} {k : Nat} {x y : α} (h : x ∈ l.set k y) : x ∈ l ∨ x = y := (List.mem_or_eq_of_mem_set h)
/-- rows whose names can be looked at -/
def RowZ (rs : List Row) : Prop := ∀ r ∈ rs, Okz r.nm ∧ r.nm.length ≤ 100 ∧ r.fo.length ≤ 100 ∧ r.ki.length ≤ 100
theorem RowZ.cells {H : Hp} {rs : List Row} (h : RowZ rs) {r : Row} (hr : r ∈ rs) : ∀ c ∈ rowVs r, CellV H c := fun c hc => by
  obtain ⟨_, l1, l2, l3⟩ := h r hr
  simp only [rowVs, List.mem_cons, List.not_mem_nil, or_false] at hc
  rcases hc with rfl | rfl | rfl | rfl
  · exact cell_str l1
  · exact cell_str l2
  · exact cell_str l3
  · exact cell_pr _
theorem head_row {r : Row} (h : Okz r.nm) : HeadZ (rowVs r) := fun z e => by cases e; exact h
theorem RowZ.thl {H : Hp} {as : List Addr} {rs : List Row} (h : RowZ rs) (hr : RowsAt H as rs) : ThL H (as.map V.ref) (rs.map rowVs) := by
  refine ⟨by rw [List.length_map, List.length_map]; exact hr.len, fun i y cs hy hc => ?_⟩
  rw [List.getElem?_map] at hy hc
  obtain ⟨a, ha, rfl⟩ := Option.map_eq_some_iff.mp hy
  obtain ⟨r, hr', rfl⟩ := Option.map_eq_some_iff.mp hc
  exact .inr ⟨a, rfl, .inl (hr.at_ i a r ha hr'), (by show 4 ≤ 10; decide), h.cells (List.mem_of_getElem? hr')⟩
/-- what may be put at a place of a row -/
def PickOk (H : Hp) (i : Nat) (x : V) : Prop := CellV H x ∧ (i = 0 → ∀ z, x = .str z → Okz z)
theorem PickOk.lx {H H' : Hp} {i : Nat} {x : V} (h : PickOk H i x) (s : LX H H') : PickOk H' i x := ⟨h.1.lx s, h.2⟩
theorem PickOk.same {H H' : Hp} {i : Nat} {x : V} (h : PickOk H i x) (s : Same H H') : PickOk H' i x := h.lx (LX.of (Same.x s))
theorem pk_str {H : Hp} {i : Nat} {z : Str} (l : z.length ≤ 100) (h : Okz z) : PickOk H i (.str z) := ⟨cell_str l, fun _ z' e => by cases e; exact h⟩
theorem pk_str' {H : Hp} {i : Nat} {z : Str} (l : z.length ≤ 100) : PickOk H (i + 1) (.str z) := ⟨cell_str l, fun e => by cases e⟩
theorem pk_odd {H : Hp} {i : Nat} {x : V} (h : OddH H x) : PickOk H i x := ⟨.inr h, fun _ z e => by
  subst e
  rcases h with h | ⟨_, h⟩ | ⟨_, h⟩ | ⟨_, _, h, _⟩ | ⟨_, _, h, _⟩ | ⟨_, _, h, _⟩ <;> cases h⟩
def spSpoilt : Sp := fun vs H Q _ => ∃ (a p : Addr) (n : Int) (rs : List Row), vs = [.ref a, .ref p] ∧ Stm H a n ∧ n ≤ 1000000 ∧ RowsL H p rs ∧ p ≠ a ∧ rs ≠ [] ∧ rs.length ≤ 20 ∧ RowZ rs ∧
  ∀ D ys css H', H D = none → D ≠ a → H' D = some (.lst ys) → ThL H' ys css → (∀ cs ∈ css, HeadZ cs) → (∀ y ∈ ys, y ≠ .ref a ∧ y ≠ .ref D) → css.length = rs.length → SB a H H' → Stm H' a (n + 10) → Q (.ref D) H'
/-- what stands while a row is spoilt -/
structure SpS (H G : Hp) (a p D R nl : Addr) (ras : List Addr) (rs : List Row) (rk : Row) (NL : List Str) (n : Int) : Prop where
  np : p ≠ a
  nD : D ≠ a
  nR : R ≠ a
  nn : nl ≠ a
  sb : SB a H G
  st : Stm G a n
  hp : G p = some (.lst (ras.map V.ref))
  rows : RowsAt G ras rs
  eD : G D = some (.lst (ras.map V.ref))
  eR : G R = some (.lst (rowVs rk))
  en : G nl = some (.lst (NL.map V.str))
section
variable {H G G' : Hp} {a p D R nl : Addr} {ras : List Addr} {rs : List Row} {rk : Row} {NL : List Str} {n n' : Int}
theorem SpS.same (h : SpS H G a p D R nl ras rs rk NL n) (s : Same G G') : SpS H G' a p D R nl ras rs rk NL n :=
  ⟨h.np, h.nD, h.nR, h.nn, h.sb.trans (SB.of s), h.st.same s, s _ _ h.hp, h.rows.same s, s _ _ h.eD, s _ _ h.eR, s _ _ h.en⟩
theorem SpS.next (h : SpS H G a p D R nl ras rs rk NL n) (s : SB a G G') (st : Stm G' a n') : SpS H G' a p D R nl ras rs rk NL n' :=
  ⟨h.np, h.nD, h.nR, h.nn, h.sb.trans s, st, s _ _ h.np h.hp, h.rows.kl (KL.sb h.st s), s _ _ h.nD h.eD, s _ _ h.nR h.eR, s _ _ h.nn h.en⟩
structure SpF (H : Hp) (a p D R nl l : Addr) : Prop where
  h : ∀ b o, H b = some o → b ≠ a → b ≠ l
  a : a ≠ l
  p : p ≠ l
  D : D ≠ l
  R : R ≠ l
  n : nl ≠ l
theorem SpS.apart {l : Addr} (h : SpS H G a p D R nl ras rs rk NL n) (hl : G l = none) : SpF H a p D R nl l :=
  ⟨fun b o e k => ne_of_none (h.sb b o k e) hl, h.st.ne hl, ne_of_none h.hp hl, ne_of_none h.eD hl, ne_of_none h.eR hl, ne_of_none h.en hl⟩
theorem SpS.put {l : Addr} {xs ys : List V} (h : SpS H G a p D R nl ras rs rk NL n) (k : SpF H a p D R nl l) (e : G l = some (.lst xs)) : SpS H (upd G l (.lst ys)) a p D R nl ras rs rk NL n := by
  have un : ∀ b o, b ≠ l → G b = some o → (upd G l (.lst ys)) b = some o := fun b o n e => by rw [upd_ne n]; exact e
  have kq : KL G (upd G l (.lst ys)) := fun b o e2 no => un b o (fun q => by rw [q, e] at e2; exact no _ (Option.some.inj e2).symm) e2
  obtain ⟨x9, y9, z9, ea9, h9⟩ := h.st
  exact ⟨h.np, h.nD, h.nR, h.nn, fun b o nb eb => un _ _ (k.h b o eb nb) (h.sb b o nb eb), ⟨x9, y9, z9, un _ _ k.a ea9, h9⟩, un _ _ k.p h.hp, h.rows.kl kq, un _ _ k.D h.eD, un _ _ k.R h.eR, un _ _ k.n h.en⟩
end
theorem ixN_n {n j : Nat} (hj : j < n) : ixN n (j : Int) = some j := by
  unfold ixN
  rw [if_pos (by omega), if_pos (by omega)]
  simp
theorem pick_all {H : Hp} {i : Nat} : (∀ x ∈ ([] : List V), PickOk H i x) := fun x h => by cases h
theorem pick_cons {H : Hp} {i : Nat} {x : V} {xs : List V} (h : PickOk H i x) (t : ∀ y ∈ xs, PickOk H i y) : ∀ y ∈ x :: xs, PickOk H i y := fun y hy => by
  rcases List.mem_cons.mp hy with rfl | hy
  · exact h
  · exact t y hy
section
variable {P : Program} {w : World} {K : PySem.W.Frag} {mg : Str → Option Value} {base : Heap}
abbrev pSp : List Str := ["_law_stream_here", "_law_rows_here"]
abbrev pSm : List Str := ["_law_stream_here", "_law_things"]
abbrev pDw : List Str := ["_law_stream_here", "_law_many"]
abbrev nSp : List Str := ["_law_stream_here", "_law_rows_here", "_law_found", "_law_at", "_law_row", "_law_names", "_law_odd", "_law_place", "_law_strange", "_law_one"]
theorem sc_Sp : FnScope nSp pSp (defScope s_L_spoilt) := ⟨rfl, rfl, rfl, by decide +kernel, rfl, by decide +kernel, by decide +kernel⟩
theorem ok_Sp (D : DefAt K mg "_law_spoilt" s_L_spoilt pSp) (B : TxB mg) (Dd : DefAt K mg "_law_draw" s_L_draw pDw) (Dp : DefAt K mg "_law_pick" s_L_pick pSm) : FnOk P w K mg base CX0 4 D.f D.fd pSp spSpoilt := by
  have Gd : FnOk P w K mg base CX0 2 Dd.f Dd.fd pDw spDraw := ok_draw Dd B
  have Gp : FnOk P w K mg base CX0 3 Dp.f Dp.fd pSm (spPick K) := ok_pick Dp Dd B
  refine D.F.ok sc_Sp (fun vs H Q E h => ?_) (fun cdv A outer s H vs Q E hr h => ?_)
  · obtain ⟨a, p, n, rs, rfl, _⟩ := h
    rfl
  · obtain ⟨a, p, n, rs, rfl, hst, hn, hL, np, hne, hl20, hok, hq⟩ := h
    have r2 : Room 2 _ := hr.mono (by decide)
    refine ⟨_, pss_cons (ps_par (i := 2) (j := 3) rfl sc_Sp.nd rfl rfl (by decide) rfl rfl (pa_cons (pe_callTy (T := "list") call_list_of (by rfl) B.list (by decide +kernel) (pa_cons (pv 1) pa_nil)) (pa_cons (pe_call Gd r2 rfl Dd.g Dd.F.kp Dd.b .nil pass0 (pa_cons (pv 0) (pa_cons (pe_callB call_len_seq (by rfl) B.len PySem.boot_len (pa_cons (pv 1) pa_nil)) pa_nil))) pa_nil)) (by rfl))
      (pss_cons (ps_par (i := 4) (j := 5) rfl sc_Sp.nd rfl rfl (by decide) rfl rfl (pa_cons (pe_callTy (T := "list") call_list_of (by rfl) B.list (by decide +kernel) (pa_cons (pe_ix ix_list (pv 1) (pv 3) (fun _ _ => rfl)) pa_nil)) (pa_cons (pe_op op_cat (pe_lc (own := [("_law_one", 9)]) (g := gName 9) (tt := tYes) (te := tOp (rIxT K) (tVar 9) (tC (.int 0))) rfl sc_Sp.nd (pi_list (pv 1)) (blkOk_by (N := nSp) (sc := defScope s_L_spoilt) (by decide +kernel))
            (fun _ _ _ _ _ => pg_name (i := 9) sc_Sp.nd rfl (Or.inl rfl)) (fun _ _ _ _ _ => pts_nil) (fun _ _ _ _ _ => by exact pe_ix ix_tup (pv 9) pe_int (fun _ _ => rfl))) (pe_lst (pa_cons pe_str pa_nil))) pa_nil)) (by rfl))
      (pss_cons (ps_set (i := 6) sc_Sp.nd rfl (.inl rfl) (pe_lst (pa_cons (pe_lst (pa_cons pe_str (pa_cons pe_str (pa_cons pe_str (pa_cons pe_str (pa_cons pe_non (pa_cons pe_int (pa_cons (pe_call Gp hr rfl Dp.g Dp.F.kp Dp.b .nil pass0 (pa_cons (pv 0) (pa_cons (pv 5) pa_nil))) (pa_cons (pe_tup (pa_cons pe_str pa_nil)) (pa_cons pe_bl pa_nil)))))))))) pa_nil)))
      (pss_cons (ps_expr (pe_bm PySem.F.plainAttrs_list PySem.F.slot_list_extend PySem.F.type_list_extend mt_extend (pe_ix ix_list (pv 6) pe_int (fun _ _ => rfl)) (pa_cons (pe_lst (pa_cons pe_str (pa_cons pe_str (pa_cons pe_str (pa_cons pe_str (pa_cons (pe_lst (pa_cons pe_str pa_nil)) (pa_cons pe_dnewK pa_nil))))))) pa_nil)))
      (pss_cons (ps_expr (pe_bm PySem.F.plainAttrs_list PySem.F.slot_list_append PySem.F.type_list_append mt_append (pv 6) (pa_cons (pe_op op_cat (pe_op op_cat (pe_lst (pa_cons pe_str (pa_cons pe_non (pa_cons pe_str (pa_cons pe_int (pa_cons (pe_lst (pa_cons pe_str pa_nil)) (pa_cons pe_bl pa_nil))))))) (pv 5)) (pv 5)) pa_nil)))
      (pss_cons (ps_expr (pe_bm PySem.F.plainAttrs_list PySem.F.slot_list_append PySem.F.type_list_append mt_append (pv 6) (pa_cons (pe_lst (pa_cons pe_str (pa_cons pe_str (pa_cons pe_non (pa_cons pe_int (pa_cons pe_str (pa_cons (pe_tup (pa_cons pe_str pa_nil)) pa_nil))))))) pa_nil)))
      (pss_cons (ps_expr (pe_bm PySem.F.plainAttrs_list PySem.F.slot_list_append PySem.F.type_list_append mt_append (pv 6) (pa_cons (pe_lst (pa_cons pe_int (pa_cons (pe_un un_neg pe_int) (pa_cons pe_bl (pa_cons pe_bl (pa_cons pe_str (pa_cons (pe_tup (pa_cons pe_int pa_nil)) (pa_cons (pe_lst pa_nil) (pa_cons pe_int pa_nil))))))))) pa_nil)))
      (pss_cons (ps_set (i := 7) sc_Sp.nd rfl (.inl rfl) (pe_call Gd r2 rfl Dd.g Dd.F.kp Dd.b .nil pass0 (pa_cons (pv 0) (pa_cons pe_int pa_nil))))
      (pss_cons (ps_asg (pe_call Gp hr rfl Dp.g Dp.F.kp Dp.b .nil pass0 (pa_cons (pv 0) (pa_cons (pe_ix ix_list (pv 6) (pv 7) (fun _ _ => rfl)) pa_nil))) (pg_sub (pv 4) (pv 7) set_list (fun _ => rfl)))
      (pss_cons (ps_set (i := 8) sc_Sp.nd rfl (.inl rfl) (pe_lst (pa_cons pe_non (pa_cons pe_int (pa_cons pe_str (pa_cons (pe_tup pa_nil) (pa_cons (pe_slice sl_list (pv 4) po_none (po_some pe_int)) (pa_cons (pe_op op_cat (pv 4) (pe_lst (pa_cons pe_int pa_nil))) (pa_cons pe_dnewK pa_nil)))))))))
      (pss_cons (ps_asg (pe_ifExp (pt_cmpR op_eq (pe_call Gd r2 rfl Dd.g Dd.F.kp Dd.b .nil pass0 (pa_cons (pv 0) (pa_cons pe_int pa_nil))) pe_int (nomark _)) (pe_call Gp hr rfl Dp.g Dp.F.kp Dp.b .nil pass0 (pa_cons (pv 0) (pa_cons (pv 8) pa_nil))) (pe_callTy (T := "tuple") call_tuple_of (by rfl) B.tuple (by decide +kernel) (pa_cons (pv 4) pa_nil))) (pg_sub (pv 2) (pv 3) set_list (fun _ => rfl)))
      (pss_one (ps_ret (pv 2))))))))))))), ?_⟩
    obtain ⟨ras, hp, hrows⟩ := id hL.ex
    have lr := hrows.len
    have rpos : 1 ≤ rs.length := by
      cases rs with
      | nil => exact absurd rfl hne
      | cons _ _ => exact Nat.succ_le_succ (Nat.zero_le _)
    refine ⟨_, rfl, p, _, rfl, .inl (SqL.of hp), fun D hD => ?_⟩
    have s1 : Same H (upd H D (.lst (ras.map V.ref))) := Same.new hD
    have eD1 : (upd H D (.lst (ras.map V.ref))) D = some (.lst (ras.map V.ref)) := upd_same
    have Da : D ≠ a := (hst.ne hD).symm
    generalize upd H D (.lst (ras.map V.ref)) = H1 at s1 eD1
    have st1 := hst.same s1
    refine ⟨_, rfl, _, rfl, p, _, rfl, .inl (SqL.of (s1 _ _ hp)), a, _, n, rfl, st1, by omega, by rw [List.length_map]; omega, by rw [List.length_map]; omega, fun r H2 r0 r1 st2 he2 => ⟨_, _, rfl, ?_⟩⟩
    rw [List.length_map] at r1
    have sb2 := sb_eq (H := H1) he2
    obtain ⟨k, rfl⟩ : ∃ k : Nat, r = (k : Int) := ⟨r.toNat, by omega⟩
    have hk : k < rs.length := by omega
    obtain ⟨rk, hrk⟩ : ∃ r, rs[k]? = some r := ⟨_, List.getElem?_eq_getElem hk⟩
    obtain ⟨ak, hak⟩ : ∃ x, ras[k]? = some x := ⟨ras[k]'(by omega), List.getElem?_eq_getElem _⟩
    have rows2 := (hrows.same s1).kl (KL.sb st1 sb2)
    have hp2 := sb2 _ _ np (s1 _ _ hp)
    have eD2 := sb2 _ _ Da eD1
    have SB2 : SB a H H2 := (SB.of s1).trans sb2
    have hmk := List.mem_of_getElem? hrk
    refine ⟨_, rfl, _, rfl, p, _, _, _, rfl, rfl, SqL.of hp2, atI_nat (j := k) (by rw [List.getElem?_map, hak]; rfl), ak, _, rfl, .inr (sqT (rows2.at_ k ak rk hak hrk)), fun R hR => ?_⟩
    have s3 : Same H2 (upd H2 R (.lst (rowVs rk))) := Same.new hR
    have eR3 : (upd H2 R (.lst (rowVs rk))) R = some (.lst (rowVs rk)) := upd_same
    have Ra : R ≠ a := (st2.ne hR).symm
    have hRa : R ≠ a := Ra
    have hRp : p ≠ R := ne_of_none hp2 hR
    have hRD : D ≠ R := ne_of_none eD2 hR
    have hRh : ∀ b o, H b = some o → b ≠ R := fun b o e => by
      by_cases q : b = a
      · rw [q]; exact Ra.symm
      · exact ne_of_none (SB2 b o q e) hR
    generalize upd H2 R (.lst (rowVs rk)) = H3 at s3 eR3
    have hp3 := s3 _ _ hp2
    have rows3 := rows2.same s3
    refine ⟨_, rfl, p, rfl, ⟨_, SqL.of hp3⟩, fun Nb hNb => ?_⟩
    refine lc_list (K := K) (a := p) (xs := ras.map V.ref) (fun i H' => Same H3 H' ∧ H' Nb = some (.lst (((rs.take i).map (·.nm)).map V.str))) ⟨Same.new hNb, upd_same⟩ (fun i H' _ m => SqL.of (m.1 _ _ hp3)) ?_ ?_
    · rintro i x H4 hx ⟨s4, e4⟩
      obtain ⟨ra, r, rfl, hra, hr', e0⟩ := rows_at rows3 hx
      refine ⟨rfl, tYes_if ⟨_, rfl, ra, _, _, _, rfl, rfl, sqT (s4 _ _ e0), atI0 _ _ _ _, _, e4, small1000 (by rw [List.length_map, List.length_map, List.length_take]; omega), fun b o eb => ?_, ?_⟩⟩
      · rw [upd_ne (fun y => by rw [y, hNb] at eb; cases eb)]
        exact s4 _ _ eb
      · rw [upd_same, take_more hr', List.map_append, List.map_append]; rfl
    rintro H4 ⟨s4, e4⟩
    rw [List.length_map, rows3.len, List.take_length] at e4
    refine ⟨(by show 1 ≤ sizeLine; decide), fun t1 ht1 => ?_⟩
    have s5 : Same H4 (upd H4 t1 (.lst [V.str ("top" : Str)])) := Same.new ht1
    have e5 : (upd H4 t1 (.lst [V.str ("top" : Str)])) t1 = some (.lst [V.str ("top" : Str)]) := upd_same
    generalize upd H4 t1 (.lst [V.str ("top" : Str)]) = H5 at s5 e5
    have lnm : ((rs.map (·.nm)).map V.str).length ≤ 20 := by rw [List.length_map, List.length_map]; exact hl20
    refine ⟨Nb, t1, _, _, rfl, rfl, s5 _ _ e4, e5, szl (by show _ + 1 ≤ 1000; omega), fun nl hnl => ⟨_, _, rfl, ?_⟩⟩
    have s6 : Same H5 (upd H5 nl (.lst ((rs.map (·.nm)).map V.str ++ [V.str ("top" : Str)]))) := Same.new hnl
    have e6 : (upd H5 nl (.lst ((rs.map (·.nm)).map V.str ++ [V.str ("top" : Str)]))) nl = some (.lst ((rs.map (·.nm) ++ [("top" : Str)]).map V.str)) := by rw [upd_same, List.map_append]; rfl
    have nla : nl ≠ a := (((st2.same s3).same (s4.trans s5)).ne hnl).symm
    generalize upd H5 nl (.lst ((rs.map (·.nm)).map V.str ++ [V.str ("top" : Str)])) = H6 at s6 e6
    have s36 := (s4.trans s5).trans s6
    have s26 := s3.trans s36
    obtain ⟨NL, eNL⟩ : ∃ NL, NL = rs.map (·.nm) ++ [("top" : Str)] := ⟨_, rfl⟩
    rw [← eNL] at e6
    have lNL : NL.length ≤ 21 ∧ 1 ≤ NL.length := by rw [eNL, List.length_append, List.length_map]; exact ⟨by show _ + 1 ≤ 21; omega, by show 1 ≤ _ + 1; omega⟩
    have okN : ∀ z ∈ NL, z.length ≤ 100 ∧ Okz z := fun z hz => by
      rw [eNL] at hz
      rcases List.mem_append.mp hz with h | h
      · obtain ⟨r, hr, rfl⟩ := List.mem_map.mp h
        exact ⟨(hok r hr).2.1, (hok r hr).1⟩
      · rw [List.mem_singleton.mp h]
        exact ⟨by decide +kernel, okz_no (by decide +kernel) (by decide +kernel)⟩
    have W6 : SpS H H6 a p D R nl ras rs rk NL (n + 1) := ⟨np, Da, Ra, nla, SB2.trans (SB.of s26), st2.same s26, s26 _ _ hp2, rows2.same s26, s26 _ _ eD2, s36 _ _ eR3, e6⟩
    clear s1 eD1 st1 he2 sb2 rows2 hp2 eD2 SB2 s3 eR3 hp3 rows3 s4 e4 s5 e5 s6 e6 s36 s26 hR hNb ht1 hnl st2 nla Ra eNL lnm
    -- odd things for the name
    refine ⟨_, rfl, _, rfl, .inl ⟨a, nl, _, _, rfl, W6.st, by omega, W6.nn, SqL.of W6.en, by rw [List.length_map]; omega, by rw [List.length_map]; omega, fun v H7 hv st7 sb7 _ => ?_⟩⟩
    obtain ⟨zv, hzv, rfl⟩ := List.mem_map.mp hv
    have W7 := W6.next sb7 st7
    clear W6 sb7 st7 hv
    refine ⟨(by show 1 ≤ sizeLine; decide), fun t2 ht2 => ?_⟩
    have s8 : Same H7 (upd H7 t2 (.tup [V.str ("a" : Str)])) := Same.new ht2
    have e8 : (upd H7 t2 (.tup [V.str ("a" : Str)])) t2 = some (.tup [V.str ("a" : Str)]) := upd_same
    generalize upd H7 t2 (.tup [V.str ("a" : Str)]) = H8 at s8 e8
    refine ⟨(by show 9 ≤ sizeLine; decide), fun l0 hl0 => ?_⟩
    have F0 := (W7.same s8).apart hl0
    have s9 : Same H8 (upd H8 l0 (.lst [V.str ("" : Str), V.str ("top" : Str), V.str ("x1" : Str), V.str ("ninesigns" : Str), V.non, V.int 5, V.str zv, V.ref t2, V.bl true])) := Same.new hl0
    have e9 : (upd H8 l0 (.lst [V.str ("" : Str), V.str ("top" : Str), V.str ("x1" : Str), V.str ("ninesigns" : Str), V.non, V.int 5, V.str zv, V.ref t2, V.bl true])) l0 = some (.lst [V.str ("" : Str), V.str ("top" : Str), V.str ("x1" : Str), V.str ("ninesigns" : Str), V.non, V.int 5, V.str zv, V.ref t2, V.bl true]) := upd_same
    generalize upd H8 l0 (.lst [V.str ("" : Str), V.str ("top" : Str), V.str ("x1" : Str), V.str ("ninesigns" : Str), V.non, V.int 5, V.str zv, V.ref t2, V.bl true]) = H9 at s9 e9
    refine ⟨(by show 1 ≤ sizeLine; decide), fun od hod => ?_⟩
    have Fo := ((W7.same s8).same s9).apart hod
    have n0o : l0 ≠ od := ne_of_none e9 hod
    have s10 : Same H9 (upd H9 od (.lst [V.ref l0])) := Same.new hod
    have e10 : (upd H9 od (.lst [V.ref l0])) od = some (.lst [V.ref l0]) := upd_same
    generalize upd H9 od (.lst [V.ref l0]) = H10 at s10 e10
    refine ⟨_, rfl, od, _, _, _, rfl, rfl, SqL.of e10, atI_nat (j := 0) rfl, .inl ⟨rfl, _, SqL.of (s10 _ _ e9)⟩, ?_⟩
    refine ⟨(by show 1 ≤ sizeLine; decide), fun t3 ht3 => ?_⟩
    have s11 : Same H10 (upd H10 t3 (.lst [V.str ("a" : Str)])) := Same.new ht3
    have e11 : (upd H10 t3 (.lst [V.str ("a" : Str)])) t3 = some (.lst [V.str ("a" : Str)]) := upd_same
    generalize upd H10 t3 (.lst [V.str ("a" : Str)]) = H11 at s11 e11
    refine fun d1 hd1 => ?_
    have s12 : Same H11 (upd H11 d1 (.dK [])) := Same.new hd1
    have e12 : (upd H11 d1 (.dK [])) d1 = some (.dK []) := upd_same
    generalize upd H11 d1 (.dK []) = H12 at s12 e12
    refine ⟨(by show 6 ≤ sizeLine; decide), fun t4 ht4 => ?_⟩
    have s13 : Same H12 (upd H12 t4 (.lst [V.str ("Abe" : Str), V.str ("aB" : Str), V.str ("a b" : Str), V.str ("a-b" : Str), V.ref t3, V.ref d1])) := Same.new ht4
    have e13 : (upd H12 t4 (.lst [V.str ("Abe" : Str), V.str ("aB" : Str), V.str ("a b" : Str), V.str ("a-b" : Str), V.ref t3, V.ref d1])) t4 = some (.lst [V.str ("Abe" : Str), V.str ("aB" : Str), V.str ("a b" : Str), V.str ("a-b" : Str), V.ref t3, V.ref d1]) := upd_same
    generalize upd H12 t4 (.lst [V.str ("Abe" : Str), V.str ("aB" : Str), V.str ("a b" : Str), V.str ("a-b" : Str), V.ref t3, V.ref d1]) = H13 at s13 e13
    have s1013 := (s11.trans s12).trans s13
    have e90 := s1013 _ _ (s10 _ _ e9)
    refine ⟨l0, t4, _, _, rfl, rfl, e90, e13, (by show 9 + 6 ≤ sizeLine; decide), ?_⟩
    have W13 := ((((W7.same s8).same s9).same s10).same s1013).put F0 e90 (ys := [V.str ("" : Str), V.str ("top" : Str), V.str ("x1" : Str), V.str ("ninesigns" : Str), V.non, V.int 5, V.str zv, V.ref t2, V.bl true] ++ [V.str ("Abe" : Str), V.str ("aB" : Str), V.str ("a b" : Str), V.str ("a-b" : Str), V.ref t3, V.ref d1])
    have X0 : ∀ x ∈ [V.str ("" : Str), V.str ("top" : Str), V.str ("x1" : Str), V.str ("ninesigns" : Str), V.non, V.int 5, V.str zv, V.ref t2, V.bl true] ++ [V.str ("Abe" : Str), V.str ("aB" : Str), V.str ("a b" : Str), V.str ("a-b" : Str), V.ref t3, V.ref d1], PickOk H13 0 x := by
      have o2 : OddH H13 (.ref t2) := .inr (.inr (.inr (.inr (.inl ⟨_, _, rfl, (s9.trans (s10.trans s1013)) _ _ e8⟩))))
      have o3 : OddH H13 (.ref t3) := .inr (.inr (.inr (.inl ⟨_, _, rfl, (s12.trans s13) _ _ e11⟩)))
      have o4 : OddH H13 (.ref d1) := .inr (.inr (.inr (.inr (.inr ⟨_, _, rfl, s13 _ _ e12⟩))))
      have lit : ∀ {z : Str}, z.length ≤ 100 → lawNm z = false → nmB z = false → PickOk H13 0 (.str z) := fun l h1 h2 => pk_str l (okz_no h1 h2)
      refine pick_cons (lit (by decide +kernel) (by decide +kernel) (by decide +kernel)) (pick_cons (lit (by decide +kernel) (by decide +kernel) (by decide +kernel)) (pick_cons (lit (by decide +kernel) (by decide +kernel) (by decide +kernel)) (pick_cons (lit (by decide +kernel) (by decide +kernel) (by decide +kernel)) (pick_cons (pk_odd (.inl rfl)) (pick_cons (pk_odd (.inr (.inl ⟨_, rfl⟩))) (pick_cons (pk_str (okN zv hzv).1 (okN zv hzv).2) (pick_cons (pk_odd o2) (pick_cons (pk_odd (.inr (.inr (.inl ⟨_, rfl⟩)))) ?_))))))))
      exact pick_cons (lit (by decide +kernel) (by decide +kernel) (by decide +kernel)) (pick_cons (lit (by decide +kernel) (by decide +kernel) (by decide +kernel)) (pick_cons (lit (by decide +kernel) (by decide +kernel) (by decide +kernel)) (pick_cons (lit (by decide +kernel) (by decide +kernel) (by decide +kernel)) (pick_cons (pk_odd o3) (pick_cons (pk_odd o4) pick_all)))))
    have LX0 : LX H13 (upd H13 l0 (.lst ([V.str ("" : Str), V.str ("top" : Str), V.str ("x1" : Str), V.str ("ninesigns" : Str), V.non, V.int 5, V.str zv, V.ref t2, V.bl true] ++ [V.str ("Abe" : Str), V.str ("aB" : Str), V.str ("a b" : Str), V.str ("a-b" : Str), V.ref t3, V.ref d1]))) := LX.put e90
    have X0' : ∀ x ∈ [V.str ("" : Str), V.str ("top" : Str), V.str ("x1" : Str), V.str ("ninesigns" : Str), V.non, V.int 5, V.str zv, V.ref t2, V.bl true] ++ [V.str ("Abe" : Str), V.str ("aB" : Str), V.str ("a b" : Str), V.str ("a-b" : Str), V.ref t3, V.ref d1], PickOk (upd H13 l0 (.lst ([V.str ("" : Str), V.str ("top" : Str), V.str ("x1" : Str), V.str ("ninesigns" : Str), V.non, V.int 5, V.str zv, V.ref t2, V.bl true] ++ [V.str ("Abe" : Str), V.str ("aB" : Str), V.str ("a b" : Str), V.str ("a-b" : Str), V.ref t3, V.ref d1]))) 0 x := fun x hx => (X0 x hx).lx LX0
    have lX0 : ([V.str ("" : Str), V.str ("top" : Str), V.str ("x1" : Str), V.str ("ninesigns" : Str), V.non, V.int 5, V.str zv, V.ref t2, V.bl true] ++ [V.str ("Abe" : Str), V.str ("aB" : Str), V.str ("a b" : Str), V.str ("a-b" : Str), V.ref t3, V.ref d1]).length = 15 := rfl
    have eo13 : (upd H13 l0 (.lst ([V.str ("" : Str), V.str ("top" : Str), V.str ("x1" : Str), V.str ("ninesigns" : Str), V.non, V.int 5, V.str zv, V.ref t2, V.bl true] ++ [V.str ("Abe" : Str), V.str ("aB" : Str), V.str ("a b" : Str), V.str ("a-b" : Str), V.ref t3, V.ref d1]))) od = some (.lst [V.ref l0]) := by rw [upd_ne n0o.symm]; exact s1013 _ _ e10
    have el13 : (upd H13 l0 (.lst ([V.str ("" : Str), V.str ("top" : Str), V.str ("x1" : Str), V.str ("ninesigns" : Str), V.non, V.int 5, V.str zv, V.ref t2, V.bl true] ++ [V.str ("Abe" : Str), V.str ("aB" : Str), V.str ("a b" : Str), V.str ("a-b" : Str), V.ref t3, V.ref d1]))) l0 = some (.lst ([V.str ("" : Str), V.str ("top" : Str), V.str ("x1" : Str), V.str ("ninesigns" : Str), V.non, V.int 5, V.str zv, V.ref t2, V.bl true] ++ [V.str ("Abe" : Str), V.str ("aB" : Str), V.str ("a b" : Str), V.str ("a-b" : Str), V.ref t3, V.ref d1])) := upd_same
    generalize [V.str ("" : Str), V.str ("top" : Str), V.str ("x1" : Str), V.str ("ninesigns" : Str), V.non, V.int 5, V.str zv, V.ref t2, V.bl true] ++ [V.str ("Abe" : Str), V.str ("aB" : Str), V.str ("a b" : Str), V.str ("a-b" : Str), V.ref t3, V.ref d1] = Y0 at W13 X0' lX0 eo13 el13
    generalize upd H13 l0 (.lst Y0) = G0 at W13 X0' eo13 el13
    have nl0a : l0 ≠ a := F0.a.symm
    have noa : od ≠ a := Fo.a.symm
    clear X0 LX0 e90 s1013 s13 e13 s12 e12 s11 e11 s10 e10 s9 e9 s8 e8 W7 ht2 hl0 hod ht3 hd1 ht4 F0
    -- for the folder
    refine ⟨_, rfl, .inl ⟨rfl, _, SqL.of eo13⟩, ?_⟩
    refine ⟨(by show 1 ≤ sizeLine; decide), fun t5 ht5 => ?_⟩
    have sg1 : Same G0 (upd G0 t5 (.lst [V.str ("top" : Str)])) := Same.new ht5
    have eg1 : (upd G0 t5 (.lst [V.str ("top" : Str)])) t5 = some (.lst [V.str ("top" : Str)]) := upd_same
    generalize upd G0 t5 (.lst [V.str ("top" : Str)]) = G1 at sg1 eg1
    refine ⟨(by show 6 ≤ sizeLine; decide), fun t6 ht6 => ?_⟩
    have sg2 : Same G1 (upd G1 t6 (.lst [V.str ("nobody" : Str), V.non, V.str ("" : Str), V.int 5, V.ref t5, V.bl true])) := Same.new ht6
    have eg2 : (upd G1 t6 (.lst [V.str ("nobody" : Str), V.non, V.str ("" : Str), V.int 5, V.ref t5, V.bl true])) t6 = some (.lst [V.str ("nobody" : Str), V.non, V.str ("" : Str), V.int 5, V.ref t5, V.bl true]) := upd_same
    generalize upd G1 t6 (.lst [V.str ("nobody" : Str), V.non, V.str ("" : Str), V.int 5, V.ref t5, V.bl true]) = G2 at sg2 eg2
    have en2 := (W13.same (sg1.trans sg2)).en
    refine ⟨_, rfl, t6, nl, _, _, rfl, rfl, eg2, en2, szl (by rw [List.length_map]; show 6 + _ ≤ 1000; omega), fun t7 ht7 => ?_⟩
    have sg3 : Same G2 (upd G2 t7 (.lst ([V.str ("nobody" : Str), V.non, V.str ("" : Str), V.int 5, V.ref t5, V.bl true] ++ NL.map V.str))) := Same.new ht7
    have eg3 : (upd G2 t7 (.lst ([V.str ("nobody" : Str), V.non, V.str ("" : Str), V.int 5, V.ref t5, V.bl true] ++ NL.map V.str))) t7 = some (.lst ([V.str ("nobody" : Str), V.non, V.str ("" : Str), V.int 5, V.ref t5, V.bl true] ++ NL.map V.str)) := upd_same
    generalize upd G2 t7 (.lst ([V.str ("nobody" : Str), V.non, V.str ("" : Str), V.int 5, V.ref t5, V.bl true] ++ NL.map V.str)) = G3 at sg3 eg3
    refine ⟨_, rfl, t7, nl, _, _, rfl, rfl, eg3, sg3 _ _ en2, szl (by rw [List.length_append, List.length_map]; show 6 + _ + _ ≤ 1000; omega), fun l1 hl1 => ?_⟩
    have sg4 : Same G3 (upd G3 l1 (.lst (([V.str ("nobody" : Str), V.non, V.str ("" : Str), V.int 5, V.ref t5, V.bl true] ++ NL.map V.str) ++ NL.map V.str))) := Same.new hl1
    have eg4 : (upd G3 l1 (.lst (([V.str ("nobody" : Str), V.non, V.str ("" : Str), V.int 5, V.ref t5, V.bl true] ++ NL.map V.str) ++ NL.map V.str))) l1 = some (.lst (([V.str ("nobody" : Str), V.non, V.str ("" : Str), V.int 5, V.ref t5, V.bl true] ++ NL.map V.str) ++ NL.map V.str)) := upd_same
    generalize upd G3 l1 (.lst (([V.str ("nobody" : Str), V.non, V.str ("" : Str), V.int 5, V.ref t5, V.bl true] ++ NL.map V.str) ++ NL.map V.str)) = G4 at sg4 eg4
    have sg14 := ((sg1.trans sg2).trans sg3).trans sg4
    have eo14 := sg14 _ _ eo13
    have n1o : l1 ≠ od := fun q => ne_of_none (((sg1.trans sg2).trans sg3) _ _ eo13) hl1 q.symm
    have n1a : l1 ≠ a := ((W13.same ((sg1.trans sg2).trans sg3)).st.ne hl1).symm
    refine ⟨od, _, _, rfl, rfl, eo14, small1000 (by show 1 ≤ 1000; decide), ?_⟩
    have X1 : ∀ x ∈ (([V.str ("nobody" : Str), V.non, V.str ("" : Str), V.int 5, V.ref t5, V.bl true] ++ NL.map V.str) ++ NL.map V.str), PickOk G4 1 x := by
      have o5 : OddH G4 (.ref t5) := .inr (.inr (.inr (.inl ⟨_, _, rfl, (sg2.trans (sg3.trans sg4)) _ _ eg1⟩)))
      have nmz : ∀ x ∈ NL.map V.str, PickOk G4 1 x := fun x hx => by
        obtain ⟨z, hz, rfl⟩ := List.mem_map.mp hx
        exact pk_str' (okN z hz).1
      intro x hx
      rcases List.mem_append.mp hx with hx | hx
      · rcases List.mem_append.mp hx with hx | hx
        · exact pick_cons (pk_str' (by decide +kernel)) (pick_cons (pk_odd (.inl rfl)) (pick_cons (pk_str' (by decide +kernel)) (pick_cons (pk_odd (.inr (.inl ⟨_, rfl⟩))) (pick_cons (pk_odd o5) (pick_cons (pk_odd (.inr (.inr (.inl ⟨_, rfl⟩)))) pick_all))))) x hx
        · exact nmz x hx
      · exact nmz x hx
    have lX1 : 1 ≤ (([V.str ("nobody" : Str), V.non, V.str ("" : Str), V.int 5, V.ref t5, V.bl true] ++ NL.map V.str) ++ NL.map V.str).length ∧ (([V.str ("nobody" : Str), V.non, V.str ("" : Str), V.int 5, V.ref t5, V.bl true] ++ NL.map V.str) ++ NL.map V.str).length ≤ 1000 := by
      rw [List.length_append, List.length_append, List.length_map]
      exact ⟨by show 1 ≤ 6 + _ + _; omega, by show 6 + _ + _ ≤ 1000; omega⟩
    have el14 := sg14 _ _ el13
    generalize (([V.str ("nobody" : Str), V.non, V.str ("" : Str), V.int 5, V.ref t5, V.bl true] ++ NL.map V.str) ++ NL.map V.str) = Y1 at X1 lX1 eg4
    have LX1 : LX G4 (upd G4 od (.lst ([V.ref l0] ++ [V.ref l1]))) := LX.put eo14
    have X0a : ∀ x ∈ Y0, PickOk (upd G4 od (.lst ([V.ref l0] ++ [V.ref l1]))) 0 x := fun x hx => ((X0' x hx).same sg14).lx LX1
    have X1a : ∀ x ∈ Y1, PickOk (upd G4 od (.lst ([V.ref l0] ++ [V.ref l1]))) 1 x := fun x hx => (X1 x hx).lx LX1
    have W14 := (W13.same sg14).put Fo eo14 (ys := [V.ref l0] ++ [V.ref l1])
    have el0b : (upd G4 od (.lst ([V.ref l0] ++ [V.ref l1]))) l0 = some (.lst Y0) := by rw [upd_ne n0o]; exact el14
    have el1b : (upd G4 od (.lst ([V.ref l0] ++ [V.ref l1]))) l1 = some (.lst Y1) := by rw [upd_ne n1o]; exact eg4
    have eob : (upd G4 od (.lst ([V.ref l0] ++ [V.ref l1]))) od = some (.lst [V.ref l0, V.ref l1]) := upd_same
    generalize upd G4 od (.lst ([V.ref l0] ++ [V.ref l1])) = P0 at X0a X1a W14 el0b el1b eob
    clear X0' X1 LX1 el14 eo14 sg14 sg1 eg1 sg2 eg2 sg3 eg3 sg4 eg4 ht5 ht6 ht7 hl1 W13 el13 eo13 en2
    -- for the kind
    refine ⟨_, rfl, .inl ⟨rfl, _, SqL.of eob⟩, ?_⟩
    refine ⟨(by show 1 ≤ sizeLine; decide), fun t8 ht8 => ?_⟩
    have sp1 : Same P0 (upd P0 t8 (.tup [V.str ("item" : Str)])) := Same.new ht8
    have ep1 : (upd P0 t8 (.tup [V.str ("item" : Str)])) t8 = some (.tup [V.str ("item" : Str)]) := upd_same
    generalize upd P0 t8 (.tup [V.str ("item" : Str)]) = P1 at sp1 ep1
    refine ⟨(by show 6 ≤ sizeLine; decide), fun l2 hl2 => ?_⟩
    have sp2 : Same P1 (upd P1 l2 (.lst [V.str ("Folder" : Str), V.str ("" : Str), V.non, V.int 1, V.str ("items" : Str), V.ref t8])) := Same.new hl2
    have ep2 : (upd P1 l2 (.lst [V.str ("Folder" : Str), V.str ("" : Str), V.non, V.int 1, V.str ("items" : Str), V.ref t8])) l2 = some (.lst [V.str ("Folder" : Str), V.str ("" : Str), V.non, V.int 1, V.str ("items" : Str), V.ref t8]) := upd_same
    generalize upd P1 l2 (.lst [V.str ("Folder" : Str), V.str ("" : Str), V.non, V.int 1, V.str ("items" : Str), V.ref t8]) = P2 at sp2 ep2
    have sp12 := sp1.trans sp2
    have eo15 := sp12 _ _ eob
    have n2o : l2 ≠ od := fun q => ne_of_none (sp1 _ _ eob) hl2 q.symm
    have n2a : l2 ≠ a := ((W14.same sp1).st.ne hl2).symm
    refine ⟨od, _, _, rfl, rfl, eo15, small1000 (by show 2 ≤ 1000; decide), ?_⟩
    have X2 : ∀ x ∈ [V.str ("Folder" : Str), V.str ("" : Str), V.non, V.int 1, V.str ("items" : Str), V.ref t8], PickOk P2 2 x := by
      have o8 : OddH P2 (.ref t8) := .inr (.inr (.inr (.inr (.inl ⟨_, _, rfl, sp2 _ _ ep1⟩))))
      exact pick_cons (pk_str' (by decide +kernel)) (pick_cons (pk_str' (by decide +kernel)) (pick_cons (pk_odd (.inl rfl)) (pick_cons (pk_odd (.inr (.inl ⟨_, rfl⟩))) (pick_cons (pk_str' (by decide +kernel)) (pick_cons (pk_odd o8) pick_all)))))
    have lX2 : ([V.str ("Folder" : Str), V.str ("" : Str), V.non, V.int 1, V.str ("items" : Str), V.ref t8]).length = 6 := rfl
    generalize [V.str ("Folder" : Str), V.str ("" : Str), V.non, V.int 1, V.str ("items" : Str), V.ref t8] = Y2 at X2 lX2 ep2
    have LX2 : LX P2 (upd P2 od (.lst ([V.ref l0, V.ref l1] ++ [V.ref l2]))) := LX.put eo15
    have X0b : ∀ x ∈ Y0, PickOk (upd P2 od (.lst ([V.ref l0, V.ref l1] ++ [V.ref l2]))) 0 x := fun x hx => ((X0a x hx).same sp12).lx LX2
    have X1b : ∀ x ∈ Y1, PickOk (upd P2 od (.lst ([V.ref l0, V.ref l1] ++ [V.ref l2]))) 1 x := fun x hx => ((X1a x hx).same sp12).lx LX2
    have X2b : ∀ x ∈ Y2, PickOk (upd P2 od (.lst ([V.ref l0, V.ref l1] ++ [V.ref l2]))) 2 x := fun x hx => (X2 x hx).lx LX2
    have W15 := (W14.same sp12).put Fo eo15 (ys := [V.ref l0, V.ref l1] ++ [V.ref l2])
    have el0c : (upd P2 od (.lst ([V.ref l0, V.ref l1] ++ [V.ref l2]))) l0 = some (.lst Y0) := by rw [upd_ne n0o]; exact sp12 _ _ el0b
    have el1c : (upd P2 od (.lst ([V.ref l0, V.ref l1] ++ [V.ref l2]))) l1 = some (.lst Y1) := by rw [upd_ne n1o]; exact sp12 _ _ el1b
    have el2c : (upd P2 od (.lst ([V.ref l0, V.ref l1] ++ [V.ref l2]))) l2 = some (.lst Y2) := by rw [upd_ne n2o]; exact ep2
    have eoc : (upd P2 od (.lst ([V.ref l0, V.ref l1] ++ [V.ref l2]))) od = some (.lst [V.ref l0, V.ref l1, V.ref l2]) := upd_same
    generalize upd P2 od (.lst ([V.ref l0, V.ref l1] ++ [V.ref l2])) = Q0 at X0b X1b X2b W15 el0c el1c el2c eoc
    clear X0a X1a X2 LX2 eo15 sp12 sp1 ep1 sp2 ep2 ht8 hl2 W14 el0b el1b eob
    -- for the price
    refine ⟨_, rfl, .inl ⟨rfl, _, SqL.of eoc⟩, ?_⟩
    refine ⟨_, rfl, (by show 1 ≤ sizeLine; decide), fun t9 ht9 => ?_⟩
    have sq1 : Same Q0 (upd Q0 t9 (.tup [V.int 1])) := Same.new ht9
    have eq1 : (upd Q0 t9 (.tup [V.int 1])) t9 = some (.tup [V.int 1]) := upd_same
    generalize upd Q0 t9 (.tup [V.int 1]) = Q1 at sq1 eq1
    refine ⟨(by show 0 ≤ sizeLine; decide), fun t10 ht10 => ?_⟩
    have sq2 : Same Q1 (upd Q1 t10 (.lst [])) := Same.new ht10
    have eq2 : (upd Q1 t10 (.lst [])) t10 = some (.lst []) := upd_same
    generalize upd Q1 t10 (.lst []) = Q2 at sq2 eq2
    refine ⟨(by show 8 ≤ sizeLine; decide), fun l3 hl3 => ?_⟩
    have sq3 : Same Q2 (upd Q2 l3 (.lst [V.int 0, V.int (-1), V.bl true, V.bl false, V.str ("1" : Str), V.ref t9, V.ref t10, V.int 2])) := Same.new hl3
    have eq3 : (upd Q2 l3 (.lst [V.int 0, V.int (-1), V.bl true, V.bl false, V.str ("1" : Str), V.ref t9, V.ref t10, V.int 2])) l3 = some (.lst [V.int 0, V.int (-1), V.bl true, V.bl false, V.str ("1" : Str), V.ref t9, V.ref t10, V.int 2]) := upd_same
    generalize upd Q2 l3 (.lst [V.int 0, V.int (-1), V.bl true, V.bl false, V.str ("1" : Str), V.ref t9, V.ref t10, V.int 2]) = Q3 at sq3 eq3
    have sq13 := (sq1.trans sq2).trans sq3
    have eo16 := sq13 _ _ eoc
    have n3o : l3 ≠ od := fun q => ne_of_none ((sq1.trans sq2) _ _ eoc) hl3 q.symm
    have n3a : l3 ≠ a := ((W15.same (sq1.trans sq2)).st.ne hl3).symm
    refine ⟨od, _, _, rfl, rfl, eo16, small1000 (by show 3 ≤ 1000; decide), ?_⟩
    have X3 : ∀ x ∈ [V.int 0, V.int (-1), V.bl true, V.bl false, V.str ("1" : Str), V.ref t9, V.ref t10, V.int 2], PickOk Q3 3 x := by
      have o9 : OddH Q3 (.ref t9) := .inr (.inr (.inr (.inr (.inl ⟨_, _, rfl, (sq2.trans sq3) _ _ eq1⟩))))
      have o10 : OddH Q3 (.ref t10) := .inr (.inr (.inr (.inl ⟨_, _, rfl, sq3 _ _ eq2⟩)))
      have oi : ∀ i : Int, PickOk Q3 3 (.int i) := fun i => pk_odd (.inr (.inl ⟨_, rfl⟩))
      have ob : ∀ b : Bool, PickOk Q3 3 (.bl b) := fun b => pk_odd (.inr (.inr (.inl ⟨_, rfl⟩)))
      exact pick_cons (oi _) (pick_cons (oi _) (pick_cons (ob _) (pick_cons (ob _) (pick_cons (pk_str' (by decide +kernel)) (pick_cons (pk_odd o9) (pick_cons (pk_odd o10) (pick_cons (oi _) pick_all)))))))
    have lX3 : ([V.int 0, V.int (-1), V.bl true, V.bl false, V.str ("1" : Str), V.ref t9, V.ref t10, V.int 2]).length = 8 := rfl
    generalize [V.int 0, V.int (-1), V.bl true, V.bl false, V.str ("1" : Str), V.ref t9, V.ref t10, V.int 2] = Y3 at X3 lX3 eq3
    have LX3 : LX Q3 (upd Q3 od (.lst ([V.ref l0, V.ref l1, V.ref l2] ++ [V.ref l3]))) := LX.put eo16
    have X0c : ∀ x ∈ Y0, PickOk (upd Q3 od (.lst ([V.ref l0, V.ref l1, V.ref l2] ++ [V.ref l3]))) 0 x := fun x hx => ((X0b x hx).same sq13).lx LX3
    have X1c : ∀ x ∈ Y1, PickOk (upd Q3 od (.lst ([V.ref l0, V.ref l1, V.ref l2] ++ [V.ref l3]))) 1 x := fun x hx => ((X1b x hx).same sq13).lx LX3
    have X2c : ∀ x ∈ Y2, PickOk (upd Q3 od (.lst ([V.ref l0, V.ref l1, V.ref l2] ++ [V.ref l3]))) 2 x := fun x hx => ((X2b x hx).same sq13).lx LX3
    have X3c : ∀ x ∈ Y3, PickOk (upd Q3 od (.lst ([V.ref l0, V.ref l1, V.ref l2] ++ [V.ref l3]))) 3 x := fun x hx => (X3 x hx).lx LX3
    have W16 := (W15.same sq13).put Fo eo16 (ys := [V.ref l0, V.ref l1, V.ref l2] ++ [V.ref l3])
    have el0d : (upd Q3 od (.lst ([V.ref l0, V.ref l1, V.ref l2] ++ [V.ref l3]))) l0 = some (.lst Y0) := by rw [upd_ne n0o]; exact sq13 _ _ el0c
    have el1d : (upd Q3 od (.lst ([V.ref l0, V.ref l1, V.ref l2] ++ [V.ref l3]))) l1 = some (.lst Y1) := by rw [upd_ne n1o]; exact sq13 _ _ el1c
    have el2d : (upd Q3 od (.lst ([V.ref l0, V.ref l1, V.ref l2] ++ [V.ref l3]))) l2 = some (.lst Y2) := by rw [upd_ne n2o]; exact sq13 _ _ el2c
    have el3d : (upd Q3 od (.lst ([V.ref l0, V.ref l1, V.ref l2] ++ [V.ref l3]))) l3 = some (.lst Y3) := by rw [upd_ne n3o]; exact eq3
    have eod : (upd Q3 od (.lst ([V.ref l0, V.ref l1, V.ref l2] ++ [V.ref l3]))) od = some (.lst [V.ref l0, V.ref l1, V.ref l2, V.ref l3]) := upd_same
    generalize upd Q3 od (.lst ([V.ref l0, V.ref l1, V.ref l2] ++ [V.ref l3])) = Z0 at X0c X1c X2c X3c W16 el0d el1d el2d el3d eod
    clear X0b X1b X2b X3 LX3 eo16 sq13 sq1 eq1 sq2 eq2 sq3 eq3 ht9 ht10 hl3 W15 el0c el1c el2c eoc Fo
    -- the place
    refine ⟨_, rfl, a, 4, _, rfl, W16.st, by omega, by decide, by decide, fun q Z1 q0 q1 st17 he17 => ?_⟩
    have sb17 := sb_eq (H := Z0) he17
    have W17 := W16.next sb17 st17
    have lx17 := LX.sb W16.st sb17 st17
    obtain ⟨j, rfl⟩ : ∃ j : Nat, q = (j : Int) := ⟨q.toNat, by omega⟩
    have hj : j < 4 := by omega
    obtain ⟨lj, Yj, eoj, elj, nja, l1j, l2j, Xj⟩ : ∃ (lj : Addr) (Yj : List V), ([V.ref l0, V.ref l1, V.ref l2, V.ref l3] : List V)[j]? = some (.ref lj) ∧ Z1 lj = some (.lst Yj) ∧ lj ≠ a ∧ 1 ≤ Yj.length ∧ Yj.length ≤ 1000 ∧ ∀ x ∈ Yj, PickOk Z1 j x := by
      rcases (show j = 0 ∨ j = 1 ∨ j = 2 ∨ j = 3 by omega) with rfl | rfl | rfl | rfl
      · exact ⟨l0, Y0, rfl, sb17 _ _ nl0a el0d, nl0a, by omega, by omega, fun x hx => (X0c x hx).lx lx17⟩
      · exact ⟨l1, Y1, rfl, sb17 _ _ n1a el1d, n1a, lX1.1, lX1.2, fun x hx => (X1c x hx).lx lx17⟩
      · exact ⟨l2, Y2, rfl, sb17 _ _ n2a el2d, n2a, by omega, by omega, fun x hx => (X2c x hx).lx lx17⟩
      · exact ⟨l3, Y3, rfl, sb17 _ _ n3a el3d, n3a, by omega, by omega, fun x hx => (X3c x hx).lx lx17⟩
    have eod1 := sb17 _ _ noa eod
    clear X0c X1c X2c X3c W16 el0d el1d el2d el3d eod sb17 he17 lX0 lX1 lX2 lX3
    refine ⟨_, rfl, _, rfl, _, rfl, od, _, _, _, rfl, rfl, SqL.of eod1, atI_nat eoj, .inl ⟨a, lj, _, _, rfl, st17, by omega, nja, SqL.of elj, l1j, by omega, fun v Z2 hv st18 sb18 _ => ?_⟩⟩
    have W18 := W17.next sb18 st18
    have hvp : PickOk Z2 j v := (Xj v hv).lx (LX.sb st17 sb18 st18)
    clear Xj elj eod1 W17 hv
    have lrow : (rowVs rk).length = 4 := rfl
    refine ⟨_, rfl, _, rfl, R, _, _, j, rfl, rfl, W18.eR, ixN_n (by rw [lrow]; exact hj), ?_⟩
    have FR : ∀ b, b ≠ R → (upd Z2 R (.lst ((rowVs rk).set j v))) b = Z2 b := fun b h => upd_ne h
    have eR19 : (upd Z2 R (.lst ((rowVs rk).set j v))) R = some (.lst ((rowVs rk).set j v)) := upd_same
    obtain ⟨c1, c2, c3, c4, ec⟩ : ∃ c1 c2 c3 c4, (rowVs rk).set j v = [c1, c2, c3, c4] := by
      rcases (show j = 0 ∨ j = 1 ∨ j = 2 ∨ j = 3 by omega) with rfl | rfl | rfl | rfl <;> exact ⟨_, _, _, _, rfl⟩
    have cell2 : ∀ c ∈ (rowVs rk).set j v, CellV Z2 c := fun c hc => by
      rcases mem_set_of hc with h | h
      · exact hok.cells hmk c h
      · rw [h]; exact hvp.1
    have head2 : HeadZ ((rowVs rk).set j v) := fun z e => by
      rcases (show j = 0 ∨ j = 1 ∨ j = 2 ∨ j = 3 by omega) with rfl | rfl | rfl | rfl
      · have e' : some v = some (V.str z) := e
        exact hvp.2 rfl z (Option.some.inj e')
      · have e' : some (V.str rk.nm) = some (V.str z) := e
        cases e'
        exact (hok rk hmk).1
      · have e' : some (V.str rk.nm) = some (V.str z) := e
        cases e'
        exact (hok rk hmk).1
      · have e' : some (V.str rk.nm) = some (V.str z) := e
        cases e'
        exact (hok rk hmk).1
    have LXR : LX Z2 (upd Z2 R (.lst ((rowVs rk).set j v))) := LX.put W18.eR
    have cell3 : ∀ c ∈ (rowVs rk).set j v, CellV (upd Z2 R (.lst ((rowVs rk).set j v))) c := fun c hc => (cell2 c hc).lx LXR
    -- what stands now
    have kq : KL Z2 (upd Z2 R (.lst ((rowVs rk).set j v))) := KL.upd W18.eR
    have nRp : p ≠ R := hRp
    have sbR : ∀ b o, H b = some o → b ≠ a → (upd Z2 R (.lst ((rowVs rk).set j v))) b = some o := fun b o e nb => by
      rw [upd_ne (hRh b o e)]; exact W18.sb b o nb e
    have eD19 : (upd Z2 R (.lst ((rowVs rk).set j v))) D = some (.lst (ras.map V.ref)) := by rw [upd_ne hRD]; exact W18.eD
    have hp19 : (upd Z2 R (.lst ((rowVs rk).set j v))) p = some (.lst (ras.map V.ref)) := by rw [upd_ne nRp]; exact W18.hp
    have rows19 := W18.rows.kl kq
    have st19 : Stm (upd Z2 R (.lst ((rowVs rk).set j v))) a (n + 1 + 1 + 1 + 1) := by
      obtain ⟨x, y, z, e, k⟩ := st18
      exact ⟨x, y, z, by rw [upd_ne W18.nR.symm]; exact e, k⟩
    rw [ec] at eR19 cell3 head2 eD19 hp19 rows19 st19 sbR ⊢
    generalize upd Z2 R (.lst [c1, c2, c3, c4]) = Z3 at eR19 cell3 eD19 hp19 rows19 st19 sbR ⊢
    clear cell2 LXR kq FR ec hvp W18 sb18 st18 lrow
    -- strange things
    refine ⟨(by show 0 ≤ sizeLine; decide), fun t11 ht11 => ?_⟩
    have sz4 : Same Z3 (upd Z3 t11 (.tup [])) := Same.new ht11
    have ez4 : (upd Z3 t11 (.tup [])) t11 = some (.tup []) := upd_same
    generalize upd Z3 t11 (.tup []) = Z4 at sz4 ez4
    refine ⟨_, rfl, _, rfl, R, _, rfl, SqL.of (sz4 _ _ eR19), fun t12 ht12 => ?_⟩
    rw [show cutV [c1, c2, c3, c4] none (some 3) = [c1, c2, c3] from rfl]
    have sz5 : Same Z4 (upd Z4 t12 (.lst [c1, c2, c3])) := Same.new ht12
    have ez5 : (upd Z4 t12 (.lst [c1, c2, c3])) t12 = some (.lst [c1, c2, c3]) := upd_same
    generalize upd Z4 t12 (.lst [c1, c2, c3]) = Z5 at sz5 ez5
    refine ⟨_, rfl, (by show 1 ≤ sizeLine; decide), fun t13 ht13 => ?_⟩
    have sz6 : Same Z5 (upd Z5 t13 (.lst [V.int 1])) := Same.new ht13
    have ez6 : (upd Z5 t13 (.lst [V.int 1])) t13 = some (.lst [V.int 1]) := upd_same
    generalize upd Z5 t13 (.lst [V.int 1]) = Z6 at sz6 ez6
    have sz46 := (sz4.trans sz5).trans sz6
    refine ⟨R, t13, _, _, rfl, rfl, sz46 _ _ eR19, ez6, (by show 4 + 1 ≤ sizeLine; decide), fun t14 ht14 => ?_⟩
    have sz7 : Same Z6 (upd Z6 t14 (.lst ([c1, c2, c3, c4] ++ [V.int 1]))) := Same.new ht14
    have ez7 : (upd Z6 t14 (.lst ([c1, c2, c3, c4] ++ [V.int 1]))) t14 = some (.lst ([c1, c2, c3, c4] ++ [V.int 1])) := upd_same
    generalize upd Z6 t14 (.lst ([c1, c2, c3, c4] ++ [V.int 1])) = Z7 at sz7 ez7
    refine fun d2 hd2 => ?_
    have sz8 : Same Z7 (upd Z7 d2 (.dK [])) := Same.new hd2
    have ez8 : (upd Z7 d2 (.dK [])) d2 = some (.dK []) := upd_same
    generalize upd Z7 d2 (.dK []) = Z8 at sz8 ez8
    refine ⟨(by show 7 ≤ sizeLine; decide), fun sg hsg => ?_⟩
    have sz9 : Same Z8 (upd Z8 sg (.lst [V.non, V.int 5, V.str ("row" : Str), V.ref t11, V.ref t12, V.ref t14, V.ref d2])) := Same.new hsg
    have ez9 : (upd Z8 sg (.lst [V.non, V.int 5, V.str ("row" : Str), V.ref t11, V.ref t12, V.ref t14, V.ref d2])) sg = some (.lst [V.non, V.int 5, V.str ("row" : Str), V.ref t11, V.ref t12, V.ref t14, V.ref d2]) := upd_same
    generalize upd Z8 sg (.lst [V.non, V.int 5, V.str ("row" : Str), V.ref t11, V.ref t12, V.ref t14, V.ref d2]) = Z9 at sz9 ez9
    have sz49 := ((sz46.trans sz7).trans sz8).trans sz9
    have st20 := st19.same sz49
    have fin : ∀ (y : V) (cs : List V) (G : Hp) (m : Int), Z9 D = some (.lst (ras.map V.ref)) → SB a Z9 G → Stm G a m → m ≤ n + 10 → ThAt G y cs → HeadZ cs → y ≠ .ref a → (∀ b, y = .ref b → b ≠ D) →
        ∃ (p' : Addr) (xs : List V) (i' : Int) (j' : Nat), V.ref D = .ref p' ∧ V.int (k : Int) = .int i' ∧ G p' = some (.lst xs) ∧ ixN xs.length i' = some j' ∧ Q (.ref D) (upd G p' (.lst (xs.set j' y))) := by
      intro y cs G m eD9 sb st hm th hd na hneD
      have eDG := sb _ _ Da eD9
      refine ⟨D, _, _, k, rfl, rfl, eDG, ixN_n (by rw [List.length_map]; omega), ?_⟩
      have rowsG : RowsAt G ras rs := (rows19.same sz49).kl (KL.sb st20 sb)
      have LXD : LX G (upd G D (.lst ((ras.map V.ref).set k y))) := LX.put eDG
      have kqD : KL G (upd G D (.lst ((ras.map V.ref).set k y))) := KL.upd eDG
      have thD : ThAt (upd G D (.lst ((ras.map V.ref).set k y))) y cs := by
        rcases th with ⟨h, e⟩ | ⟨b, rfl, hs, l, hc⟩
        · refine .inl ⟨?_, e⟩
          rcases h with h | h | h | ⟨b, kvs, e2, h⟩
          · exact .inl h
          · exact .inr (.inl h)
          · exact .inr (.inr (.inl h))
          · exact .inr (.inr (.inr ⟨b, kvs, e2, kqD _ _ h (fun _ q => nomatch q)⟩))
        · refine .inr ⟨b, rfl, ?_, l, fun c h => (hc c h).lx LXD⟩
          rcases hs with hs | hs
          · exact .inl (kqD _ _ hs (fun _ q => nomatch q))
          · refine .inr ?_
            rw [upd_ne (hneD _ rfl)]
            exact hs
      refine hq D _ ((rs.map rowVs).set k cs) _ hD Da upd_same (((hok.thl (rowsG.kl kqD))).set k thD) (fun ds hds => ?_) (fun z hz => ?_) (by rw [List.length_set, List.length_map]) (fun b o nb e => ?_) ?_
      · rcases mem_set_of hds with h | h
        · obtain ⟨r, hr, rfl⟩ := List.mem_map.mp h
          exact head_row (hok r hr).1
        · rw [h]; exact hd
      · rcases mem_set_of hz with h | h
        · obtain ⟨b, hb, rfl⟩ := List.mem_map.mp h
          obtain ⟨i, hi, e2⟩ := List.mem_iff_getElem.mp hb
          have hir : i < rs.length := by omega
          have e3 := rowsG.at_ i b (rs[i]'hir) (by rw [← e2]; exact List.getElem?_eq_getElem hi) (List.getElem?_eq_getElem hir)
          refine ⟨fun e => ?_, fun e => ?_⟩
          · cases e
            obtain ⟨x, y, z, e4, _⟩ := st
            rw [e4] at e3
            cases e3
          · cases e
            rw [eDG] at e3
            cases e3
        · rw [h]; exact ⟨na, fun e => hneD _ e rfl⟩
      · rw [upd_ne (ne_of_none e hD)]
        exact sb b o nb (sz49 _ _ (sbR b o e nb))
      · obtain ⟨x, y, z, e, k1, k2, k3, k4, k5⟩ := st
        exact ⟨x, y, z, by rw [upd_ne Da.symm]; exact e, k1, k2, k3, k4, by omega⟩
    have eD9 := sz49 _ _ eD19
    have eR9 := sz49 _ _ eR19
    have n11 : t11 ≠ a := (st19.ne ht11).symm
    have n12 : t12 ≠ a := ((st19.same sz4).ne ht12).symm
    have n14 : t14 ≠ a := ((st19.same sz46).ne ht14).symm
    have nd2 : d2 ≠ a := ((st19.same (sz46.trans sz7)).ne hd2).symm
    have nsg : sg ≠ a := ((st19.same ((sz46.trans sz7).trans sz8)).ne hsg).symm
    have m11 : t11 ≠ D := (ne_of_none eD19 ht11).symm
    have m12 : t12 ≠ D := (ne_of_none (sz4 _ _ eD19) ht12).symm
    have m14 : t14 ≠ D := (ne_of_none (sz46 _ _ eD19) ht14).symm
    have md2 : d2 ≠ D := (ne_of_none ((sz46.trans sz7) _ _ eD19) hd2).symm
    have f11 := (((sz5.trans sz6).trans sz7).trans (sz8.trans sz9)) _ _ ez4
    have f12 := ((sz6.trans sz7).trans (sz8.trans sz9)) _ _ ez5
    have f14 := (sz8.trans sz9) _ _ ez7
    have fd2 := sz9 _ _ ez8
    have cell9 : ∀ c ∈ [c1, c2, c3, c4], CellV Z9 c := fun c hc => (cell3 c hc).ext (Same.x sz49)
    have nil_head : HeadZ [] := fun z e => by cases e
    have R9 : R ≠ a := hRa
    refine ⟨_, rfl, a, 5, _, rfl, st20, by omega, by decide, by decide, fun q Z10 q0 q1 st21 he21 => ⟨rfl, _, rfl, ?_⟩⟩
    have sb21 := sb_eq (H := Z9) he21
    refine ite2 (fun _ => ?_) (fun _ => ?_)
    · refine ⟨_, rfl, _, rfl, .inl ⟨a, sg, _, _, rfl, st21, by omega, nsg, SqL.of (sb21 _ _ nsg ez9), (by show 1 ≤ 7; decide), (by show 7 ≤ 1000000; decide), fun y Z11 hy st22 sb22 _ => ?_⟩⟩
      have sb := sb21.trans sb22
      have lx : LX Z9 Z11 := LX.sb st20 sb st22
      have go : ∀ cs, ThAt Z11 y cs → HeadZ cs → y ≠ .ref a → (∀ b, y = .ref b → b ≠ D) → ∃ (p' : Addr) (xs : List V) (i' : Int) (j' : Nat), V.ref D = .ref p' ∧ V.int (k : Int) = .int i' ∧ Z11 p' = some (.lst xs) ∧ ixN xs.length i' = some j' ∧ Q (.ref D) (upd Z11 p' (.lst (xs.set j' y))) := fun cs h1 h2 h3 h4 => fin y cs Z11 _ eD9 sb st22 (by omega) h1 h2 h3 h4
      have go2 : ∃ cs, ThAt Z11 y cs ∧ HeadZ cs ∧ y ≠ .ref a ∧ (∀ b, y = .ref b → b ≠ D) := by
        simp only [List.mem_cons, List.not_mem_nil, or_false] at hy
        rcases hy with rfl | rfl | rfl | rfl | rfl | rfl | rfl
        · exact ⟨[], .inl ⟨.inl rfl, rfl⟩, nil_head, (fun e => by cases e), fun b e => by cases e⟩
        · exact ⟨[], .inl ⟨.inr (.inl ⟨_, rfl⟩), rfl⟩, nil_head, (fun e => by cases e), fun b e => by cases e⟩
        · exact ⟨[], .inl ⟨.inr (.inr (.inl ⟨_, rfl⟩)), rfl⟩, nil_head, (fun e => by cases e), fun b e => by cases e⟩
        · exact ⟨[], .inr ⟨t11, rfl, .inl (sb _ _ n11 f11), Nat.zero_le _, fun c hc => by cases hc⟩, nil_head, (fun e => n11 (V.ref.inj e)), fun b e => by cases e; exact m11⟩
        · refine ⟨[c1, c2, c3], .inr ⟨t12, rfl, .inr (sb _ _ n12 f12), (by show 3 ≤ 10; decide), fun c hc => (cell9 c ?_).lx lx⟩, (fun z e => head2 z e), (fun e => n12 (V.ref.inj e)), fun b e => by cases e; exact m12⟩
          simp only [List.mem_cons, List.not_mem_nil, or_false] at hc ⊢
          rcases hc with h | h | h
          · exact .inl h
          · exact .inr (.inl h)
          · exact .inr (.inr (.inl h))
        · refine ⟨[c1, c2, c3, c4] ++ [V.int 1], .inr ⟨t14, rfl, .inr (sb _ _ n14 f14), (by show 5 ≤ 10; decide), fun c hc => ?_⟩, (fun z e => head2 z e), (fun e => n14 (V.ref.inj e)), fun b e => by cases e; exact m14⟩
          rcases List.mem_append.mp hc with h | h
          · exact (cell9 c h).lx lx
          · rw [List.mem_singleton.mp h]; exact .inr (.inr (.inl ⟨_, rfl⟩))
        · exact ⟨[], .inl ⟨.inr (.inr (.inr ⟨d2, _, rfl, sb _ _ nd2 fd2⟩)), rfl⟩, nil_head, (fun e => nd2 (V.ref.inj e)), fun b e => by cases e; exact md2⟩
      obtain ⟨cs, g1, g2, g3, g4⟩ := go2
      obtain ⟨p', xs, i', j', h1, h2, h3, h4, h5⟩ := go cs g1 g2 g3 g4
      exact ⟨_, rfl, _, rfl, p', xs, i', j', h1, h2, h3, h4, _, rfl, h5⟩
    · have eR10 := sb21 _ _ R9 eR9
      refine ⟨_, rfl, R, _, rfl, .inl ⟨SqL.of eR10, fun l hl => ?_⟩⟩
      have sl : Same Z10 (upd Z10 l (.tup [c1, c2, c3, c4])) := Same.new hl
      have el : (upd Z10 l (.tup [c1, c2, c3, c4])) l = some (.tup [c1, c2, c3, c4]) := upd_same
      have nla : l ≠ a := (st21.ne hl).symm
      have nlD : l ≠ D := (ne_of_none (sb21 _ _ Da eD9) hl).symm
      generalize upd Z10 l (.tup [c1, c2, c3, c4]) = Z11 at sl el
      have st22 := st21.same sl
      have sb := sb21.trans (SB.of sl)
      have lx : LX Z9 Z11 := LX.sb st20 sb st22
      obtain ⟨p', xs, i', j', h1, h2, h3, h4, h5⟩ := fin (.ref l) [c1, c2, c3, c4] Z11 _ eD9 sb st22 (by omega) (.inr ⟨l, rfl, .inl el, (by show 4 ≤ 10; decide), fun c hc => (cell9 c hc).lx lx⟩) head2 (fun e => nla (V.ref.inj e)) (fun b e => by cases e; exact nlD)
      exact ⟨_, rfl, _, rfl, p', xs, i', j', h1, h2, h3, h4, _, rfl, h5⟩
end
end Ts

set_option maxRecDepth 100000
set_option maxHeartbeats 4000000
namespace Ts
open PySem L2
open LamX (ExtN Tabs TabB)
abbrev spTG (C CR : Addr) : Sp := fun vs H Q E => spTreeInit C vs H Q E0 ∨ spTreeInitG C CR vs H Q E
abbrev spMoG (C CR : Addr) : Sp := fun vs H Q E => spMore C vs H Q E0 ∨ spMoreG C CR vs H Q E
abbrev spOpG (C CR : Addr) : Sp := fun vs H Q E => spOpened C vs H Q E0 ∨ spOpenedG C CR vs H Q E
theorem no_more {q f k p : Addr} : (tf q f k p).lookup ("more" : Str) = none := tf_no _ _ _ _ (by decide +kernel) (by decide +kernel) (by decide +kernel) (by decide +kernel)
theorem no_opened {q f k p : Addr} : (tf q f k p).lookup ("opened" : Str) = none := tf_no _ _ _ _ (by decide +kernel) (by decide +kernel) (by decide +kernel) (by decide +kernel)
theorem no_rows {q f k p : Addr} : (tf q f k p).lookup ("rows" : Str) = none := tf_no _ _ _ _ (by decide +kernel) (by decide +kernel) (by decide +kernel) (by decide +kernel)
section
variable {C CR : Addr} {T : List (Addr × Str)} {H : Hp} {σ : St} {Q : VK}
theorem lam_treeX {x : V} {i : Nat} {ta : TA} (hT : Tabs T H) (ha : ∀ Hx (G : List V → Hp → Prop), G [x] Hx → ta σ Hx G) (hb : BadX H [] [("top" : Str)] x i)
    (k : ∀ H', ExtN H H' → Tabs T H' → Q (.int (i : Nat)) H') : LamX.tLam T (TRef1 CR) (fun E => tMake C (spTG C CR) [] E ta) σ H Q := by
  refine lam_ix (r := some i) hT (fun j e H1 E Q' e1 hE => ?_) (fun e => by cases e) k
  cases e
  refine ha _ _ fun t d nt nd _ => .inr ?_
  have s1 := mk_same0 (C := C) nt nd
  exact ⟨t, d, x, i, rfl, upd_same, (hb.ext e1).ext (Same.x s1), fun d' H' hd s e => hE d' H' (s1.free hd) (s1.trans s) e⟩
theorem lam_treeF {D : Addr} {ys : List V} {css : List (List V)} {ta : TA} (hT : Tabs T H) (ha : ∀ Hx (G : List V → Hp → Prop), G [.ref D] Hx → ta σ Hx G) (hD : H D = some (.lst ys)) (hth : ThL H ys css) (hz : ∀ cs ∈ css, HeadZ cs) (hl : css.length ≤ 100)
    (hf : ∀ i, i < css.length → fitAt [] [("top" : Str)] css i = true) (k : ∀ H', ExtN H H' → Tabs T H' → Q .non H') : LamX.tLam T (TRef1 CR) (fun E => tMake C (spTG C CR) [] E ta) σ H Q := by
  obtain ⟨e, hrs⟩ := rows_of hf (fun cs h => (hz cs h).ok)
  refine lam_ix (r := none) hT (fun j e => by cases e) (fun _ H1 E Q' e1 ok => ?_) k
  obtain ⟨as, ey, hs⟩ := seq_of (hth.ext e1) e
  refine ha _ _ fun t d nt nd _ => .inl ?_
  have s1 := mk_same0 (C := C) nt nd
  refine ⟨t, d, D, as, css.map rowC, rfl, upd_same, ?_, hs.same s1, by rw [List.length_map]; exact hl, fun i r hr => fits_of (hrs i r hr), fun H' sb ht => ⟨rfl, ok _ _ (mk_same nt nd sb)⟩⟩
  rw [← ey]
  exact .inr (s1 _ _ (e1 _ _ hD nofun))
theorem lam_tree {D : Addr} {ys : List V} {css : List (List V)} {r : Option Nat} {ta : TA} (hT : Tabs T H) (ha : ∀ Hx (G : List V → Hp → Prop), G [.ref D] Hx → ta σ Hx G) (hD : H D = some (.lst ys)) (hth : ThL H ys css) (hz : ∀ cs ∈ css, HeadZ cs) (hl : css.length ≤ 100)
    (hd : DueI [("top" : Str)] [("top" : Str)] css r) (k : ∀ H', ExtN H H' → Tabs T H' → Q (ixV r) H') : LamX.tLam T (TRef1 CR) (fun E => tMake C (spTG C CR) [] E ta) σ H Q := by
  have hd' := DueI.top hd
  cases hd' with
  | fine h => exact lam_treeF hT ha hD hth hz hl h k
  | bad hi h hb => exact lam_treeX hT ha (.inr ⟨D, ys, css, rfl, .inr hD, hth, hl, .bad hi h hb⟩) k
theorem due_one {N F : List Str} {cs : List V} {r : Option Nat} (h : DueI N F [cs] r) : (r = none ∧ fitB N F cs = true) ∨ (r = some 0 ∧ fitB N F cs = false) := by
  have e0 : fitAt N F [cs] 0 = fitB N F cs := by
    rw [fitAt_eq (cs := cs) rfl]
    simp [nsA, fsA]
  cases h with
  | fine h => exact .inl ⟨rfl, by rw [← e0]; exact h 0 (Nat.lt_succ_self 0)⟩
  | @bad i hi h hb =>
    have hi' : i < 1 := hi
    obtain rfl : i = 0 := by omega
    exact .inr ⟨rfl, by rw [← e0]; exact hb⟩
theorem fits_one {rs : List Row} {cs : List V} (h : fitB (names rs) (("top" : Str) :: folderNames rs) cs = true) (hz : HeadZ cs) : Fits rs (rowC cs) := by
  obtain ⟨f1, f2, f3, f4, f5, f6⟩ := fit_fits h hz.ok
  refine ⟨f1, f2, f3, ?_, f5, f6⟩
  rcases List.mem_cons.mp f4 with h | h
  · exact .inl h
  · exact .inr (mem_folders h)
theorem lam_more {t : Addr} {y : V} {cs : List V} {rs : List Row} {r : Option Nat} {to : TE} {ta : TA} (hT : Tabs T H) (ho : ∀ Hx (G : VK), G (.ref t) Hx → to σ Hx G) (ha : ∀ Hx (G : List V → Hp → Prop), ExtN H Hx → G [y] Hx → ta σ Hx G) (ht : TreeAt C H t rs) (hl : rs.length ≤ 90) (hy : ThAt H y cs) (hz : HeadZ cs)
    (hd : DueI (names rs) (("top" : Str) :: folderNames rs) [cs] r) (k : ∀ H', ExtN H H' → Tabs T H' → Q (ixV (r.map fun _ => rs.length)) H') : LamX.tLam T (TRef1 CR) (fun E => tMeth C "more" (spMoG C CR) [] E to ta) σ H Q := by
  rcases due_one hd with ⟨rfl, hb⟩ | ⟨rfl, hb⟩
  · refine lam_ix (r := none) hT (fun j e => by cases e) (fun _ H1 E Q' e1 ok => ?_) k
    have ht1 := ht.ext e1
    obtain ⟨dx, q, f, kk, p, qs, h1, h2, h3, h4, h5, h6⟩ := id ht1.ex
    refine ho _ _ ⟨t, dx, _, rfl, h1, no_more, ha _ _ e1 (.inl ?_)⟩
    rcases hy.ext e1 with ⟨_, rfl⟩ | ⟨a, rfl, hs, _, _⟩
    · cases hb
    · exact ⟨t, a, rs, rowC cs, rfl, ht1, by rw [(rowC_eq hb).1]; exact hs, fits_one hb hz, by omega, fun x H' s _ => ok _ _ s⟩
  · refine lam_ix (r := some rs.length) hT (fun j e H1 E Q' e1 hE => ?_) (fun e => by cases e) k
    cases e
    have ht1 := ht.ext e1
    obtain ⟨dx, q, f, kk, p, qs, h1, h2, h3, h4, h5, h6⟩ := id ht1.ex
    exact ho _ _ ⟨t, dx, _, rfl, h1, no_more, ha _ _ e1 (.inr ⟨t, y, cs, rs, rfl, ht1, hl, hy.ext e1, hb, fun d H' hd s e => hE d H' hd s e⟩)⟩
theorem lam_open {t D : Addr} {b : Row} {ys : List V} {css : List (List V)} {rs : List Row} {r : Option Nat} {to : TE} {ta : TA} (hT : Tabs T H) (ho : ∀ Hx (G : VK), G (.ref t) Hx → to σ Hx G) (ha : ∀ Hx (G : List V → Hp → Prop), G [.str b.nm, .ref D] Hx → ta σ Hx G) (ht : TreeAt C H t rs) (hb : b ∈ rs) (hk : b.ki = ("shut" : Str))
    (hD : H D = some (.lst ys)) (hth : ThL H ys css) (hz : ∀ cs ∈ css, HeadZ cs) (hl : rs.length + css.length ≤ 100) (hd : DueI (names rs) [b.nm] css r) (k : ∀ H', ExtN H H' → Tabs T H' → Q (ixV r) H') : LamX.tLam T (TRef1 CR) (fun E => tMeth C "opened" (spOpG C CR) [] E to ta) σ H Q := by
  cases hd with
  | fine hf =>
    obtain ⟨e, hrs⟩ := rows_of hf (fun cs h => (hz cs h).ok)
    refine lam_ix (r := none) hT (fun j e => by cases e) (fun _ H1 E Q' e1 ok => ?_) k
    have ht1 := ht.ext e1
    obtain ⟨dx, q, f, kk, p, qs, h1, h2, h3, h4, h5, h6⟩ := id ht1.ex
    obtain ⟨as, ey, hs⟩ := seq_of (hth.ext e1) e
    refine ho _ _ ⟨t, dx, _, rfl, h1, no_opened, ha _ _ (.inl ⟨t, D, b, rs, as, css.map rowC, rfl, ht1, hb, hk, ?_, hs, by rw [List.length_map]; exact hl, hrs, fun x H' s _ => ok _ _ s⟩)⟩
    rw [← ey]
    exact .inr (e1 _ _ hD nofun)
  | @bad i hi h hbad =>
    refine lam_ix (r := some i) hT (fun j e H1 E Q' e1 hE => ?_) (fun e => by cases e) k
    cases e
    have ht1 := ht.ext e1
    obtain ⟨dx, q, f, kk, p, qs, h1, h2, h3, h4, h5, h6⟩ := id ht1.ex
    exact ho _ _ ⟨t, dx, _, rfl, h1, no_opened, ha _ _ (.inr ⟨t, .ref D, b, rs, i, rfl, ht1, hb, hk, .inr ⟨D, ys, css, rfl, .inr (e1 _ _ hD nofun), hth.ext e1, by omega, .bad hi h hbad⟩, fun d H' hd s e => hE d H' hd s e⟩)⟩
end
/-! ### what stands in a turn of the law -/
structure St2 (C : Addr) (T : List (Addr × Str)) (H1 H : Hp) (a p t Db Df : Addr) (rs : List Row) (n : Int) : Prop where
  a1 : H1 a = none
  pa : p ≠ a
  da : Db ≠ a
  fa : Df ≠ a
  x : ExtN H1 H
  tabs : Tabs T H
  tree : TreeAt C H t rs
  rows : RowsL H p rs
  nam : H Db = some (.lst ((names rs).map V.str))
  fol : H Df = some (.lst ((("top" : Str) :: folderNames rs).map V.str))
  stm : Stm H a n
/-- an address that is none of these -/
structure Apart (H1 : Hp) (a p Db Df D : Addr) : Prop where
  h1 : ∀ b o, H1 b = some o → (∀ ps, o ≠ .tbl ps) → b ≠ D
  a : a ≠ D
  p : p ≠ D
  db : Db ≠ D
  df : Df ≠ D
section
variable {C : Addr} {T : List (Addr × Str)} {H1 H H' : Hp} {a p t Db Df : Addr} {rs : List Row} {n n' : Int}
theorem St2.ext (h : St2 C T H1 H a p t Db Df rs n) (e : ExtN H H') (T' : Tabs T H') : St2 C T H1 H' a p t Db Df rs n :=
  ⟨h.a1, h.pa, h.da, h.fa, h.x.trans e, T', h.tree.ext e, h.rows.ext e, e _ _ h.nam nofun, e _ _ h.fol nofun, h.stm.ext e⟩
theorem St2.same (h : St2 C T H1 H a p t Db Df rs n) (s : Same H H') : St2 C T H1 H' a p t Db Df rs n := h.ext (Same.x s) (h.tabs.ext s)
theorem St2.mono (h : St2 C T H1 H a p t Db Df rs n) (e : n ≤ n') : St2 C T H1 H a p t Db Df rs n' := { h with stm := h.stm.mono e }
theorem St2.sb (h : St2 C T H1 H a p t Db Df rs n) (sb : SB a H H') (st : Stm H' a n') : St2 C T H1 H' a p t Db Df rs n' :=
  ⟨h.a1, h.pa, h.da, h.fa, fun b o e k => sb b o (ne_of_none e h.a1) (h.x b o e k), tabs_sb h.tabs h.stm sb, h.tree.kl (KL.sb h.stm sb), h.rows.sbk h.pa h.stm sb, sb _ _ h.da h.nam, sb _ _ h.fa h.fol, st⟩
theorem St2.apart {D : Addr} (h : St2 C T H1 H a p t Db Df rs n) (hD : H D = none) : Apart H1 a p Db Df D :=
  ⟨fun b o e k => ne_of_none (h.x b o e k) hD, h.stm.ne hD, let ⟨_, q, _⟩ := h.rows.ex; ne_of_none q hD, ne_of_none h.nam hD, ne_of_none h.fol hD⟩
theorem St2.put {D : Addr} {xs ys : List V} (h : St2 C T H1 H a p t Db Df rs n) (k : Apart H1 a p Db Df D) (e : H D = some (.lst xs)) : St2 C T H1 (upd H D (.lst ys)) a p t Db Df rs n := by
  have un : SB D H (upd H D (.lst ys)) := fun b o n e => by rw [upd_ne n]; exact e
  have kq : KL H (upd H D (.lst ys)) := fun b o e2 no => un b o (fun q => by rw [q, e] at e2; exact no _ (Option.some.inj e2).symm) e2
  obtain ⟨ras, hp, hr⟩ := h.rows.ex
  obtain ⟨x9, y9, z9, ea9, h9⟩ := h.stm
  exact ⟨h.a1, h.pa, h.da, h.fa, fun b o e n => un b o (k.h1 b o e n) (h.x b o e n), tabs_put h.tabs e, h.tree.kl kq, ⟨ras, un _ _ k.p hp, hr.kl kq⟩, un _ _ k.db h.nam, un _ _ k.df h.fol, ⟨x9, y9, z9, un _ _ k.a ea9, h9⟩⟩
end
theorem concat_of {α : Type} {l : List α} (h : l ≠ []) : ∃ pre x, l = pre ++ [x] := ⟨l.dropLast, l.getLast h, (List.dropLast_concat_getLast h).symm⟩
theorem atI_last {xs : List V} {x : V} : atI (xs ++ [x]) (-1) = some x := by
  unfold atI ixN
  rw [if_neg (by decide), if_pos (by simp; omega)]
  have e : (-1 + ((xs ++ [x]).length : Int)).toNat = xs.length := by rw [List.length_append, List.length_singleton]; omega
  rw [e]
  simp
/-- rows that are drawn can be looked at -/
theorem valid_rowZ {rs : List Row} (hv : Valid rs) : RowZ rs := fun r hr => by
  obtain ⟨i, hi, e⟩ := List.mem_iff_getElem.mp hr
  have hr' : rs[i]? = some r := by rw [List.getElem?_eq_getElem hi, e]
  have f := hv i r hr'
  have hp := f.shape.pos
  exact ⟨okz_shape f.shape, by omega, home_len hv hr', kind_len _ f.kind⟩
theorem ThL.last {H : Hp} {ys : List V} {css : List (List V)} {y : V} {cs : List V} (h : ThL H (ys ++ [y]) (css ++ [cs])) : ThAt H y cs := by
  have hl := h.len
  rw [List.length_append, List.length_append, List.length_singleton, List.length_singleton] at hl
  refine h.at_ ys.length y cs (by simp) ?_
  rw [show ys.length = css.length by omega]
  simp
theorem ThAt.put {H : Hp} {D : Addr} {xs zs : List V} {y : V} {cs : List V} (h : ThAt H y cs) (hne : y ≠ .ref D) (e : H D = some (.lst xs)) : ThAt (upd H D (.lst zs)) y cs := by
  have un : ∀ b o, b ≠ D → H b = some o → (upd H D (.lst zs)) b = some o := fun b o n e => by rw [upd_ne n]; exact e
  rcases h with ⟨h, e2⟩ | ⟨b, rfl, hs, l, hc⟩
  · refine .inl ⟨?_, e2⟩
    rcases h with h | h | h | ⟨b, kvs, e3, h⟩
    · exact .inl h
    · exact .inr (.inl h)
    · exact .inr (.inr (.inl h))
    · exact .inr (.inr (.inr ⟨b, kvs, e3, un _ _ (fun q => by rw [q, e] at h; cases h) h⟩))
  · have nb : b ≠ D := fun q => hne (by rw [q])
    exact .inr ⟨b, rfl, hs.imp (un _ _ nb) (un _ _ nb), l, fun c hm => (hc c hm).lx (LX.put e)⟩
theorem ThL.put {H : Hp} {D : Addr} {xs zs : List V} {ys : List V} {css : List (List V)} (h : ThL H ys css) (hne : ∀ y ∈ ys, y ≠ .ref D) (e : H D = some (.lst xs)) : ThL (upd H D (.lst zs)) ys css :=
  ⟨h.len, fun i y cs hy hc => (h.at_ i y cs hy hc).put (hne y (List.mem_of_getElem? hy)) e⟩
theorem ThL.one {H : Hp} {y : V} {cs : List V} (h : ThAt H y cs) : ThL H [y] [cs] := ThL.snoc (ys := []) (css := []) ⟨rfl, fun i _ _ h => by simp at h⟩ h
theorem newa_shape : NameShape ("newa" : Str) := ⟨by decide +kernel, (show ∀ c ∈ ("newa" : Str).cps.toList, 97 ≤ c ∧ c ≤ 122 by decide +kernel)⟩
theorem newb_shape : NameShape ("newb" : Str) := ⟨by decide +kernel, (show ∀ c ∈ ("newb" : Str).cps.toList, 97 ≤ c ∧ c ≤ 122 by decide +kernel)⟩
theorem newc_shape : NameShape ("newc" : Str) := ⟨by decide +kernel, (show ∀ c ∈ ("newc" : Str).cps.toList, 97 ≤ c ∧ c ≤ 122 by decide +kernel)⟩
/-- the rows that are put into an opened box -/
def innerL (z : Str) : List Row := [⟨"newa", z, "folder", some 1⟩, ⟨"newb", "newa", "folder", some 1⟩]
theorem inner_rowZ {z : Str} (h : z.length ≤ 100) : RowZ (innerL z) := fun r hr => by
  simp only [innerL, List.mem_cons, List.not_mem_nil, or_false] at hr
  rcases hr with rfl | rfl
  · exact ⟨okz_shape newa_shape, (show ("newa" : Str).length ≤ 100 by decide +kernel), h, (show ("folder" : Str).length ≤ 100 by decide +kernel)⟩
  · exact ⟨okz_shape newb_shape, (show ("newb" : Str).length ≤ 100 by decide +kernel), (show ("newa" : Str).length ≤ 100 by decide +kernel), (show ("folder" : Str).length ≤ 100 by decide +kernel)⟩
end Ts

set_option maxRecDepth 100000
set_option maxHeartbeats 16000000
namespace Ts
open PySem L2
open LamX (ExtN Tabs TabB)
def spLawT (K : PySem.W.Frag) (T : List (Addr × Str)) : Sp := fun vs H Q _ => ∃ (a : Addr) (ns : List Int), vs = [.ref a] ∧ SqL K H a (ns.map V.int) ∧ ns.length ≤ 63 ∧ Tabs T H ∧ ∀ H', Q (.bl true) H'
abbrev qLw : Str := "law.<locals>.<lambda>"
abbrev pRw : List Str := ["_law_stream_here", "_law_many", "_law_kinds_here", "_law_prices_here"]
theorem lst_same {rs : List Row} : PyData.eqv (.list (rs.map rowD)) (.list (rs.map rowD)) = true := by
  simp only [PyData.eqv]
  rw [rows_eqv]
  exact decide_eq_true rfl
theorem tC_of {v : V} {σ : St} {H : Hp} {Q : VK} (h : Q v H) : tC v σ H Q := h
theorem new_a : ("new" : Str) ++ (⟨#[97]⟩ : Str) = ("newa" : Str) := by decide +kernel
theorem new_b : ("new" : Str) ++ (⟨#[98]⟩ : Str) = ("newb" : Str) := by decide +kernel
theorem shut_of {rs : List Row} {x : V} (h : x ∈ cutV ((((rs.filter fun r => decide (r.ki = ("shut" : Str))).map (·.nm)).map V.str)) none (some 1)) : ∃ b ∈ rs, b.ki = ("shut" : Str) ∧ x = .str b.nm := by
  obtain ⟨z, hz, rfl⟩ := List.mem_map.mp (mem_cutV h)
  obtain ⟨b, hb, rfl⟩ := List.mem_map.mp hz
  exact ⟨b, (List.mem_filter.mp hb).1, of_decide_eq_true (List.mem_filter.mp hb).2, rfl⟩
section
variable {P : Program} {w : World} {K : PySem.W.Frag} {mg : Str → Option Value} {base : Heap} {C CR : Addr} {T : List (Addr × Str)} {P2 : Addr}
abbrev nLaw : List Str := ["_law_script", "_law_turn", "_law_stream_here", "_law_rows_here", "_law_things", "_law_tree", "_law_names", "_law_folders", "_law_due_here", "_law_box", "_law_inner", "_law_name_here", "_law_folder", "_law_odd", "_law_row", "_law_k"]
theorem sc_law : FnScope nLaw ["_law_script"] (defScope s_law) := ⟨rfl, rfl, rfl, by decide +kernel, rfl, by decide +kernel, by decide +kernel⟩
theorem ok_law {fT : Addr} {fdT : FuncData} (D : DefC K mg "law" s_law ["_law_script"]) (B : TxB mg) (TT : TxT K mg C)
    (Drf : DefAt K mg "_law_refused" s_L_refused ["_law_make"]) (TN : ErrT K mg CR "BadRow" "index")
    (TB : TabB base mg D.c P2) (hm : (P2, qLw) ∈ T) (hu : ∀ p ∈ T, p.1 = P2 → p.2 = qLw)
    (Ds : DefAt K mg "_law_stream" s_L_stream ["_law_script", "_law_k"]) (Dd : DefAt K mg "_law_draw" s_L_draw pDw)
    (Dp : DefAt K mg "_law_pick" s_L_pick pSm) (Gp : FnOk P w K mg base CX0 3 Dp.f Dp.fd pSm (spPick K))
    (Dk : DefAt K mg "_law_kinds" s_L_kinds []) (Dpr : DefAt K mg "_law_prices" s_L_prices [])
    (Dr : DefAt K mg "_law_rows" s_L_rows pRw) (Gr : FnOk P w K mg base CX0 5 Dr.f Dr.fd pRw (spRows K))
    (Ddu : DefAt K mg "_law_due" s_L_due pLDu) (Gdu : FnOk P w K mg base CX0 4 Ddu.f Ddu.fd pLDu spLDue)
    (Dsp : DefAt K mg "_law_spoilt" s_L_spoilt pSp) (Gsp : FnOk P w K mg base CX0 4 Dsp.f Dsp.fd pSp spSpoilt)
    (MT : Mk K C fT) (bT : Binds K fdT ["self", "rows"] []) (GT : FnOk P w K mg base CX0 5 fT fdT ["self", "rows"] (spTreeInit C)) (XT : FnOk P w K mg base (L2.CX P w) 5 fT fdT ["self", "rows"] (spTreeInitG C CR))
    (mMo : MethAt K C "more" "Tree.more" s_Tree_more ["self", "row"]) (GMo0 : FnOk P w K mg base CX0 7 mMo.f mMo.fd ["self", "row"] (spMore C)) (XMo : FnOk P w K mg base (L2.CX P w) 7 mMo.f mMo.fd ["self", "row"] (spMoreG C CR))
    (mO : MethAt K C "opened" "Tree.opened" s_Tree_opened ["self", "box", "rows"]) (GO0 : FnOk P w K mg base CX0 7 mO.f mO.fd ["self", "box", "rows"] (spOpened C)) (XO : FnOk P w K mg base (L2.CX P w) 7 mO.f mO.fd ["self", "box", "rows"] (spOpenedG C CR))
    (mR : MethAt K C "rows" "Tree.rows" s_Tree_rows ["self"]) (GR : FnOk P w K mg base CX0 2 mR.f mR.fd ["self"] (spRowsM C)) :
    FnOk P w K mg base CX0 10 D.f D.fd ["_law_script"] (spLawT K T) := by
  have Gs : FnOk P w K mg base CX0 2 Ds.f Ds.fd ["_law_script", "_law_k"] (spStream K) := ok_stream Ds B
  have Gd : FnOk P w K mg base CX0 2 Dd.f Dd.fd pDw spDraw := ok_draw Dd B
  have Gk : FnOk P w K mg base CX0 2 Dk.f Dk.fd [] spKinds := ok_kinds Dk
  have Gpr : FnOk P w K mg base CX0 2 Dpr.f Dpr.fd [] spPrices := ok_prices Dpr
  have GTG : FnOk P w K mg base (L2.CX P w) 5 fT fdT ["self", "rows"] (spTG C CR) := fn_or (Nat.le_refl _) (Nat.le_refl _) GT XT
  have GMo : FnOk P w K mg base (L2.CX P w) 7 mMo.f mMo.fd ["self", "row"] (spMoG C CR) := fn_or (Nat.le_refl _) (Nat.le_refl _) GMo0 XMo
  have GO : FnOk P w K mg base (L2.CX P w) 7 mO.f mO.fd ["self", "box", "rows"] (spOpG C CR) := fn_or (Nat.le_refl _) (Nat.le_refl _) GO0 XO
  refine D.F.ok sc_law (fun vs H Q E h => ?_) (fun A outer s H vs Q E hr h => ?_)
  · obtain ⟨a, ns, rfl, _⟩ := h
    rfl
  · obtain ⟨a0, ns, rfl, hS, hlen, hT, hq⟩ := h
    have h64 := hr.units
    have r2 : Room 2 _ := hr.mono (by decide)
    have r3 : Room 3 _ := hr.mono (by decide)
    have r4 : Room 4 _ := hr.mono (by decide)
    have r5 : Room 5 _ := hr.mono (by decide)
    have r6 : Room 6 _ := hr.mono (by decide)
    refine ⟨_, pss_cons (ps_for PassesOwn.never rfl (pi_range1 (by rfl) B.range (pa_cons pe_int pa_nil)) (pg_name (i := 1) sc_law.nd rfl (.inl rfl))
        (pss_cons (ps_set (i := 2) sc_law.nd rfl (.inl rfl) (pe_call Gs r2 rfl Ds.g Ds.F.kp Ds.b .nil pass0 (pa_cons (pv 0) (pa_cons (pv 1) pa_nil))))
        (pss_cons (ps_set (i := 3) sc_law.nd rfl (.inl rfl) (pe_call Gr r5 rfl Dr.g Dr.F.kp Dr.b .nil pass0 (pa_cons (pv 2) (pa_cons (pe_op op_add pe_int (pe_call Gd r2 rfl Dd.g Dd.F.kp Dd.b .nil pass0 (pa_cons (pv 2) (pa_cons pe_int pa_nil)))) (pa_cons (pe_call0 Gk r2 rfl Dk.g Dk.F.kp Dk.b .nil pass0) (pa_cons (pe_call0 Gpr r2 rfl Dpr.g Dpr.F.kp Dpr.b .nil pass0) pa_nil))))))
        (C8.pss_cut (ps_set (i := 4) sc_law.nd rfl (.inr rfl) (pe_ifExp (pt_cmpR op_eq (pe_op op_mod (pv 1) pe_int) pe_int (nomark _)) (pv 3) (pe_call Gsp r4 rfl Dsp.g Dsp.F.kp Dsp.b .nil pass0 (pa_cons (pv 2) (pa_cons (pv 3) pa_nil)))))
        (pss_cons (ps_if (pt_cmpR (op_neAl h64) (pe_refused (k := 7) (t := fun E => tMake C (spTG C CR) [] E (tCons (tVar 4) tNil)) Drf TN (by rfl) TB rfl hm hu hr (LamX.lamS_by (show LamX.lamSB (defScope s_law) _ = true by decide +kernel)) rfl (fun _ _ _ _ _ => rfl) (fun A outer s H E f c' hr2 => pe_make MT GTG (hr2.mono (by decide)) rfl TT.g bT .nil (passes_call (takes_of rfl rfl rfl rfl) (fun _ _ _ _ h => h)) (pa_cons (pv 4) pa_nil))) (pe_call Gdu r4 rfl Ddu.g Ddu.F.kp Ddu.b .nil pass0 (pa_cons (pv 4) (pa_cons (pe_lst (pa_cons pe_str pa_nil)) (pa_cons (pe_lst (pa_cons pe_str pa_nil)) pa_nil)))) (nomark _)) (pss_one (ps_ret pe_bl)) pss_nil)
        (pss_cons (ps_asg (pe_tup (pa_cons (pe_make MT GT r6 rfl TT.g bT .nil pass0 (pa_cons (pv 3) pa_nil)) (pa_cons (pe_lc (own := [("_law_row", 14)]) (g := gName 14) (tt := tYes) (te := tOp (rIxT K) (tVar 14) (tC (.int 0))) rfl sc_law.nd (pi_list (pv 3)) (blkOk_by (N := nLaw) (sc := defScope s_law) (by decide +kernel))
            (fun _ _ _ _ _ => pg_name (i := 14) sc_law.nd rfl (Or.inl rfl)) (fun _ _ _ _ _ => pts_nil) (fun _ _ _ _ _ => by exact pe_ix ix_tup (pv 14) pe_int (fun _ _ => rfl))) pa_nil))) (pg_tup rfl (pgs_cons (pg_name (i := 5) sc_law.nd rfl (.inr rfl)) (pgs_cons (pg_name (i := 6) sc_law.nd rfl (.inl rfl)) pgs_nil))))
        (pss_cons (ps_set (i := 7) sc_law.nd rfl (.inl rfl) (pe_op op_cat (pe_lst (pa_cons pe_str pa_nil)) (pe_lc (own := [("_law_row", 14)]) (g := gName 14) (tt := tTest (tOp rEq (tOp (rIxT K) (tVar 14) (tC (.int 2))) (tC (.str ("folder" : Str))))) (te := tOp (rIxT K) (tVar 14) (tC (.int 0))) rfl sc_law.nd (pi_list (pv 3)) (blkOk_by (N := nLaw) (sc := defScope s_law) (by decide +kernel))
            (fun _ _ _ _ _ => pg_name (i := 14) sc_law.nd rfl (Or.inl rfl)) (fun _ _ _ _ _ => by exact pts_one (pt_cmpR op_eq (pe_ix ix_tup (pv 14) pe_int (fun _ _ => rfl)) pe_str (nomark _))) (fun _ _ _ _ _ => by exact pe_ix ix_tup (pv 14) pe_int (fun _ _ => rfl)))))
        (pss_cons (ps_set (i := 8) sc_law.nd rfl (.inl rfl) (pe_call Gdu r4 rfl Ddu.g Ddu.F.kp Ddu.b .nil pass0 (pa_cons (pe_lst (pa_cons (pe_ix ix_list (pv 4) (pe_un un_neg pe_int) (fun _ _ => rfl)) pa_nil)) (pa_cons (pv 7) (pa_cons (pv 6) pa_nil)))))
        (C8.pss_cut (ps_if (pt_cmpR (op_neAl h64) (pe_refused (k := 7) (t := fun E => tMeth C "more" (spMoG C CR) [] E (tVar 5) (tCons (tOp (rIxL K) (tVar 4) (tUn (rU fun i => V.int (-i)) (tC (.int 1)))) tNil)) Drf TN (by rfl) TB rfl hm hu hr (LamX.lamS_by (show LamX.lamSB (defScope s_law) _ = true by decide +kernel)) rfl (fun _ _ _ _ _ => rfl) (fun A outer s H E f c' hr2 => pe_meth (pv 5) TT.cl mMo.m GMo hr2 mMo.b .nil (passes_call (takes_of rfl rfl rfl rfl) (fun _ _ _ _ h => h)) (pa_cons (pe_ix ix_list (pv 4) (pe_un un_neg pe_int) (fun _ _ => rfl)) pa_nil))) (pe_ifExp (pt_cmpR op_isN (pv 8) pe_non (nomark _)) pe_non (pe_callB call_len_seq (by rfl) B.len PySem.boot_len (pa_cons (pv 3) pa_nil))) (nomark _)) (pss_one (ps_ret pe_bl)) pss_nil)
        (pss_cons (ps_for PassesOwn.never rfl (pi_list (pe_slice sl_list (pe_lc (own := [("_law_row", 14)]) (g := gName 14) (tt := tTest (tOp rEq (tOp (rIxT K) (tVar 14) (tC (.int 2))) (tC (.str ("shut" : Str))))) (te := tOp (rIxT K) (tVar 14) (tC (.int 0))) rfl sc_law.nd (pi_list (pv 3)) (blkOk_by (N := nLaw) (sc := defScope s_law) (by decide +kernel))
            (fun _ _ _ _ _ => pg_name (i := 14) sc_law.nd rfl (Or.inl rfl)) (fun _ _ _ _ _ => by exact pts_one (pt_cmpR op_eq (pe_ix ix_tup (pv 14) pe_int (fun _ _ => rfl)) pe_str (nomark _))) (fun _ _ _ _ _ => by exact pe_ix ix_tup (pv 14) pe_int (fun _ _ => rfl))) po_none (po_some pe_int))) (pg_name (i := 9) sc_law.nd rfl (.inr rfl))
          (pss_cons (ps_set (i := 10) sc_law.nd rfl (.inr rfl) (pe_lc (own := [("_law_k", 15)]) (g := gName 15) (tt := tYes) (te := tTup (tCons (tOp (fun x y H Q => ∃ i j, x = V.str i ∧ y = V.str j ∧ i.length + j.length ≤ sizeLine ∧ Q (V.str (i ++ j)) H) (tC (.str ("new" : Str))) (tOp rIxS (tC (.str ("ab" : Str))) (tVar 15))) (tCons (tOp (rIxL K) (tLst (tCons (tVar 9) (tCons (tC (.str ("newa" : Str))) tNil))) (tVar 15)) (tCons (tC (.str ("folder" : Str))) (tCons (tC (.int 1)) tNil))))) rfl sc_law.nd (pi_range1 (by rfl) B.range (pa_cons pe_int pa_nil)) (blkOk_by (N := nLaw) (sc := defScope s_law) (by decide +kernel))
            (fun _ _ _ _ _ => pg_name (i := 15) sc_law.nd rfl (Or.inl rfl)) (fun _ _ _ _ _ => pts_nil) (fun _ _ _ _ _ => by exact pe_tup (pa_cons (pe_op op_add_str pe_str (pe_ix ix_str pe_str (pv 15) (fun _ _ => rfl))) (pa_cons (pe_ix ix_list (pe_lst (pa_cons (pv 9) (pa_cons pe_str pa_nil))) (pv 15) (fun _ _ => rfl)) (pa_cons pe_str (pa_cons pe_int pa_nil)))))))
          (C8.pss_cut (ps_set (i := 10) sc_law.nd rfl (.inr rfl) (pe_ifExp (pt_cmpR op_eq (pe_call Gd r2 rfl Dd.g Dd.F.kp Dd.b .nil pass0 (pa_cons (pv 2) (pa_cons pe_int pa_nil))) pe_int (nomark _)) (pv 10) (pe_call Gsp r4 rfl Dsp.g Dsp.F.kp Dsp.b .nil pass0 (pa_cons (pv 2) (pa_cons (pv 10) pa_nil)))))
          (C8.pss_cut (ps_if (pt_cmpR op_eq (pe_call Gd r2 rfl Dd.g Dd.F.kp Dd.b .nil pass0 (pa_cons (pv 2) (pa_cons pe_int pa_nil))) pe_int (nomark _))
            (pss_cons (ps_par (i := 11) (j := 12) rfl sc_law.nd rfl rfl (by decide) rfl rfl (pa_cons (pe_call Gp r3 rfl Dp.g Dp.F.kp Dp.b .nil pass0 (pa_cons (pv 2) (pa_cons (pe_op op_cat (pv 6) (pe_lst (pa_cons pe_str pa_nil))) pa_nil))) (pa_cons (pe_call Gp r3 rfl Dp.g Dp.F.kp Dp.b .nil pass0 (pa_cons (pv 2) (pa_cons (pe_op op_cat (pv 7) (pe_lst (pa_cons pe_str pa_nil))) pa_nil))) pa_nil)) (by rfl))
            (pss_one (ps_expr (pe_bm PySem.F.plainAttrs_list PySem.F.slot_list_append PySem.F.type_list_append mt_append (pv 10) (pa_cons (pe_tup (pa_cons (pv 11) (pa_cons (pv 12) (pa_cons pe_str (pa_cons pe_int pa_nil))))) pa_nil))))) pss_nil)
          (pss_cons (ps_set (i := 8) sc_law.nd rfl (.inl rfl) (pe_call Gdu r4 rfl Ddu.g Ddu.F.kp Ddu.b .nil pass0 (pa_cons (pv 10) (pa_cons (pe_lst (pa_cons (pv 9) pa_nil)) (pa_cons (pv 6) pa_nil)))))
          (pss_one (ps_if (PW.pt (pw_or (pt_cmpR (op_neAl h64) (pe_refused (k := 7) (t := fun E => tMeth C "opened" (spOpG C CR) [] E (tVar 5) (tCons (tVar 9) (tCons (tVar 10) tNil))) Drf TN (by rfl) TB rfl hm hu hr (LamX.lamS_by (show LamX.lamSB (defScope s_law) _ = true by decide +kernel)) rfl (fun _ _ _ _ _ => rfl) (fun A outer s H E f c' hr2 => pe_meth (pv 5) TT.cl mO.m GO hr2 mO.b .nil (passes_call (takes_of rfl rfl rfl rfl) (fun _ _ _ _ h => h)) (pa_cons (pv 9) (pa_cons (pv 10) pa_nil)))) (pv 8) (nomark _))
            (pw_or1 (pt_cmpR (op_neD h64) (pe_meth0 (pv 5) TT.cl mR.m GR r2 mR.b .nil pass0) (pv 3) (nomark _))))) (pss_one (ps_ret pe_bl)) pss_nil)))))))
        (pss_one (ps_for PassesOwn.never rfl (pi_list (pe_lst (pa_cons pe_non (pa_cons pe_int (pa_cons pe_str (pa_cons pe_dnewK (pa_cons (pe_ix ix_tup (pe_ix ix_list (pv 3) pe_int (fun _ _ => rfl)) pe_int (fun _ _ => rfl)) pa_nil))))))) (pg_name (i := 13) sc_law.nd rfl (.inr rfl))
          (pss_one (ps_if (pt_cmpR (op_neAl h64) (pe_refused (k := 7) (t := fun E => tMake C (spTG C CR) [] E (tCons (tVar 13) tNil)) Drf TN (by rfl) TB rfl hm hu hr (LamX.lamS_by (show LamX.lamSB (defScope s_law) _ = true by decide +kernel)) rfl (fun _ _ _ _ _ => rfl) (fun A outer s H E f c' hr2 => pe_make MT GTG (hr2.mono (by decide)) rfl TT.g bT .nil (passes_call (takes_of rfl rfl rfl rfl) (fun _ _ _ _ h => h)) (pa_cons (pv 13) pa_nil))) pe_int (nomark _)) (pss_one (ps_ret pe_bl)) pss_nil))))))))))))))
      (pss_one (ps_ret pe_bl)), ?_⟩
    refine ⟨8, rfl, by decide, by decide, ?_⟩
    refine for_range (lo := 0) (n := (8 : Int).toNat) (fun i σ H' => ∃ v1 v2 v3 v4 v5 v6 v7 v8 v9 v10 v11 v12 v13 : Option V, σ = [some (.ref a0), v1, v2, v3, v4, v5, v6, v7, v8, v9, v10, v11, v12, v13, none, none] ∧ SqL K H' a0 (ns.map V.int) ∧ Tabs T H') ⟨_, _, _, _, _, _, _, _, _, _, _, _, _, rfl, hS, hT⟩ ?_ ?_
    · rintro i_ σ H1 hi ⟨v1, v2, v3, v4, v5, v6, v7, v8, v9, v10, v11, v12, v13, rfl, hS1, hT1⟩
      have hi8 : i_ < 8 := hi
      refine ⟨_, rfl, _, rfl, a0, ns, _, rfl, hS1, by omega, by omega, fun a x y ha hx hy hy1 => ?_⟩
      have st0 : Stm (upd H1 a (.lst [.int x, .int y, .int 0])) a 0 := ⟨x, y, 0, upd_same, hx, hy, hy1, by decide, by decide⟩
      have S2 : Same H1 (upd H1 a (.lst [.int x, .int y, .int 0])) := Same.new ha
      generalize upd H1 a (.lst [.int x, .int y, .int 0]) = H2 at st0 S2
      refine ⟨_, rfl, _, rfl, a, 8, 0, rfl, st0, by decide, by decide, by decide, fun q H3 q0 q1 st3 he3 => ⟨_, _, rfl, rfl, ?_⟩⟩
      have S3 := smb S2 ha (sb_eq he3)
      refine ⟨rfl, fun kl hkl => ⟨rfl, fun pl hpl => ?_⟩⟩
      have nka : kl ≠ a := (st3.ne hkl).symm
      have npa : pl ≠ a := ((st3.upd hkl).ne hpl).symm
      have s4 : Same H3 (upd (upd H3 kl (.lst (kindsL.map V.str))) pl (.lst (pricesL.map prV))) := (Same.new hkl).trans (Same.new hpl)
      have nkp : kl ≠ pl := fun e => by rw [← e, upd_same] at hpl; cases hpl
      refine ⟨a, kl, pl, _, _, kindsL, pricesL, rfl, (st3.same s4), by omega, by omega, by omega, nka, npa, SqL.of (by rw [upd_ne nkp]; exact upd_same), SqL.of upd_same, by decide, by decide, by decide, by decide, kinds_ok3, prices_ok, fun p ras rs H5 hp0 np hp hrows hv hl hne hmem sb5 st5 => ?_⟩
      have S5 := smb (S3.trans s4) ha sb5
      have hL : RowsL H5 p rs := ⟨ras, hp, hrows⟩
      have hl10 : rs.length ≤ 10 := by omega
      have hne' : rs ≠ [] := hne (by omega)
      have st5 : Stm H5 a 200 := st5.mono (by omega)
      have rz : RowZ rs := valid_rowZ hv
      clear he3 hkl hpl nka npa s4 sb5 hp0 nkp S3 S2 st3 st0 hx hy hy1 hl hne hmem
      -- the things
      refine ⟨fun σ' H' => ∃ (D : Addr) (ys : List V) (css : List (List V)), σ' = [some (.ref a0), some (.int (0 + i_)), some (.ref a), some (.ref p), some (.ref D), v5, v6, v7, v8, v9, v10, v11, v12, v13, none, none] ∧ H' D = some (.lst ys) ∧ ThL H' ys css ∧ (∀ cs ∈ css, HeadZ cs) ∧ css.length = rs.length ∧ ExtN H1 H' ∧ Tabs T H' ∧ RowsL H' p rs ∧ Stm H' a 210, ?_, ?_⟩
      · refine ⟨_, rfl, _, _, rfl, rfl, (by show (0 : Int) < 4; decide), rfl, _, rfl, ?_⟩
        refine ite2 (fun _ => ⟨_, rfl, p, _, _, rfl, hp, rz.thl hrows, (fun cs hcs => ?_), by rw [List.length_map], Same.x S5, hT1.ext S5, hL, st5.mono (by decide)⟩) (fun _ => ?_)
        · obtain ⟨r, hr', rfl⟩ := List.mem_map.mp hcs
          exact head_row (rz r hr').1
        · refine ⟨_, rfl, _, rfl, a, p, _, rs, rfl, st5, by decide, hL, np, hne', by omega, rz, fun D ys css H6 hD Da eD hth hz hns hlc sb6 st6 => ?_⟩
          have S6 := smb S5 ha sb6
          exact ⟨D, ys, css, rfl, eD, hth, hz, hlc, Same.x S6, hT1.ext S6, hL.sbk np st5 sb6, st6⟩
      rintro σ' H6 ⟨D, ys, css, rfl, eD, hth, hz, hlc, X6, T6, L6, st6⟩
      clear st5 hL hp hrows S5
      -- the tree of the things
      obtain ⟨r, hdue⟩ := dueI_ex [("top" : Str)] [("top" : Str)] css
      refine lam_tree T6 (fun Hx G g => ⟨_, rfl, g⟩) eD hth hz (by omega) hdue fun H7 e7 T7 => ?_
      refine ⟨_, rfl, (by show 1 ≤ sizeLine; decide), fun l1 hl1 => ?_⟩
      have s8 : Same H7 (upd H7 l1 (.lst [V.str ("top" : Str)])) := Same.new hl1
      have el1 : (upd H7 l1 (.lst [V.str ("top" : Str)])) l1 = some (.lst [V.str ("top" : Str)]) := upd_same
      generalize upd H7 l1 (.lst [V.str ("top" : Str)]) = H8 at s8 el1
      refine ⟨(by show 1 ≤ sizeLine; decide), fun l2 hl2 => ?_⟩
      have s9 : Same H8 (upd H8 l2 (.lst [V.str ("top" : Str)])) := Same.new hl2
      have el2 : (upd H8 l2 (.lst [V.str ("top" : Str)])) l2 = some (.lst [V.str ("top" : Str)]) := upd_same
      generalize upd H8 l2 (.lst [V.str ("top" : Str)]) = H9 at s9 el2
      have e69 : ExtN H6 H9 := e7.trans (Same.x (s8.trans s9))
      refine ⟨D, l1, l2, ys, css, [("top" : Str)], [("top" : Str)], r, rfl, e69 _ _ eD nofun, hth.ext e69, hz, by omega, s9 _ _ el1, el2, (by show 1 ≤ 100; decide), (by show 1 ≤ 100; decide), hdue, fun H10 s10 => rd_neIx ⟨_, rfl, iteF ?_⟩⟩
      have e610 := e69.trans (Same.x s10)
      have T10 := T7.ext ((s8.trans s9).trans s10)
      have X10 := X6.trans e610
      have L10 := L6.ext e610
      have st10 := st6.ext e610
      have eD10 := e610 _ _ eD nofun
      have th10 := hth.ext e610
      obtain ⟨ras, hp, hrows⟩ := id L10.ex
      clear hdue r e7 T7 hl1 hl2 s8 s9 el1 el2 e69 s10 e610 eD hth X6 T6 L6 st6
      -- the tree, the names
      refine ⟨_, rfl, fun t dt nt ndt _ => ⟨t, dt, p, ras, rs, rfl, upd_same, .inr (mk_same0 (C := C) nt ndt _ _ hp), (hrows.same (mk_same0 (C := C) nt ndt)).seq, by omega, hv, fun H11 sb11 ht11 => ⟨rfl, ?_⟩⟩⟩
      have s11 := mk_same nt ndt sb11
      have hp11 := s11 _ _ hp
      have rows11 := hrows.same s11
      refine ⟨_, rfl, p, rfl, ⟨_, SqL.of hp11⟩, fun Db hDb => ?_⟩
      refine lc_list (K := K) (a := p) (xs := ras.map V.ref) (fun i H' => Same H11 H' ∧ H' Db = some (.lst (((rs.take i).map (·.nm)).map V.str))) ⟨Same.new hDb, upd_same⟩ (fun i H' _ m => SqL.of (m.1 _ _ hp11)) ?_ ?_
      · rintro i x H3 hx ⟨s3, e3⟩
        obtain ⟨ra, r, rfl, hra, hr', e0⟩ := rows_at rows11 hx
        refine ⟨rfl, tYes_if ⟨_, rfl, ra, _, _, _, rfl, rfl, sqT (s3 _ _ e0), atI0 _ _ _ _, _, e3, small1000 (by rw [List.length_map, List.length_map, List.length_take]; omega), fun b o eb => ?_, ?_⟩⟩
        · rw [upd_ne (fun y => by rw [y, hDb] at eb; cases eb)]
          exact s3 _ _ eb
        · rw [upd_same, take_more hr', List.map_append, List.map_append]; rfl
      rintro H12 ⟨s12, e12⟩
      rw [List.length_map, rows11.len, List.take_length] at e12
      have eb12 : H12 Db = some (.lst ((names rs).map V.str)) := e12
      have nDa : Db ≠ a := ((st10.same s11).ne hDb).symm
      refine ⟨(by show 2 ≤ sizeLine; decide), fun tq htq => ⟨tq, _, rfl, sqT upd_same, rfl, _, _, rfl, _, _, rfl, rfl, ?_⟩⟩
      have s13 : Same H12 (upd H12 tq (.tup [.ref t, .ref Db])) := Same.new htq
      generalize upd H12 tq (.tup [V.ref t, V.ref Db]) = H13 at s13
      have eb13 := s13 _ _ eb12
      have s1113 := s12.trans s13
      have ht13 := ht11.same s1113
      have S13 := s11.trans s1113
      have st13 := st10.same S13
      clear e12 eb12 s12 s13 hDb htq ht11 hp11 rows11 sb11 nt ndt s11 s1113
      -- the folders
      refine ⟨(by show 1 ≤ sizeLine; decide), fun l3 hl3 => ?_⟩
      have s7 : Same H13 (upd H13 l3 (.lst [V.str ("top" : Str)])) := Same.new hl3
      have e7 : (upd H13 l3 (.lst [V.str ("top" : Str)])) l3 = some (.lst [V.str ("top" : Str)]) := upd_same
      generalize upd H13 l3 (.lst [V.str ("top" : Str)]) = H7 at s7 e7
      have hp7 := (S13.trans s7) _ _ hp
      have hr7 := hrows.same (S13.trans s7)
      refine ⟨_, rfl, p, rfl, ⟨_, SqL.of hp7⟩, fun D2 hD2 => ?_⟩
      refine lc_list (K := K) (a := p) (xs := ras.map V.ref) (fun i H' => Same H7 H' ∧ H' D2 = some (.lst ((((rs.take i).filter fun r => decide (r.ki = ("folder" : Str))).map (·.nm)).map V.str))) ⟨Same.new hD2, upd_same⟩ (fun i H' _ m => m.1.seq (SqL.of hp7)) ?_ ?_
      · rintro i x H8 hx ⟨s8, hD8⟩
        obtain ⟨ra, r, rfl, hra, hr', e0⟩ := rows_at hr7 hx
        have e8 := s8 _ _ e0
        have szD : (((rs.take i).filter fun r => decide (r.ki = ("folder" : Str))).map (·.nm)).length ≤ 1000 := by
          rw [List.length_map]
          have h1 := List.length_filter_le (fun r => decide (r.ki = ("folder" : Str))) (rs.take i)
          rw [List.length_take] at h1
          omega
        refine ⟨rfl, _, rfl, ra, _, _, _, rfl, rfl, sqT e8, atI2 _ _ _ _, rfl, _, rfl, ?_⟩
        refine ite2 (fun hc => ?_) (fun hc => ?_)
        · have hc' : r.ki = ("folder" : Str) := V.str.inj (of_decide_eq_true hc)
          refine ⟨_, rfl, ra, _, _, _, rfl, rfl, sqT e8, atI0 _ _ _ _, _, hD8, by rw [List.length_map]; exact small1000 szD, fun b o eb => ?_, ?_⟩
          · rw [upd_ne (fun y => by rw [y, hD2] at eb; cases eb)]
            exact s8 _ _ eb
          · rw [upd_same, filter_take hr', if_pos (decide_eq_true hc'), List.map_append]; rfl
        · have hc' : ¬ r.ki = ("folder" : Str) := fun e => hc (decide_eq_true (by rw [e]))
          refine ⟨s8, ?_⟩
          rw [filter_take hr', if_neg (fun y => hc' (of_decide_eq_true y)), List.append_nil]
          exact hD8
      rintro H8 ⟨s8, hD8⟩
      rw [List.length_map, hr7.len, List.take_length] at hD8
      have lf := folders_le rs
      have hD8' : H8 D2 = some (.lst ((folderNames rs).map V.str)) := hD8
      refine ⟨l3, D2, _, _, rfl, rfl, s8 _ _ e7, hD8', szl (by rw [List.length_map]; show 1 + _ ≤ 1000; omega), fun Df hDf => ?_⟩
      have s9 := (s7.trans s8).trans (Same.new (o := .lst ([V.str ("top" : Str)] ++ (folderNames rs).map V.str)) hDf)
      have e9 : (upd H8 Df (.lst ([V.str ("top" : Str)] ++ (folderNames rs).map V.str))) Df = some (.lst ((("top" : Str) :: folderNames rs).map V.str)) := upd_same
      generalize upd H8 Df (.lst ([V.str ("top" : Str)] ++ (folderNames rs).map V.str)) = H9 at s9 e9
      have nfa : Df ≠ a := ((st13.same (s7.trans s8)).ne hDf).symm
      have S9 := S13.trans s9
      have W : St2 C T H1 H9 a p t Db Df rs 210 := ⟨ha, np, nDa, nfa, X10.trans (Same.x S9), T10.ext S9, ht13.same s9, L10.same S9, s9 _ _ eb13, e9, st13.same s9⟩
      have eD := S9 _ _ eD10
      have hth := th10.ext (Same.x S9)
      clear hl3 s7 e7 hp7 hr7 hD2 s8 hD8 hD8' hDf s9 e9 S9 S13 st13 eb13 ht13 hp hrows eD10 th10 X10 T10 L10 st10 nDa nfa ha np
      -- one thing more
      have hysl := hth.len
      have hrl : 1 ≤ rs.length := List.length_pos_iff.mpr hne'
      obtain ⟨cpre, cs, rfl⟩ := concat_of (l := css) (fun e => by rw [e] at hlc; simp at hlc; omega)
      obtain ⟨ypre, y, rfl⟩ := concat_of (l := ys) (fun e => by rw [e] at hysl; simp at hysl)
      have hy := hth.last
      have hzc := hz cs (by simp)
      obtain ⟨r, hdue⟩ := dueI_ex (names rs) (("top" : Str) :: folderNames rs) [cs]
      have ln : (names rs).length ≤ 10 := by unfold names; rw [List.length_map]; omega
      have lfo : (("top" : Str) :: folderNames rs).length ≤ 11 := by rw [List.length_cons]; omega
      refine ⟨_, rfl, _, rfl, D, _, _, _, rfl, rfl, SqL.of eD, atI_last, (by show 1 ≤ sizeLine; decide), fun l1 hl1 => ?_⟩
      have s1 : Same H9 (upd H9 l1 (.lst [y])) := Same.new hl1
      have el1 : (upd H9 l1 (.lst [y])) l1 = some (.lst [y]) := upd_same
      generalize upd H9 l1 (.lst [y]) = H10 at s1 el1
      have W1 := W.same s1
      refine ⟨_, rfl, _, rfl, l1, Df, Db, [y], [cs], names rs, _, r, rfl, el1, ThL.one (hy.ext (Same.x s1)), (fun c hc => by rw [List.mem_singleton.mp hc]; exact hzc), (by show 1 ≤ 100; decide), W1.fol, W1.nam, by omega, by omega, hdue, fun H11 s11 => ?_⟩
      have s12 := s1.trans s11
      have W2 := W.same s12
      have eD2 := s12 _ _ eD
      refine ⟨fun σ' H' => σ' = [some (.ref a0), some (.int (0 + i_)), some (.ref a), some (.ref p), some (.ref D), some (.ref t), some (.ref Db), some (.ref Df), some (ixV r), v9, v10, v11, v12, v13, none, none] ∧ St2 C T H1 H' a p t Db Df rs 210, ?_, ?_⟩
      · refine lam_more W2.tabs (fun Hx G g => ⟨_, rfl, g⟩) (fun Hx G ex g => ⟨_, rfl, _, rfl, D, _, _, _, rfl, rfl, sq_ext (SqL.of eD2) ex, atI_last, g⟩) W2.tree (by omega) (hy.ext (Same.x s12)) hzc hdue fun H12 e12 T12 => ?_
        have W3 := W2.ext e12 T12
        obtain ⟨ras, hp, hrows⟩ := id W3.rows.ex
        rcases due_one hdue with ⟨rfl, _⟩ | ⟨rfl, _⟩
        · refine ⟨_, rfl, rfl, _, rfl, iteT ?_⟩
          refine tC_of ?_
          exact rd_neIx (r := none) ⟨_, rfl, iteF ⟨rfl, W3⟩⟩
        · refine ⟨_, rfl, rfl, _, rfl, iteF' (decide_eq_false (fun e => by cases e)) ⟨_, rfl, p, _, rfl, .inl (SqL.of hp), ?_⟩⟩
          rw [List.length_map, hrows.len]
          exact rd_neIx (r := some rs.length) ⟨_, rfl, iteF ⟨rfl, W3⟩⟩
      rintro σ' H12 ⟨rfl, W3⟩
      clear W W1 W2 s1 el1 s11 s12 hl1 hdue hy hzc hth eD eD2 hz hlc hysl
      -- the shut boxes
      obtain ⟨ras, hp, hrows⟩ := id W3.rows.ex
      refine ⟨_, rfl, p, rfl, ⟨_, SqL.of hp⟩, fun D2 hD2 => ?_⟩
      refine lc_list (K := K) (a := p) (xs := ras.map V.ref) (fun i H' => Same H12 H' ∧ H' D2 = some (.lst ((((rs.take i).filter fun r => decide (r.ki = ("shut" : Str))).map (·.nm)).map V.str))) ⟨Same.new hD2, upd_same⟩ (fun i H' _ m => m.1.seq (SqL.of hp)) ?_ ?_
      · rintro i x H8 hx ⟨s8, hD8⟩
        obtain ⟨ra, r, rfl, hra, hr', e0⟩ := rows_at hrows hx
        have e8 := s8 _ _ e0
        have szD : (((rs.take i).filter fun r => decide (r.ki = ("shut" : Str))).map (·.nm)).length ≤ 1000 := by
          rw [List.length_map]
          have h1 := List.length_filter_le (fun r => decide (r.ki = ("shut" : Str))) (rs.take i)
          rw [List.length_take] at h1
          omega
        refine ⟨rfl, _, rfl, ra, _, _, _, rfl, rfl, sqT e8, atI2 _ _ _ _, rfl, _, rfl, ?_⟩
        refine ite2 (fun hc => ?_) (fun hc => ?_)
        · have hc' : r.ki = ("shut" : Str) := V.str.inj (of_decide_eq_true hc)
          refine ⟨_, rfl, ra, _, _, _, rfl, rfl, sqT e8, atI0 _ _ _ _, _, hD8, by rw [List.length_map]; exact small1000 szD, fun b o eb => ?_, ?_⟩
          · rw [upd_ne (fun y => by rw [y, hD2] at eb; cases eb)]
            exact s8 _ _ eb
          · rw [upd_same, filter_take hr', if_pos (decide_eq_true hc'), List.map_append]; rfl
        · have hc' : ¬ r.ki = ("shut" : Str) := fun e => hc (decide_eq_true (by rw [e]))
          refine ⟨s8, ?_⟩
          rw [filter_take hr', if_neg (fun y => hc' (of_decide_eq_true y)), List.append_nil]
          exact hD8
      rintro H13 ⟨s13, hD13⟩
      rw [List.length_map, hrows.len, List.take_length] at hD13
      refine ⟨_, rfl, D2, _, rfl, SqL.of hD13, fun u hu => ?_⟩
      have s14 := s13.trans (Same.new (o := .lst (cutV (((rs.filter fun r => decide (r.ki = ("shut" : Str))).map (·.nm)).map V.str) none (some 1))) hu)
      have eu : (upd H13 u (.lst (cutV (((rs.filter fun r => decide (r.ki = ("shut" : Str))).map (·.nm)).map V.str) none (some 1)))) u = some (.lst (cutV (((rs.filter fun r => decide (r.ki = ("shut" : Str))).map (·.nm)).map V.str) none (some 1))) := upd_same
      have nua : u ≠ a := ((W3.same s13).stm.ne hu).symm
      have hsh : ∀ x ∈ cutV (((rs.filter fun r => decide (r.ki = ("shut" : Str))).map (·.nm)).map V.str) none (some 1), ∃ b ∈ rs, b.ki = ("shut" : Str) ∧ x = .str b.nm := fun x hx => shut_of hx
      have lsh : (cutV (((rs.filter fun r => decide (r.ki = ("shut" : Str))).map (·.nm)).map V.str) none (some 1)).length ≤ 10 := by
        have h1 := cutV_length (((rs.filter fun r => decide (r.ki = ("shut" : Str))).map (·.nm)).map V.str) none (some 1)
        have h2 := List.length_filter_le (fun r => decide (r.ki = ("shut" : Str))) rs
        rw [List.length_map, List.length_map] at h1
        omega
      generalize cutV (((rs.filter fun r => decide (r.ki = ("shut" : Str))).map (·.nm)).map V.str) none (some 1) = bxs at s14 eu hsh lsh
      generalize upd H13 u (.lst bxs) = H14 at s14 eu
      have W4 := (W3.same s14).mono (n' := 300) (by decide)
      clear W3 hp hrows hD2 s13 hD13 hu s14
      refine ⟨u, rfl, ⟨_, SqL.of eu⟩, ?_⟩
      refine for_list (K := K) (a := u) (xs := bxs) (fun i σ H' => ∃ v8 v9 v10 v11 v12 : Option V, σ = [some (.ref a0), some (.int (0 + i_)), some (.ref a), some (.ref p), some (.ref D), some (.ref t), some (.ref Db), some (.ref Df), v8, v9, v10, v11, v12, v13, none, none] ∧ St2 C T H1 H' a p t Db Df rs (300 + 40 * i) ∧ H' u = some (.lst bxs)) ⟨_, _, _, _, _, rfl, W4.mono (by omega), eu⟩ (fun i σ H' _ ⟨_, _, _, _, _, _, _, e⟩ => SqL.of e) ?_ ?_
      · rintro i x σ H15 hx ⟨v8, v9, v10, v11, v12, rfl, W5, eu5⟩
        obtain ⟨b, hb, hk, rfl⟩ := hsh x (List.mem_of_getElem? hx)
        have hi10 : i < 10 := by
          have := (List.getElem?_eq_some_iff.mp hx).1
          omega
        have hbl : b.nm.length ≤ 100 := (rz b hb).2.1
        -- the rows within
        refine ⟨2, rfl, by decide, by decide, fun D3 hD3 => ?_⟩
        have n3a : D3 ≠ a := (W5.stm.ne hD3).symm
        have n3u : u ≠ D3 := ne_of_none eu5 hD3
        have k3 := W5.apart hD3
        refine lc_range (lo := 0) (n := (2 : Int).toNat) (fun j H' => ∃ as : List Addr, H' D3 = some (.lst (as.map V.ref)) ∧ RowsAt H' as ((innerL b.nm).take j) ∧ Same H15 H') ⟨[], upd_same, RowsAt.nil, Same.new hD3⟩ ?_ ?_
        · rintro j H7 hj ⟨as, e7, r7, s7⟩
          have hj2 : j < 2 := hj
          have la := r7.len
          rw [List.length_take] at la
          have add : ∀ (z fo : Str) (fl tr : Addr) (L : List V), H7 fl = none → (upd H7 fl (.lst L)) tr = none → (innerL b.nm)[j]? = some ⟨z, fo, "folder", some 1⟩ →
              ∃ acc, (upd (upd H7 fl (.lst L)) tr (.tup [.str z, .str fo, .str ("folder" : Str), .int 1])) D3 = some (.lst acc) ∧ acc.length < sizeLine ∧ ∃ as : List Addr, (upd (upd (upd H7 fl (.lst L)) tr (.tup [.str z, .str fo, .str ("folder" : Str), .int 1])) D3 (.lst (acc ++ [V.ref tr]))) D3 = some (.lst (as.map V.ref)) ∧ RowsAt (upd (upd (upd H7 fl (.lst L)) tr (.tup [.str z, .str fo, .str ("folder" : Str), .int 1])) D3 (.lst (acc ++ [V.ref tr]))) as ((innerL b.nm).take (j + 1)) ∧ Same H15 (upd (upd (upd H7 fl (.lst L)) tr (.tup [.str z, .str fo, .str ("folder" : Str), .int 1])) D3 (.lst (acc ++ [V.ref tr]))) := by
            intro z fo fl tr L hfl htr hj'
            have s8 : Same H7 (upd (upd H7 fl (.lst L)) tr (.tup [.str z, .str fo, .str ("folder" : Str), .int 1])) := (Same.new hfl).trans (Same.new htr)
            have e8 : (upd (upd H7 fl (.lst L)) tr (.tup [.str z, .str fo, .str ("folder" : Str), .int 1])) tr = some (.tup (rowVs ⟨z, fo, "folder", some 1⟩)) := upd_same
            generalize upd (upd H7 fl (.lst L)) tr (.tup [.str z, .str fo, .str ("folder" : Str), .int 1]) = H8 at s8 e8
            have eD8 := s8 _ _ e7
            refine ⟨_, eD8, small1000 (by rw [List.length_map]; omega), as ++ [tr], by rw [upd_same, List.map_append]; rfl, ?_, fun q o eb => ?_⟩
            · rw [take_more hj']
              exact ((r7.same s8).snoc e8).kl (KL.upd eD8)
            · rw [upd_ne (ne_of_none eb hD3)]
              exact (s7.trans s8) _ _ eb
          refine ⟨rfl, tYes_if ?_⟩
          rcases (show j = 0 ∨ j = 1 by omega) with rfl | rfl
          · refine ⟨_, rfl, _, _, 97, rfl, rfl, (by decide +kernel), rfl, _, _, rfl, rfl, (by decide +kernel), ?_⟩
            refine ⟨_, rfl, (by show 2 ≤ sizeLine; decide), fun fl hfl => ⟨_, rfl, fl, _, _, _, rfl, rfl, SqL.of upd_same, rfl, (by show 4 ≤ sizeLine; decide), fun tr htr => ?_⟩⟩
            rw [new_a]
            exact add _ _ fl tr _ hfl htr rfl
          · refine ⟨_, rfl, _, _, 98, rfl, rfl, (by decide +kernel), rfl, _, _, rfl, rfl, (by decide +kernel), ?_⟩
            refine ⟨_, rfl, (by show 2 ≤ sizeLine; decide), fun fl hfl => ⟨_, rfl, fl, _, _, _, rfl, rfl, SqL.of upd_same, rfl, (by show 4 ≤ sizeLine; decide), fun tr htr => ?_⟩⟩
            rw [new_b]
            exact add _ _ fl tr _ hfl htr rfl
        rintro H16 ⟨as3, e3, r3, s3⟩
        have r3' : RowsAt H16 as3 (innerL b.nm) := r3
        have W6 := W5.same s3
        have eu6 := s3 _ _ eu5
        have rz3 : RowZ (innerL b.nm) := inner_rowZ hbl
        clear r3 s3 W5 eu5 hD3
        -- one of them spoilt
        refine ⟨fun σ' H' => ∃ (E : Addr) (ys : List V) (css : List (List V)), σ' = [some (.ref a0), some (.int (0 + i_)), some (.ref a), some (.ref p), some (.ref D), some (.ref t), some (.ref Db), some (.ref Df), v8, some (.str b.nm), some (.ref E), v11, v12, v13, none, none] ∧ St2 C T H1 H' a p t Db Df rs (312 + 40 * i) ∧ H' u = some (.lst bxs) ∧ Apart H1 a p Db Df E ∧ E ≠ a ∧ u ≠ E ∧ H' E = some (.lst ys) ∧ ThL H' ys css ∧ (∀ cs ∈ css, HeadZ cs) ∧ (∀ y ∈ ys, y ≠ .ref a ∧ y ≠ .ref E) ∧ css.length = 2, ?_, ?_⟩
        · refine ⟨_, rfl, a, 2, _, rfl, W6.stm, by omega, by decide, by decide, fun r H7 r0 r1 st7 he7 => ⟨rfl, _, rfl, ?_⟩⟩
          have sb7 := sb_eq (H := H16) he7
          have W7 := W6.sb sb7 st7
          have eu7 := sb7 _ _ nua eu6
          have e37 := sb7 _ _ n3a e3
          have r37 := r3'.kl (KL.sb W6.stm sb7)
          refine ite2 (fun _ => ⟨_, rfl, D3, _, _, rfl, W7.mono (by omega), eu7, k3, n3a, n3u, e37, rz3.thl r37, (fun cs hcs => ?_), (fun y hy => ?_), rfl⟩) (fun _ => ?_)
          · obtain ⟨r, hr', rfl⟩ := List.mem_map.mp hcs
            exact head_row (rz3 r hr').1
          · obtain ⟨x, hx', rfl⟩ := List.mem_map.mp hy
            obtain ⟨m, hm', em⟩ := List.mem_iff_getElem.mp hx'
            have e5 := r37.at_ m x _ (by rw [← em]; exact List.getElem?_eq_getElem hm') (List.getElem?_eq_getElem (by rw [← r37.len]; exact hm'))
            refine ⟨fun e => ?_, fun e => ?_⟩
            · cases e
              obtain ⟨x, y, z, e4, _⟩ := st7
              rw [e4] at e5
              cases e5
            · cases e
              rw [e37] at e5
              cases e5
          · refine ⟨_, rfl, _, rfl, a, D3, _, innerL b.nm, rfl, st7, by omega, ⟨as3, e37, r37⟩, n3a, (by unfold innerL; simp), (by show 2 ≤ 20; decide), rz3, fun E ys css H8 hE Ea eE hth hz hns hlc sb8 st8 => ?_⟩
            have W8 := W7.sb sb8 st8
            exact ⟨E, ys, css, rfl, W8.mono (by omega), sb8 _ _ nua eu7, W7.apart hE, Ea, ne_of_none eu7 hE, eE, hth, hz, hns, hlc⟩
        rintro σ' H17 ⟨E, ys, css, rfl, W7, eu7, kE, Ea, uE, eE, hth, hz, hns, hlc⟩
        clear W6 eu6 r3' e3 n3a n3u k3 rz3
        -- one more
        refine ⟨fun σ' H' => ∃ (w11 w12 : Option V) (ys : List V) (css : List (List V)), σ' = [some (.ref a0), some (.int (0 + i_)), some (.ref a), some (.ref p), some (.ref D), some (.ref t), some (.ref Db), some (.ref Df), v8, some (.str b.nm), some (.ref E), w11, w12, v13, none, none] ∧ St2 C T H1 H' a p t Db Df rs (330 + 40 * i) ∧ H' u = some (.lst bxs) ∧ H' E = some (.lst ys) ∧ ThL H' ys css ∧ (∀ cs ∈ css, HeadZ cs) ∧ css.length ≤ 3, ?_, ?_⟩
        · refine ⟨_, rfl, a, 2, _, rfl, W7.stm, by omega, by decide, by decide, fun r H8 r0 r1 st8 he8 => ⟨rfl, _, rfl, ?_⟩⟩
          have sb8 := sb_eq (H := H17) he8
          have W8 := W7.sb sb8 st8
          have eu8 := sb8 _ _ nua eu7
          have eE8 := sb8 _ _ Ea eE
          have th8 := hth.sb (fun y hy => (hns y hy).1) W7.stm sb8 st8
          refine ite2 (fun _ => ?_) (fun _ => ⟨_, _, ys, css, rfl, W8.mono (by omega), eu8, eE8, th8, hz, by omega⟩)
          -- a name
          refine ⟨_, rfl, _, rfl, (by show 1 ≤ sizeLine; decide), fun l1 hl1 => ?_⟩
          have s1 : Same H8 (upd H8 l1 (.lst [V.str ("newc" : Str)])) := Same.new hl1
          have el1 : (upd H8 l1 (.lst [V.str ("newc" : Str)])) l1 = some (.lst [V.str ("newc" : Str)]) := upd_same
          generalize upd H8 l1 (.lst [V.str ("newc" : Str)]) = H9 at s1 el1
          refine ⟨Db, l1, _, _, rfl, rfl, s1 _ _ W8.nam, el1, szl (by rw [List.length_map]; show _ + 1 ≤ 1000; omega), fun l2 hl2 => ?_⟩
          have s2 := s1.trans (Same.new (o := .lst ((names rs).map V.str ++ [V.str ("newc" : Str)])) hl2)
          have el2 : (upd H9 l2 (.lst ((names rs).map V.str ++ [V.str ("newc" : Str)]))) l2 = some (.lst ((names rs).map V.str ++ [V.str ("newc" : Str)])) := upd_same
          have nl2 : l2 ≠ a := ((st8.same s1).ne hl2).symm
          generalize upd H9 l2 (.lst ((names rs).map V.str ++ [V.str ("newc" : Str)])) = H10 at s2 el2
          have W10 := W8.same s2
          refine .inl ⟨a, l2, _, _, rfl, W10.stm, by omega, nl2, SqL.of el2, by simp, by rw [List.length_append, List.length_map]; show _ + 1 ≤ 1000000; omega, fun v1 H11 hv1 st11 sb11 _ => ?_⟩
          have W11 := W10.sb sb11 st11
          have eu11 := sb11 _ _ nua (s2 _ _ eu8)
          have eE11 := sb11 _ _ Ea (s2 _ _ eE8)
          have th11 := (th8.ext (Same.x s2)).sb (fun y hy => (hns y hy).1) W10.stm sb11 st11
          obtain ⟨z1, rfl, hz1, lz1⟩ : ∃ z, v1 = .str z ∧ Okz z ∧ z.length ≤ 100 := by
            rcases List.mem_append.mp hv1 with h | h
            · obtain ⟨z, hz', rfl⟩ := List.mem_map.mp h
              obtain ⟨q, hq', rfl⟩ := List.mem_map.mp hz'
              exact ⟨_, rfl, (rz q hq').1, (rz q hq').2.1⟩
            · exact ⟨_, List.mem_singleton.mp h, okz_shape newc_shape, by decide +kernel⟩
          clear s1 el1 hl1 hl2 s2 el2 nl2 W8 W10 sb8 st8 he8 eu8 eE8 th8 hv1 st11 sb11
          -- a folder
          refine ⟨_, rfl, _, rfl, (by show 1 ≤ sizeLine; decide), fun l1 hl1 => ?_⟩
          have s1 : Same H11 (upd H11 l1 (.lst [V.str ("newa" : Str)])) := Same.new hl1
          have el1 : (upd H11 l1 (.lst [V.str ("newa" : Str)])) l1 = some (.lst [V.str ("newa" : Str)]) := upd_same
          generalize upd H11 l1 (.lst [V.str ("newa" : Str)]) = H9 at s1 el1
          refine ⟨Df, l1, _, _, rfl, rfl, s1 _ _ W11.fol, el1, szl (by rw [List.length_map]; show _ + 1 ≤ 1000; omega), fun l2 hl2 => ?_⟩
          have s2 := s1.trans (Same.new (o := .lst ((("top" : Str) :: folderNames rs).map V.str ++ [V.str ("newa" : Str)])) hl2)
          have el2 : (upd H9 l2 (.lst ((("top" : Str) :: folderNames rs).map V.str ++ [V.str ("newa" : Str)]))) l2 = some (.lst ((("top" : Str) :: folderNames rs).map V.str ++ [V.str ("newa" : Str)])) := upd_same
          have nl2 : l2 ≠ a := ((W11.stm.same s1).ne hl2).symm
          generalize upd H9 l2 (.lst ((("top" : Str) :: folderNames rs).map V.str ++ [V.str ("newa" : Str)])) = H10 at s2 el2
          have W12 := W11.same s2
          refine .inl ⟨a, l2, _, _, rfl, W12.stm, by omega, nl2, SqL.of el2, by simp, by rw [List.length_append, List.length_map]; show _ + 1 ≤ 1000000; omega, fun v2 H12 hv2 st12 sb12 _ => ⟨_, _, rfl, ?_⟩⟩
          have W13 := W12.sb sb12 st12
          have eu13 := sb12 _ _ nua (s2 _ _ eu11)
          have eE13 := sb12 _ _ Ea (s2 _ _ eE11)
          have th13 := (th11.ext (Same.x s2)).sb (fun y hy => (hns y hy).1) W12.stm sb12 st12
          obtain ⟨z2, rfl, lz2⟩ : ∃ z, v2 = .str z ∧ z.length ≤ 100 := by
            rcases List.mem_append.mp hv2 with h | h
            · obtain ⟨z, hz', rfl⟩ := List.mem_map.mp h
              rcases List.mem_cons.mp hz' with rfl | hz'
              · exact ⟨_, rfl, by decide +kernel⟩
              · obtain ⟨q, hq', rfl, _⟩ := mem_folders hz'
                exact ⟨_, rfl, (rz q hq').2.1⟩
            · exact ⟨_, List.mem_singleton.mp h, by decide +kernel⟩
          clear s1 el1 hl1 hl2 s2 el2 nl2 W11 W12 eu11 eE11 th11 hv2 st12 sb12
          -- the row
          have ly := hth.len
          refine ⟨_, rfl, .inl ⟨rfl, _, SqL.of eE13⟩, _, rfl, _, rfl, (by show 4 ≤ sizeLine; decide), fun tq htq => ?_⟩
          have s3 : Same H12 (upd H12 tq (.tup [V.str z1, V.str z2, V.str ("item" : Str), V.int 1])) := Same.new htq
          have e3 : (upd H12 tq (.tup [V.str z1, V.str z2, V.str ("item" : Str), V.int 1])) tq = some (.tup [V.str z1, V.str z2, V.str ("item" : Str), V.int 1]) := upd_same
          have nqE : tq ≠ E := (ne_of_none eE13 htq).symm
          generalize upd H12 tq (.tup [V.str z1, V.str z2, V.str ("item" : Str), V.int 1]) = H13 at s3 e3
          have eE14 := s3 _ _ eE13
          refine ⟨E, _, _, rfl, rfl, eE14, small1000 (by omega), ?_⟩
          have thq : ThAt H13 (.ref tq) [V.str z1, V.str z2, V.str ("item" : Str), V.int 1] := .inr ⟨tq, rfl, .inl e3, (by show 4 ≤ 10; decide), fun c hc => by
            simp only [List.mem_cons, List.not_mem_nil, or_false] at hc
            rcases hc with rfl | rfl | rfl | rfl
            · exact cell_str lz1
            · exact cell_str lz2
            · exact cell_str (by decide +kernel)
            · exact cell_pr (some 1)⟩
          refine ⟨_, _, _, css ++ [[V.str z1, V.str z2, V.str ("item" : Str), V.int 1]], rfl, ((W13.same s3).put kE eE14).mono (by omega), by rw [upd_ne uE]; exact s3 _ _ eu13, upd_same, ThL.put ((th13.ext (Same.x s3)).snoc thq) (fun y hy => ?_) eE14, fun cs hcs => ?_, by rw [List.length_append, hlc]; exact Nat.le_refl 3⟩
          · rcases List.mem_append.mp hy with h | h
            · exact (hns y h).2
            · rw [List.mem_singleton.mp h]
              exact fun e => nqE (V.ref.inj e)
          · rcases List.mem_append.mp hcs with h | h
            · exact hz cs h
            · rw [List.mem_singleton.mp h]
              exact fun z e => by cases e; exact hz1
        rintro σ' H18 ⟨w11, w12, zs, dss, rfl, W8, eu8, eE8, hth8, hz8, hl8⟩
        clear W7 eu7 kE Ea uE eE hth hz hns hlc ys css
        -- what is due
        obtain ⟨r, hdue⟩ := dueI_ex (names rs) [b.nm] dss
        refine ⟨_, rfl, _, rfl, (by show 1 ≤ sizeLine; decide), fun l1 hl1 => ?_⟩
        have s1 : Same H18 (upd H18 l1 (.lst [V.str b.nm])) := Same.new hl1
        have el1 : (upd H18 l1 (.lst [V.str b.nm])) l1 = some (.lst [V.str b.nm]) := upd_same
        generalize upd H18 l1 (.lst [V.str b.nm]) = H19 at s1 el1
        have W9 := W8.same s1
        refine ⟨_, rfl, E, l1, Db, zs, dss, names rs, [b.nm], r, rfl, s1 _ _ eE8, hth8.ext (Same.x s1), hz8, by omega, el1, W9.nam, (by show 1 ≤ 100; decide), by omega, hdue, fun H20 s20 => ?_⟩
        have s2 := s1.trans s20
        have W10 := W8.same s2
        refine lam_open W10.tabs (fun Hx G g => ⟨_, rfl, g⟩) (fun Hx G g => ⟨_, rfl, _, rfl, g⟩) W10.tree hb hk (s2 _ _ eE8) (hth8.ext (Same.x s2)) hz8 (by omega) hdue fun H21 e21 T21 => ?_
        refine ⟨_, rfl, rd_neIx ⟨_, rfl, iteF ?_⟩⟩
        have W11 := W10.ext e21 T21
        have eu11 := e21 _ _ (s2 _ _ eu8) nofun
        obtain ⟨dx, tq, tfo, tk, tp, tqs, g7, _⟩ := id W11.tree.ex
        obtain ⟨as11, hp11, hr11⟩ := id W11.rows.ex
        refine ⟨_, rfl, t, dx, _, rfl, g7, no_rows, t, rs, rfl, W11.tree, fun l2 q1 hl2 hq1 => ?_⟩
        have s22 : Same H21 (upd H21 l2 (.lst (q1.map V.ref))) := Same.new hl2
        refine ⟨_, rfl, _, _, .lst (SqL.of upd_same) (rows_dp (hq1.same s22)), .lst (SqL.of (s22 _ _ hp11)) (rows_dp (hr11.same s22)), shaped_lst hv.ok, shaped_lst hv.ok, ?_⟩
        rw [lst_same]
        exact ⟨_, rfl, iteF ⟨_, _, _, _, _, rfl, (W11.same s22).mono (by push_cast; omega), s22 _ _ eu11⟩⟩
      rintro σ H15 ⟨v8, v9, v10, v11, v12, rfl, W5, eu5⟩
      have W6 := W5.mono (n' := 1000) (by omega)
      clear W4 W5 eu5 eu
      -- other objects
      obtain ⟨ras, hp, hrows⟩ := id W6.rows.ex
      obtain ⟨r0, hr0⟩ : ∃ r0, rs[0]? = some r0 := ⟨_, List.getElem?_eq_getElem hrl⟩
      obtain ⟨ra0, hra0⟩ : ∃ x, ras[0]? = some x := ⟨_, List.getElem?_eq_getElem (by rw [hrows.len]; exact hrl)⟩
      have er0 := hrows.at_ 0 ra0 r0 hra0 hr0
      refine fun d hd => ?_
      have sd : Same H15 (upd H15 d (.dK [])) := Same.new hd
      have ed : (upd H15 d (.dK [])) d = some (.dK []) := upd_same
      generalize upd H15 d (.dK []) = H16 at sd ed
      refine ⟨_, rfl, p, _, _, _, rfl, rfl, SqL.of (sd _ _ hp), atI_nat (j := 0) (by rw [List.getElem?_map, hra0]; rfl), ra0, _, _, _, rfl, rfl, sqT (sd _ _ er0), atI0 _ _ _ _, (by show 5 ≤ sizeLine; decide), fun ol hol => ?_⟩
      have so : Same H16 (upd H16 ol (.lst [V.non, V.int 5, V.str ("rows" : Str), V.ref d, V.str r0.nm])) := Same.new hol
      have eo : (upd H16 ol (.lst [V.non, V.int 5, V.str ("rows" : Str), V.ref d, V.str r0.nm])) ol = some (.lst [V.non, V.int 5, V.str ("rows" : Str), V.ref d, V.str r0.nm]) := upd_same
      generalize upd H16 ol (.lst [V.non, V.int 5, V.str ("rows" : Str), V.ref d, V.str r0.nm]) = H17 at so eo
      have W7 := W6.same (sd.trans so)
      have hns : ∀ z ∈ [V.non, V.int 5, V.str ("rows" : Str), V.ref d, V.str r0.nm], NoSq H17 z := fun z hz => by
        simp only [List.mem_cons, List.not_mem_nil, or_false] at hz
        rcases hz with rfl | rfl | rfl | rfl | rfl
        · exact .inl rfl
        · exact .inr (.inl ⟨_, rfl⟩)
        · exact .inr (.inr (.inl ⟨_, rfl⟩))
        · exact .inr (.inr (.inr ⟨d, _, rfl, so _ _ ed⟩))
        · exact .inr (.inr (.inl ⟨_, rfl⟩))
      clear W6 hp hrows er0 sd ed hd so hol
      refine ⟨ol, rfl, ⟨_, SqL.of eo⟩, ?_⟩
      refine for_list (K := K) (a := ol) (xs := [V.non, V.int 5, V.str ("rows" : Str), V.ref d, V.str r0.nm]) (fun i σ H' => ∃ v13 : Option V, σ = [some (.ref a0), some (.int (0 + i_)), some (.ref a), some (.ref p), some (.ref D), some (.ref t), some (.ref Db), some (.ref Df), v8, v9, v10, v11, v12, v13, none, none] ∧ ExtN H17 H' ∧ Tabs T H') ⟨_, rfl, (fun _ _ e _ => e), W7.tabs⟩ (fun i σ H' _ ⟨_, _, e, _⟩ => SqL.of (e _ _ eo nofun)) ?_ ?_
      · rintro i x σ H18 hx ⟨v13, rfl, e18, T18⟩
        have nx := (hns x (List.mem_of_getElem? hx)).ext e18
        exact lam_treeX T18 (fun Hx G g => ⟨_, rfl, g⟩) (.inl ⟨nx, rfl⟩) fun H19 e19 T19 => tC_of (rd_neIx (r := some 0) ⟨_, rfl, iteF ⟨_, rfl, e18.trans e19, T19⟩⟩)
      rintro σ H18 ⟨v13, rfl, e18, T18⟩
      exact ⟨_, _, _, _, _, _, _, _, _, _, _, _, _, rfl, sq_ext hS1 (W7.x.trans e18), T18⟩
    · rintro σ H1 ⟨v1, v2, v3, v4, v5, v6, v7, v8, v9, v10, v11, v12, v13, rfl, _⟩
      exact hq _
end
end Ts

set_option maxRecDepth 100000
set_option maxHeartbeats 4000000
namespace Ts
open PySem L2
section
variable {P : Program} {w : World} {K : PySem.W.Frag} {mg : Str → Option Value} {base : Heap} {CC : Addr}
theorem sc_BadRow_init : FnScope ["self", "index"] ["self", "index"] (defScope s_BadRow_init) := ⟨rfl, rfl, rfl, by decide +kernel, rfl, by decide +kernel, by decide +kernel⟩
theorem ok_BadRow_init {f : Addr} {fd : FuncData} (F : Fun K "__init__" "BadRow.__init__" s_BadRow_init f fd) (O : OexC K CC) (nb : PySem.W.findIn K (.ref CC) "index" = some none) : FnOk P w K mg base CX0 2 f fd ["self", "index"] (spErr1 CC "index") := by
  refine F.ok sc_BadRow_init (fun vs H Q E h => ?_) (fun cdv A outer s H vs Q E hr h => ?_)
  · obtain ⟨a, x, rfl, _⟩ := h
    rfl
  · obtain ⟨a, x, rfl, ha, hq⟩ := h
    refine ⟨_, pss_one (ps_ost (pv 0) (pv 1)), ?_⟩
    exact ⟨_, rfl, _, rfl, a, CC, rfl, O, nb, .inl ⟨ha, fun d hd ne => hq d hd ne⟩⟩
end
end Ts

set_option maxRecDepth 100000
set_option maxHeartbeats 8000000
namespace Ts
open PySem L2
theorem defAt {K : PySem.W.Frag} {h : Heap} {mg : Str → Option Value} (X : K.In h) (G : h.Ns mainGlobals mg) {x : Str} {st : Stmt} {ps : List Str} {f : Addr} {oc : Value} {od an : Option Addr} {sl : Array (Option Value)} {kV dc pm cd ct : Value}
    (a : PySem.W.nsIn K mainGlobals x = some (some (.ref f))) (l : K.lookup f = some ⟨oc, od, .func (PySem.W.fnOf x x (defArgs st) (defBody st) (defScope st) .none kV dc pm an cd ct), sl⟩) (c : PySem.W.codeIn K cd x = true) (k : PySem.W.keepIn K (.ref f) = true)
    (hb : ∀ (kV doc pm : Value) (an : Option Addr) (cdv ct : Value) (us : List Value), us.length = ps.length → bindArgs (PySem.W.fnOf x x (defArgs st) (defBody st) (defScope st) .none kV doc pm an cdv ct) ⟨us, []⟩ = pure (ps.zip us)) :
    ∃ D : DefAt K mg x st ps, ∀ (s : Shared) (us : List Value), us.length = ps.length → BindsTo s D.fd ⟨us, []⟩ (ps.zip us) :=
  ⟨⟨f, _, fun_mk l c k, (fun_mk l c k).binds hb, PySem.W.mg_of X G a⟩, fun _ us hu => .of_eq (hb _ _ _ _ _ _ us hu)⟩
theorem methAt {K : PySem.W.Frag} {C : Addr} {x q : Str} {st : Stmt} {ps : List Str} {f : Addr} {oc : Value} {od an : Option Addr} {sl : Array (Option Value)} {kV dc pm cd ct : Value}
    (a : PySem.W.findIn K (.ref C) x = some (some (.ref f))) (i : PySem.W.isFn K (.ref f) = true) (l : K.lookup f = some ⟨oc, od, .func (PySem.W.fnOf x q (defArgs st) (defBody st) (defScope st) .none kV dc pm an cd ct), sl⟩) (c : PySem.W.codeIn K cd q = true) (k : PySem.W.keepIn K (.ref f) = true)
    (hb : ∀ (kV doc pm : Value) (an : Option Addr) (cdv ct : Value) (us : List Value), us.length = ps.length → bindArgs (PySem.W.fnOf x q (defArgs st) (defBody st) (defScope st) .none kV doc pm an cdv ct) ⟨us, []⟩ = pure (ps.zip us)) :
    Nonempty (MethAt K C x q st ps) :=
  ⟨⟨f, _, fun_mk l c k, (fun_mk l c k).binds hb, ⟨a, i, k⟩⟩⟩
theorem kit_no {K : PySem.W.Frag} {C : Addr} {T : String} (iC : PySem.W.isClsIn K C = true) (tC : PySem.W.typeIn K (.ref C) = some (.type "type")) (sb : PySem.W.subIn K (.type T) (.ref C) = some false) : PySem.W.kitOne K (.type T) (.ref C) = some false := by
  unfold PySem.W.kitOne
  rw [if_neg (by simp)]
  have e : ((PySem.W.clsIn K C).isSome && PySem.W.typeIn K (.ref C) == some (.type "type")) = true := by
    rw [show (PySem.W.clsIn K C).isSome = true from iC, tC]
    simp
  show (if ((PySem.W.clsIn K C).isSome && PySem.W.typeIn K (.ref C) == some (.type "type")) = true then PySem.W.subIn K (.type T) (.ref C) else none) = some false
  rw [if_pos e]
  exact sb
theorem kit_noR {K : PySem.W.Frag} {C D : Addr} (ne : ¬ D = C) (iC : PySem.W.isClsIn K C = true) (tC : PySem.W.typeIn K (.ref C) = some (.type "type")) (sb : PySem.W.subIn K (.ref D) (.ref C) = some false) : PySem.W.kitOne K (.ref D) (.ref C) = some false := by
  unfold PySem.W.kitOne
  rw [if_neg (by simpa using ne)]
  have e : ((PySem.W.clsIn K C).isSome && PySem.W.typeIn K (.ref C) == some (.type "type")) = true := by
    rw [show (PySem.W.clsIn K C).isSome = true from iC, tC]
    simp
  show (if ((PySem.W.clsIn K C).isSome && PySem.W.typeIn K (.ref C) == some (.type "type")) = true then PySem.W.subIn K (.ref D) (.ref C) else none) = some false
  rw [if_pos e]
  exact sb
theorem kit_me {K : PySem.W.Frag} {C : Addr} : PySem.W.kitOne K (.ref C) (.ref C) = some true := by
  unfold PySem.W.kitOne
  rw [if_pos (by simp)]
theorem treeAll {K : PySem.W.Frag} {h : Heap} {mg : Str → Option Value} (X : K.In h) (G : h.Ns mainGlobals mg) {C : Addr} {f0 : Addr} {oc0 kV0 dc0 pm0 cd0 ct0 : Value} {od0 an0 : Option Addr} {sl0 : Array (Option Value)} {f1 : Addr} {oc1 kV1 dc1 pm1 cd1 ct1 : Value} {od1 an1 : Option Addr} {sl1 : Array (Option Value)} {f2 : Addr} {oc2 kV2 dc2 pm2 cd2 ct2 : Value} {od2 an2 : Option Addr} {sl2 : Array (Option Value)} {f3 : Addr} {oc3 kV3 dc3 pm3 cd3 ct3 : Value} {od3 an3 : Option Addr} {sl3 : Array (Option Value)} {f4 : Addr} {oc4 kV4 dc4 pm4 cd4 ct4 : Value} {od4 an4 : Option Addr} {sl4 : Array (Option Value)}
    (aC : PySem.W.nsIn K mainGlobals "Tree" = some (some (.ref C)))
    (pg : PySem.W.plainGet K C Str.empty = true)
    (hd : PySem.W.hasDictIn K C = true)
    (po : PySem.W.plainOver K C = true)
    (sa : PySem.W.findIn K (.ref C) "__setattr__" = some (some (.builtin "object.__setattr__")))
    (mk : PySem.W.makesIn K C = true)
    (kc : PySem.W.keepIn K (.ref C) = true)
    (nq : PySem.W.findIn K (.ref C) "quads" = some none)
    (nf : PySem.W.findIn K (.ref C) "folders" = some none)
    (nk : PySem.W.findIn K (.ref C) "kinds" = some none)
    (np : PySem.W.findIn K (.ref C) "prices" = some none)
    (ne : PySem.W.findIn K (.ref C) "__ne__" = some (some (.builtin "object.__ne__")))
    (ob : PySem.W.subIn K (.ref C) (.type "object") = some true)
    (iC : PySem.W.isClsIn K C = true)
    (tC : PySem.W.typeIn K (.ref C) = some (.type "type"))
    (ha : PySem.W.findIn K (.ref C) "__class__" = some (some (.builtin "object.__class__")))
    (hn : PySem.W.specialIn K (.builtin "object.__class__") "__get__" = some (some (.builtin "getset_descriptor.__get__")))
    (htk : PySem.W.takesIn K (.builtin "object.__class__") = some true)
    (hm : PySem.W.mroIn K C (.type "object") = some true)
    (a0 : PySem.W.findIn K (.ref C) "__init__" = some (some (.ref f0))) (i0 : PySem.W.isFn K (.ref f0) = true) (l0 : K.lookup f0 = some ⟨oc0, od0, .func (PySem.W.fnOf "__init__" "Tree.__init__" (defArgs s_Tree_init) (defBody s_Tree_init) (defScope s_Tree_init) .none kV0 dc0 pm0 an0 cd0 ct0), sl0⟩) (c0 : PySem.W.codeIn K cd0 "Tree.__init__" = true) (k0 : PySem.W.keepIn K (.ref f0) = true)
    (a1 : PySem.W.findIn K (.ref C) "__contains__" = some (some (.ref f1))) (i1 : PySem.W.isFn K (.ref f1) = true) (l1 : K.lookup f1 = some ⟨oc1, od1, .func (PySem.W.fnOf "__contains__" "Tree.__contains__" (defArgs s_Tree_contains) (defBody s_Tree_contains) (defScope s_Tree_contains) .none kV1 dc1 pm1 an1 cd1 ct1), sl1⟩) (c1 : PySem.W.codeIn K cd1 "Tree.__contains__" = true) (k1 : PySem.W.keepIn K (.ref f1) = true)
    (a2 : PySem.W.findIn K (.ref C) "rows" = some (some (.ref f2))) (i2 : PySem.W.isFn K (.ref f2) = true) (l2 : K.lookup f2 = some ⟨oc2, od2, .func (PySem.W.fnOf "rows" "Tree.rows" (defArgs s_Tree_rows) (defBody s_Tree_rows) (defScope s_Tree_rows) .none kV2 dc2 pm2 an2 cd2 ct2), sl2⟩) (c2 : PySem.W.codeIn K cd2 "Tree.rows" = true) (k2 : PySem.W.keepIn K (.ref f2) = true)
    (a3 : PySem.W.findIn K (.ref C) "more" = some (some (.ref f3))) (i3 : PySem.W.isFn K (.ref f3) = true) (l3 : K.lookup f3 = some ⟨oc3, od3, .func (PySem.W.fnOf "more" "Tree.more" (defArgs s_Tree_more) (defBody s_Tree_more) (defScope s_Tree_more) .none kV3 dc3 pm3 an3 cd3 ct3), sl3⟩) (c3 : PySem.W.codeIn K cd3 "Tree.more" = true) (k3 : PySem.W.keepIn K (.ref f3) = true)
    (a4 : PySem.W.findIn K (.ref C) "opened" = some (some (.ref f4))) (i4 : PySem.W.isFn K (.ref f4) = true) (l4 : K.lookup f4 = some ⟨oc4, od4, .func (PySem.W.fnOf "opened" "Tree.opened" (defArgs s_Tree_opened) (defBody s_Tree_opened) (defScope s_Tree_opened) .none kV4 dc4 pm4 an4 cd4 ct4), sl4⟩) (c4 : PySem.W.codeIn K cd4 "Tree.opened" = true) (k4 : PySem.W.keepIn K (.ref f4) = true) :
    ∃ C : Addr, TxT K mg C ∧ C8.InsC K C ∧ (∃ (f : Addr) (fd : FuncData), Fun K "__init__" "Tree.__init__" s_Tree_init f fd ∧ Mk K C f ∧ Binds K fd ["self", "rows"] []) ∧ Nonempty (MethAt K C "__contains__" "Tree.__contains__" s_Tree_contains ["self", "x"]) ∧ Nonempty (MethAt K C "rows" "Tree.rows" s_Tree_rows ["self"]) ∧ Nonempty (MethAt K C "more" "Tree.more" s_Tree_more ["self", "row"]) ∧ Nonempty (MethAt K C "opened" "Tree.opened" s_Tree_opened ["self", "box", "rows"]) :=
  ⟨C, ⟨⟨pg, hd, po, sa⟩, nq, nf, nk, np, PySem.W.mg_of X G aC⟩, ⟨⟨pg, hd, po, sa⟩, ha, hn, htk, hm, kit_me⟩, ⟨f0, _, fun_mk l0 c0 k0, ⟨mk, a0, i0, kc⟩, (fun_mk l0 c0 k0).binds (fun _ _ _ _ _ _ us hl => match us, hl with | [_, _], _ => rfl)⟩, methAt a1 i1 l1 c1 k1 (fun _ _ _ _ _ _ us hl => match us, hl with | [_, _], _ => rfl), methAt a2 i2 l2 c2 k2 (fun _ _ _ _ _ _ us hl => match us, hl with | [_], _ => rfl), methAt a3 i3 l3 c3 k3 (fun _ _ _ _ _ _ us hl => match us, hl with | [_, _], _ => rfl), methAt a4 i4 l4 c4 k4 (fun _ _ _ _ _ _ us hl => match us, hl with | [_, _, _], _ => rfl)⟩
theorem freeAll {K : PySem.W.Frag} {h : Heap} {mg : Str → Option Value} (X : K.In h) (G : h.Ns mainGlobals mg)
    (z0 : PySem.W.nsIn K mainGlobals "len" = some none) (z1 : PySem.W.nsIn K mainGlobals "abs" = some none) (z2 : PySem.W.nsIn K mainGlobals "int" = some none) (z3 : PySem.W.nsIn K mainGlobals "str" = some none) (z4 : PySem.W.nsIn K mainGlobals "bool" = some none) (z5 : PySem.W.nsIn K mainGlobals "list" = some none) (z6 : PySem.W.nsIn K mainGlobals "tuple" = some none) (z7 : PySem.W.nsIn K mainGlobals "dict" = some none) (z8 : PySem.W.nsIn K mainGlobals "range" = some none) (z9 : PySem.W.nsIn K mainGlobals "enumerate" = some none) (z10 : PySem.W.nsIn K mainGlobals "isinstance" = some none) (z11 : PySem.W.nsIn K mainGlobals "all" = some none) : TxB mg :=
  ⟨PySem.W.mg_none_of X G z0, PySem.W.mg_none_of X G z1, PySem.W.mg_none_of X G z2, PySem.W.mg_none_of X G z3, PySem.W.mg_none_of X G z4, PySem.W.mg_none_of X G z5, PySem.W.mg_none_of X G z6, PySem.W.mg_none_of X G z7, PySem.W.mg_none_of X G z8, PySem.W.mg_none_of X G z9, PySem.W.mg_none_of X G z10, PySem.W.mg_none_of X G z11⟩
theorem constAll {K : PySem.W.Frag} {h : Heap} {mg : Str → Option Value} (X : K.In h) (G : h.Ns mainGlobals mg) (num : DefAt K mg "is_number" s_is_number ["thing", "least"]) {t1 t2 t3 : Tok} {kt : Addr} {od : Option Addr} {its : Array Value} {n : Nat} {sl : Array (Option Value)}
    (b1 : PySem.W.nsIn K mainGlobals "TOP" = some (some (.str "top" t1))) (b2 : PySem.W.nsIn K mainGlobals "FOLDER" = some (some (.str "folder" t2))) (b3 : PySem.W.nsIn K mainGlobals "LONGEST_NAME" = some (some (.int 8 t3))) (b4 : PySem.W.nsIn K mainGlobals "KINDS" = some (some (.ref kt)))
    (b5 : K.lookup kt = some ⟨.type "tuple", od, .seq its n, sl⟩) (b6 : its.size ≤ sizeLine) (b7 : Vals (kinds3.map V.str) its.toList) : Nonempty (TxC K mg) :=
  ⟨⟨⟨t1, PySem.W.mg_of X G b1⟩, ⟨t2, PySem.W.mg_of X G b2⟩, ⟨t3, PySem.W.mg_of X G b3⟩, kt, PySem.W.mg_of X G b4, num, ⟨_, its, n, b5, rfl, rfl, b6, b7⟩⟩⟩
theorem constS {K : PySem.W.Frag} {h : Heap} {mg : Str → Option Value} (X : K.In h) (G : h.Ns mainGlobals mg) {t1 : Tok} (f0 : PySem.W.nsIn K mainGlobals "SHUT" = some (some (.str "shut" t1))) : ∃ t, mg "SHUT" = some (.str "shut" t) := ⟨t1, PySem.W.mg_of X G f0⟩
theorem defAtC {K : PySem.W.Frag} {h : Heap} {mg : Str → Option Value} (X : K.In h) (G : h.Ns mainGlobals mg) {x : Str} {st : Stmt} {ps : List Str} {f c : Addr} {oc : Value} {od an : Option Addr} {sl : Array (Option Value)} {kV dc pm ct : Value}
    (a : PySem.W.nsIn K mainGlobals x = some (some (.ref f))) (l : K.lookup f = some ⟨oc, od, .func (PySem.W.fnOf x x (defArgs st) (defBody st) (defScope st) .none kV dc pm an (.ref c) ct), sl⟩) (c0 : PySem.W.codeIn K (.ref c) x = true) (k : PySem.W.keepIn K (.ref f) = true)
    (hb : ∀ (kV doc pm : Value) (an : Option Addr) (cdv ct : Value) (us : List Value), us.length = ps.length → bindArgs (PySem.W.fnOf x x (defArgs st) (defBody st) (defScope st) .none kV doc pm an cdv ct) ⟨us, []⟩ = pure (ps.zip us)) :
    ∃ D : DefC K mg x st ps, D.c = c ∧ ∀ (s : Shared) (us : List Value), us.length = ps.length → BindsTo s D.fd ⟨us, []⟩ (ps.zip us) :=
  ⟨⟨f, _, c, ⟨⟨_, _, _, _, _, _, _, _, rfl, l, c0⟩, k⟩, (fun_mk l c0 k).binds hb, PySem.W.mg_of X G a⟩, rfl, fun _ us hu => .of_eq (hb _ _ _ _ _ _ us hu)⟩
theorem codeHdC {K : PySem.W.Frag} {h : Heap} {c P : Addr} {od : Option Addr} {vs : Array Value} {sl : Array (Option Value)} (X : K.In h) (l : K.lookup c = some ⟨.type "code", od, .fields vs, sl⟩) (e : (match (vs[11]? : Option Value) with | some (.ref P') => P' == P | _ => false) = true) (e2 : ((match vs.getD 18 .none with | .str _ _ => true | _ => false) && (match vs.getD 7 .none with | .int _ _ => true | _ => false) &&
      (match vs.getD 9 .none with | .bool _ => true | _ => false) && (match vs.getD 10 .none with | .int _ _ => true | _ => false) && (c != P)) = true) : PySem.W.CodeHd h c P :=
  PySem.W.codeHd_of_K X (by
    unfold PySem.W.codeHdIn
    rw [l]
    simp only [Bool.and_eq_true] at e2 ⊢
    exact ⟨⟨⟨⟨⟨e, e2.1.1.1.1⟩, e2.1.1.1.2⟩, e2.1.1.2⟩, e2.1.2⟩, e2.2⟩)
theorem lamAll {K : PySem.W.Frag} {h : Heap} {mg : Str → Option Value} (X : K.In h) (G : h.Ns mainGlobals mg) {f0 c0 P0 : Addr} {oc0 kV0 dc0 pm0 ct0 : Value} {od0 an0 oe0 : Option Addr} {sl0 sm0 : Array (Option Value)} {vs0 : Array Value}
    (a0 : PySem.W.nsIn K mainGlobals "law" = some (some (.ref f0))) (l0 : K.lookup f0 = some ⟨oc0, od0, .func (PySem.W.fnOf "law" "law" (defArgs s_law) (defBody s_law) (defScope s_law) .none kV0 dc0 pm0 an0 (.ref c0) ct0), sl0⟩) (d0 : PySem.W.codeIn K (.ref c0) "law" = true) (k0 : PySem.W.keepIn K (.ref f0) = true) (m0 : K.lookup c0 = some ⟨.type "code", oe0, .fields vs0, sm0⟩) (p0 : (vs0[11]? : Option Value) = some (.ref P0)) (q0 : ((match vs0.getD 18 .none with | .str _ _ => true | _ => false) && (match vs0.getD 7 .none with | .int _ _ => true | _ => false) && (match vs0.getD 9 .none with | .bool _ => true | _ => false) && (match vs0.getD 10 .none with | .int _ _ => true | _ => false) && (c0 != P0)) = true) (n0 : K.lookup P0 = none) (t0 : h.get? P0 = some { cls := .none, data := .fields #[] }) :
    ∃ (P0 : Addr) (D0 : DefC K mg "law" s_law ["_law_script"]), (PySem.W.CodeHd h D0.c P0 ∧ K.lookup P0 = none ∧ h.get? P0 = some { cls := .none, data := .fields #[] } ∧ ∀ (s : Shared) (us : List Value), us.length = (["_law_script"] : List Str).length → BindsTo s D0.fd ⟨us, []⟩ ((["_law_script"] : List Str).zip us)) := by
  obtain ⟨D0, rfl, hB0⟩ := defAtC (ps := ["_law_script"]) X G a0 l0 d0 k0 (fun _ _ _ _ _ _ us hl => match us, hl with | [_], _ => rfl)
  exact ⟨P0, D0, ⟨codeHdC X m0 (by rw [p0]; simp) q0, n0, t0, hB0⟩⟩
theorem lawAt {l : PySem.W.OpenLaw} {w : World} {K : PySem.W.Frag} {mg : Str → Option Value} {fa : Addr} {fd : FuncData} {h : Heap} {c0 P0 : Addr} (G0 : h.get? P0 = some { cls := .none, data := .fields #[] }) (N0 : K.lookup P0 = none) (C0 : PySem.W.CodeHd h c0 P0) (hb : ∀ (s : Shared) (u : Value), BindsTo s fd ⟨[u], []⟩ [("_law_script", u)])
    (hF : ∀ base : Heap, LamX.TabB base mg c0 P0 → FnOk l.prog w K mg base CX0 10 fa fd ["_law_script"] (spLawT K [(P0, ("law.<locals>.<lambda>" : Str))])) : LamX.LawAtS l w K CX0 10 63 "_law_script" mg fa h := by
  refine ⟨fd, [(c0, P0)], spLawT K [(P0, ("law.<locals>.<lambda>" : Str))], fun p hp => ?_, fun p hp => ?_, fun p hp => ?_, hb, fun H a ns hl _ hH hS => ⟨a, ns, rfl, hS, hl, fun p hp => ?_, fun _ => rfl⟩, fun base _ _ hTB => hF base (hTB _ (.head _))⟩
  · rcases List.mem_singleton.mp hp with rfl
    exact G0
  · rcases List.mem_singleton.mp hp with rfl
    exact N0
  · rcases List.mem_singleton.mp hp with rfl
    exact C0
  · rcases List.mem_singleton.mp hp with rfl
    exact LamX.TabS.nil (hH _ (.head _))
theorem uniq0 {P0 : Addr}  : ∀ p ∈ ([(P0, ("law.<locals>.<lambda>" : Str))] : List (Addr × Str)), p.1 = P0 → p.2 = ("law.<locals>.<lambda>" : Str) := fun p hp e => by
  rcases List.mem_singleton.mp hp with rfl
  exact rfl
theorem walkT {l : PySem.W.OpenLaw} {q : Program} {loose : List Str} {XP : (Str → Option Value) → Heap → Prop} {YP : World → Heap → Prop} {d : DefRec} {K : Params → PySem.W.Frag} (hn : l.most = some 63) (hdf : d.params.defaults = [])
    (hY : ∀ (w : World) (h : Heap), YP w h → (K w.params).In h)
    (F : ∀ (w : World) (mg : Str → Option Value) (fa : Addr) (h : Heap), YP w h → (K w.params).In h → h.Ns mainGlobals mg → mg d.name = some (.ref fa) → LamX.LawAtS l w (K w.params) CX0 10 63 "_law_script" mg fa h) :
    PySem.W.WalkO q loose XP YP l.row.toRowW d [] (fun f vs => PySem.call f vs) :=
  LamX.walk_ofTs (n := 63) (k := 10) (x := "_law_script") (CX := fun _ => CX0) hn (by decide) hdf ⟨rfl, by decide, by decide⟩ hY F (fun _ _ _ _ _ z => z)
end Ts

set_option maxRecDepth 100000
open PySem PySem.W PyProof.Rows in
set_option maxRecDepth 100000 in
set_option maxHeartbeats 0 in
theorem PySem.Challenge.cw_turnsets_k02_trees_refused_holds : PySem.Challenge.rw_turnsets_k02_trees_refused.Holds := by
  w_on; o_law; k_head; (case hw => w_witness2)
  k_fill
  refine Ts.walkT (l := PySem.Challenge.rw_turnsets_k02_trees_refused) rfl rfl (fun w h Y => PySem.W.km_in_of Y) ?F
  case F =>
    intro w mg fa h Y KX G hmg
    obtain ⟨Disname, _⟩ : ∃ D : Ts.DefAt _ mg "is_name" Ts.s_is_name ["thing"], ∀ (s : Shared) (us : List Value), us.length = (["thing"] : List Str).length → BindsTo s D.fd ⟨us, []⟩ ((["thing"] : List Str).zip us) := by
      refine' Ts.defAt KX G ?a ?l ?c ?k ?b
      (case a => k_is)
      (case l => k_is)
      (case c => k_is)
      (case k => k_is)
      (case b => exact fun _ _ _ _ _ _ us hl => match us, hl with | [_], _ => rfl)
    obtain ⟨Disnumber, _⟩ : ∃ D : Ts.DefAt _ mg "is_number" Ts.s_is_number ["thing", "least"], ∀ (s : Shared) (us : List Value), us.length = (["thing", "least"] : List Str).length → BindsTo s D.fd ⟨us, []⟩ ((["thing", "least"] : List Str).zip us) := by
      refine' Ts.defAt KX G ?a ?l ?c ?k ?b
      (case a => k_is)
      (case l => k_is)
      (case c => k_is)
      (case k => k_is)
      (case b => exact fun _ _ _ _ _ _ us hl => match us, hl with | [_, _], _ => rfl)
    obtain ⟨Disprice, _⟩ : ∃ D : Ts.DefAt _ mg "is_price" Ts.s_is_price ["thing"], ∀ (s : Shared) (us : List Value), us.length = (["thing"] : List Str).length → BindsTo s D.fd ⟨us, []⟩ ((["thing"] : List Str).zip us) := by
      refine' Ts.defAt KX G ?a ?l ?c ?k ?b
      (case a => k_is)
      (case l => k_is)
      (case c => k_is)
      (case k => k_is)
      (case b => exact fun _ _ _ _ _ _ us hl => match us, hl with | [_], _ => rfl)
    obtain ⟨Disrow, _⟩ : ∃ D : Ts.DefAt _ mg "is_row" Ts.s_is_row ["thing", "taken", "homes"], ∀ (s : Shared) (us : List Value), us.length = (["thing", "taken", "homes"] : List Str).length → BindsTo s D.fd ⟨us, []⟩ ((["thing", "taken", "homes"] : List Str).zip us) := by
      refine' Ts.defAt KX G ?a ?l ?c ?k ?b
      (case a => k_is)
      (case l => k_is)
      (case c => k_is)
      (case k => k_is)
      (case b => exact fun _ _ _ _ _ _ us hl => match us, hl with | [_, _, _], _ => rfl)
    obtain ⟨Dcheckrows, _⟩ : ∃ D : Ts.DefAt _ mg "check_rows" Ts.s_check_rows ["rows", "names", "folders"], ∀ (s : Shared) (us : List Value), us.length = (["rows", "names", "folders"] : List Str).length → BindsTo s D.fd ⟨us, []⟩ ((["rows", "names", "folders"] : List Str).zip us) := by
      refine' Ts.defAt KX G ?a ?l ?c ?k ?b
      (case a => k_is)
      (case l => k_is)
      (case c => k_is)
      (case k => k_is)
      (case b => exact fun _ _ _ _ _ _ us hl => match us, hl with | [_, _, _], _ => rfl)
    obtain ⟨Dcheckbox, _⟩ : ∃ D : Ts.DefAt _ mg "check_box" Ts.s_check_box ["tree", "thing"], ∀ (s : Shared) (us : List Value), us.length = (["tree", "thing"] : List Str).length → BindsTo s D.fd ⟨us, []⟩ ((["tree", "thing"] : List Str).zip us) := by
      refine' Ts.defAt KX G ?a ?l ?c ?k ?b
      (case a => k_is)
      (case l => k_is)
      (case c => k_is)
      (case k => k_is)
      (case b => exact fun _ _ _ _ _ _ us hl => match us, hl with | [_, _], _ => rfl)
    obtain ⟨DLstream, _⟩ : ∃ D : Ts.DefAt _ mg "_law_stream" Ts.s_L_stream ["_law_script", "_law_k"], ∀ (s : Shared) (us : List Value), us.length = (["_law_script", "_law_k"] : List Str).length → BindsTo s D.fd ⟨us, []⟩ ((["_law_script", "_law_k"] : List Str).zip us) := by
      refine' Ts.defAt KX G ?a ?l ?c ?k ?b
      (case a => k_is)
      (case l => k_is)
      (case c => k_is)
      (case k => k_is)
      (case b => exact fun _ _ _ _ _ _ us hl => match us, hl with | [_, _], _ => rfl)
    obtain ⟨DLdraw, _⟩ : ∃ D : Ts.DefAt _ mg "_law_draw" Ts.s_L_draw ["_law_stream_here", "_law_many"], ∀ (s : Shared) (us : List Value), us.length = (["_law_stream_here", "_law_many"] : List Str).length → BindsTo s D.fd ⟨us, []⟩ ((["_law_stream_here", "_law_many"] : List Str).zip us) := by
      refine' Ts.defAt KX G ?a ?l ?c ?k ?b
      (case a => k_is)
      (case l => k_is)
      (case c => k_is)
      (case k => k_is)
      (case b => exact fun _ _ _ _ _ _ us hl => match us, hl with | [_, _], _ => rfl)
    obtain ⟨DLpick, _⟩ : ∃ D : Ts.DefAt _ mg "_law_pick" Ts.s_L_pick ["_law_stream_here", "_law_things"], ∀ (s : Shared) (us : List Value), us.length = (["_law_stream_here", "_law_things"] : List Str).length → BindsTo s D.fd ⟨us, []⟩ ((["_law_stream_here", "_law_things"] : List Str).zip us) := by
      refine' Ts.defAt KX G ?a ?l ?c ?k ?b
      (case a => k_is)
      (case l => k_is)
      (case c => k_is)
      (case k => k_is)
      (case b => exact fun _ _ _ _ _ _ us hl => match us, hl with | [_, _], _ => rfl)
    obtain ⟨DLname, _⟩ : ∃ D : Ts.DefAt _ mg "_law_name" Ts.s_L_name ["_law_stream_here"], ∀ (s : Shared) (us : List Value), us.length = (["_law_stream_here"] : List Str).length → BindsTo s D.fd ⟨us, []⟩ ((["_law_stream_here"] : List Str).zip us) := by
      refine' Ts.defAt KX G ?a ?l ?c ?k ?b
      (case a => k_is)
      (case l => k_is)
      (case c => k_is)
      (case k => k_is)
      (case b => exact fun _ _ _ _ _ _ us hl => match us, hl with | [_], _ => rfl)
    obtain ⟨DLkinds, _⟩ : ∃ D : Ts.DefAt _ mg "_law_kinds" Ts.s_L_kinds [], ∀ (s : Shared) (us : List Value), us.length = ([] : List Str).length → BindsTo s D.fd ⟨us, []⟩ (([] : List Str).zip us) := by
      refine' Ts.defAt KX G ?a ?l ?c ?k ?b
      (case a => k_is)
      (case l => k_is)
      (case c => k_is)
      (case k => k_is)
      (case b => exact fun _ _ _ _ _ _ us hl => match us, hl with | [], _ => rfl)
    obtain ⟨DLprices, _⟩ : ∃ D : Ts.DefAt _ mg "_law_prices" Ts.s_L_prices [], ∀ (s : Shared) (us : List Value), us.length = ([] : List Str).length → BindsTo s D.fd ⟨us, []⟩ (([] : List Str).zip us) := by
      refine' Ts.defAt KX G ?a ?l ?c ?k ?b
      (case a => k_is)
      (case l => k_is)
      (case c => k_is)
      (case k => k_is)
      (case b => exact fun _ _ _ _ _ _ us hl => match us, hl with | [], _ => rfl)
    obtain ⟨DLrows, _⟩ : ∃ D : Ts.DefAt _ mg "_law_rows" Ts.s_L_rows ["_law_stream_here", "_law_many", "_law_kinds_here", "_law_prices_here"], ∀ (s : Shared) (us : List Value), us.length = (["_law_stream_here", "_law_many", "_law_kinds_here", "_law_prices_here"] : List Str).length → BindsTo s D.fd ⟨us, []⟩ ((["_law_stream_here", "_law_many", "_law_kinds_here", "_law_prices_here"] : List Str).zip us) := by
      refine' Ts.defAt KX G ?a ?l ?c ?k ?b
      (case a => k_is)
      (case l => k_is)
      (case c => k_is)
      (case k => k_is)
      (case b => exact fun _ _ _ _ _ _ us hl => match us, hl with | [_, _, _, _], _ => rfl)
    obtain ⟨DLisname, _⟩ : ∃ D : Ts.DefAt _ mg "_law_is_name" Ts.s_L_is_name ["_law_thing"], ∀ (s : Shared) (us : List Value), us.length = (["_law_thing"] : List Str).length → BindsTo s D.fd ⟨us, []⟩ ((["_law_thing"] : List Str).zip us) := by
      refine' Ts.defAt KX G ?a ?l ?c ?k ?b
      (case a => k_is)
      (case l => k_is)
      (case c => k_is)
      (case k => k_is)
      (case b => exact fun _ _ _ _ _ _ us hl => match us, hl with | [_], _ => rfl)
    obtain ⟨DLfits, _⟩ : ∃ D : Ts.DefAt _ mg "_law_fits" Ts.s_L_fits ["_law_thing", "_law_folders", "_law_names"], ∀ (s : Shared) (us : List Value), us.length = (["_law_thing", "_law_folders", "_law_names"] : List Str).length → BindsTo s D.fd ⟨us, []⟩ ((["_law_thing", "_law_folders", "_law_names"] : List Str).zip us) := by
      refine' Ts.defAt KX G ?a ?l ?c ?k ?b
      (case a => k_is)
      (case l => k_is)
      (case c => k_is)
      (case k => k_is)
      (case b => exact fun _ _ _ _ _ _ us hl => match us, hl with | [_, _, _], _ => rfl)
    obtain ⟨DLdue, _⟩ : ∃ D : Ts.DefAt _ mg "_law_due" Ts.s_L_due ["_law_things", "_law_folders", "_law_names"], ∀ (s : Shared) (us : List Value), us.length = (["_law_things", "_law_folders", "_law_names"] : List Str).length → BindsTo s D.fd ⟨us, []⟩ ((["_law_things", "_law_folders", "_law_names"] : List Str).zip us) := by
      refine' Ts.defAt KX G ?a ?l ?c ?k ?b
      (case a => k_is)
      (case l => k_is)
      (case c => k_is)
      (case k => k_is)
      (case b => exact fun _ _ _ _ _ _ us hl => match us, hl with | [_, _, _], _ => rfl)
    obtain ⟨DLrefused, _⟩ : ∃ D : Ts.DefAt _ mg "_law_refused" Ts.s_L_refused ["_law_make"], ∀ (s : Shared) (us : List Value), us.length = (["_law_make"] : List Str).length → BindsTo s D.fd ⟨us, []⟩ ((["_law_make"] : List Str).zip us) := by
      refine' Ts.defAt KX G ?a ?l ?c ?k ?b
      (case a => k_is)
      (case l => k_is)
      (case c => k_is)
      (case k => k_is)
      (case b => exact fun _ _ _ _ _ _ us hl => match us, hl with | [_], _ => rfl)
    obtain ⟨DLspoilt, _⟩ : ∃ D : Ts.DefAt _ mg "_law_spoilt" Ts.s_L_spoilt ["_law_stream_here", "_law_rows_here"], ∀ (s : Shared) (us : List Value), us.length = (["_law_stream_here", "_law_rows_here"] : List Str).length → BindsTo s D.fd ⟨us, []⟩ ((["_law_stream_here", "_law_rows_here"] : List Str).zip us) := by
      refine' Ts.defAt KX G ?a ?l ?c ?k ?b
      (case a => k_is)
      (case l => k_is)
      (case c => k_is)
      (case k => k_is)
      (case b => exact fun _ _ _ _ _ _ us hl => match us, hl with | [_, _], _ => rfl)
    obtain B : Ts.TxB mg := by
      refine' Ts.freeAll KX G ?z0 ?z1 ?z2 ?z3 ?z4 ?z5 ?z6 ?z7 ?z8 ?z9 ?z10 ?z11
      (case z0 => k_is)
      (case z1 => k_is)
      (case z2 => k_is)
      (case z3 => k_is)
      (case z4 => k_is)
      (case z5 => k_is)
      (case z6 => k_is)
      (case z7 => k_is)
      (case z8 => k_is)
      (case z9 => k_is)
      (case z10 => k_is)
      (case z11 => k_is)
    obtain ⟨TC⟩ := by
      refine' Ts.constAll KX G Disnumber ?b1 ?b2 ?b3 ?b4 ?b5 ?b6 ?b7
      (case b1 => k_is)
      (case b2 => k_is)
      (case b3 => k_is)
      (case b4 => k_is)
      (case b5 => k_is)
      (case b6 => decide)
      (case b7 => exact .cons ⟨_, rfl⟩ (.cons ⟨_, rfl⟩ (.cons ⟨_, rfl⟩ .nil)))
    have hShut : ∃ t, mg "SHUT" = some (.str "shut" t) := by
      refine' Ts.constS KX G ?f0
      (case f0 => k_is)
    obtain ⟨E_BadRow, T_BadRow, f_BadRow, fd_BadRow, i_BadRow, t_BadRow, F_BadRow⟩ : ∃ E : Addr, Ts.ErrT _ mg E "BadRow" "index" ∧ ∃ (f : Addr) (fd : FuncData), PySem.W.findIn _ (.ref E) "__init__" = some (some (.ref f)) ∧ PySem.W.typeIn _ (.ref f) = some (.type "function") ∧ L2.Fun _ "__init__" "BadRow.__init__" Ts.s_BadRow_init f fd := by
      refine' ⟨_, Ts.errAll KX G ?EBadRowaC ?EBadRowxL ?EBadRowsa ?EBadRowga ?EBadRowgg ?EBadRownb ?EBadRowa1 ?EBadRowt1 ?EBadRowl1 ?EBadRowc1 ?EBadRowk1 ?EBadRowkC ?EBadRoweC ?EBadRowtC ?EBadRowhC ?EBadRowiC ?EBadRowsC⟩
      (case EBadRowaC => k_is)
      (case EBadRowxL => k_is)
      (case EBadRowsa => k_is)
      (case EBadRowga => k_is)
      (case EBadRowgg => k_is)
      (case EBadRownb => k_is)
      (case EBadRowa1 => k_is)
      (case EBadRowt1 => k_is)
      (case EBadRowl1 => k_is)
      (case EBadRowc1 => k_is)
      (case EBadRowk1 => k_is)
      (case EBadRowkC => k_is)
      (case EBadRoweC => k_is)
      (case EBadRowtC => k_is)
      (case EBadRowhC => k_is)
      (case EBadRowiC => k_is)
      (case EBadRowsC => first | rfl | k_is)
    have hT8 := PySem.W.km_tabs_of Y
    obtain ⟨P0, Dlaw, ⟨hC0, hN0, hG0, hB0⟩⟩ := by
      refine' Ts.lamAll KX G ?La0 ?Ll0 ?Ld0 ?Lk0 ?Lm0 ?Lp0 ?Lq0 ?Ln0 ?Lt0
      (case La0 => k_is)
      (case Ll0 => k_is)
      (case Ld0 => k_is)
      (case Lk0 => k_is)
      (case Lm0 => k_is)
      (case Lp0 => rfl)
      (case Lq0 => first | rfl | decide +kernel)
      (case Ln0 => first | kernel_rfl | rfl | decide +kernel)
      (case Lt0 => exact hT8 _ (by k_mem))
    obtain ⟨C, T, I, ⟨fI, fdI, FI, MT, bI⟩, ⟨M_contains⟩, ⟨M_rows⟩, ⟨M_more⟩, ⟨M_opened⟩⟩ := by
      refine' Ts.treeAll KX G ?aC ?pg ?hd ?po ?sa ?mk ?kc ?nq ?nf ?nk ?np ?ne ?ob ?iC ?tC ?ha ?hn ?htk ?hm ?a0 ?i0 ?l0 ?c0 ?k0 ?a1 ?i1 ?l1 ?c1 ?k1 ?a2 ?i2 ?l2 ?c2 ?k2 ?a3 ?i3 ?l3 ?c3 ?k3 ?a4 ?i4 ?l4 ?c4 ?k4
      (case aC => k_is)
      (case pg => k_is)
      (case hd => k_is)
      (case po => k_is)
      (case sa => k_is)
      (case mk => k_is)
      (case kc => k_is)
      (case nq => k_is)
      (case nf => k_is)
      (case nk => k_is)
      (case np => k_is)
      (case ne => k_is)
      (case ob => k_is)
      (case iC => k_is)
      (case tC => k_is)
      (case ha => k_is)
      (case hn => k_is)
      (case htk => k_is)
      (case hm => k_is)
      (case a0 => k_is)
      (case i0 => k_is)
      (case l0 => k_is)
      (case c0 => k_is)
      (case k0 => k_is)
      (case a1 => k_is)
      (case i1 => k_is)
      (case l1 => k_is)
      (case c1 => k_is)
      (case k1 => k_is)
      (case a2 => k_is)
      (case i2 => k_is)
      (case l2 => k_is)
      (case c2 => k_is)
      (case k2 => k_is)
      (case a3 => k_is)
      (case i3 => k_is)
      (case l3 => k_is)
      (case c3 => k_is)
      (case k3 => k_is)
      (case a4 => k_is)
      (case i4 => k_is)
      (case l4 => k_is)
      (case c4 => k_is)
      (case k4 => k_is)
    have e := hmg.symm.trans Dlaw.g
    cases e
    refine Ts.lawAt hG0 hN0 hC0 (fun s v => hB0 s [v] rfl) fun base TB0 => ?_
    have Gc := Ts.ok_check_rows (P := PySem.Challenge.rw_turnsets_k02_trees_refused.prog) (w := w) (base := base) Dcheckrows Disrow Disname Disprice B TC
    have GcD := Ts.ok_check_rowsD (P := PySem.Challenge.rw_turnsets_k02_trees_refused.prog) (w := w) (base := base) Dcheckrows Disrow Disname Disprice B TC
    have GT := Ts.ok_Tree_init FI Dcheckrows Gc B TC T
    have Gb := Ts.ok_check_box (P := PySem.Challenge.rw_turnsets_k02_trees_refused.prog) (w := w) (base := base) Dcheckbox M_contains B T
    have GR := Ts.ok_Tree_rows (P := PySem.Challenge.rw_turnsets_k02_trees_refused.prog) (w := w) (base := base) M_rows.F B T
    have GIR := Ts.ok_BadRow_init (P := PySem.Challenge.rw_turnsets_k02_trees_refused.prog) (w := w) (base := base) (mg := mg) F_BadRow T_BadRow.O T_BadRow.nb
    have bR := F_BadRow.binds (ps := ["self", "index"]) (fun _ _ _ _ _ _ us hl => match us, hl with | [_, _], _ => rfl)
    have Xc := Ts.ok_check_rowsG Dcheckrows Disrow Disname Disprice B TC T_BadRow i_BadRow t_BadRow GIR bR
    have XcD := Ts.ok_check_rowsGD Dcheckrows Disrow Disname Disprice B TC T_BadRow i_BadRow t_BadRow GIR bR
    have XT := Ts.ok_Tree_initG (C := C) FI Dcheckrows Xc TC
    have GMo := Ts.ok_Tree_more M_more.F M_rows B T MT bI GT
    have XMo := Ts.ok_moreG M_more.F M_rows B T MT bI XT
    have GO := Ts.ok_Tree_opened M_opened.F Dcheckbox Gb Dcheckrows GcD B TC hShut T MT bI GT
    have XO := Ts.ok_openedG M_opened.F Dcheckbox Gb Dcheckrows XcD hShut T
    have Gr := Ts.ok_rows (P := PySem.Challenge.rw_turnsets_k02_trees_refused.prog) (w := w) (base := base) DLrows DLname DLpick DLdraw B
    have Gp := Ts.ok_pick (P := PySem.Challenge.rw_turnsets_k02_trees_refused.prog) (w := w) (base := base) DLpick DLdraw B
    have Gfi := Ts.ok_LFi (P := PySem.Challenge.rw_turnsets_k02_trees_refused.prog) (w := w) (base := base) DLfits B DLisname
    have Gdu := Ts.ok_LDu DLdue B DLfits Gfi
    have Gsp := Ts.ok_Sp (P := PySem.Challenge.rw_turnsets_k02_trees_refused.prog) (w := w) (base := base) DLspoilt B DLdraw DLpick
    exact Ts.ok_law Dlaw B T DLrefused T_BadRow TB0 (.head _) Ts.uniq0 DLstream DLdraw DLpick Gp DLkinds DLprices DLrows Gr DLdue Gdu DLspoilt Gsp MT bI GT XT M_more GMo XMo M_opened GO XO M_rows GR
