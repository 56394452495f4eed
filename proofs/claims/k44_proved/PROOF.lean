import PyProof.Rows.All
import Wide.All
import OpenK.AllK
import Wide.FinOn
import HandS.ForMost
import HandS.IsInst
import HandS.Conv
import HandS.DictComp
import HandS.Deep
import HandS.NoneIn
import HandS.Style
import HandS.TupAny
import HandS.OwnEq
import HandS.More
import HandS.Flow
import HandS.Codes
import HandS.Walk
import HandS.StrMore
import KE.GoesMore
import KE.GoesEnum
import HandS.Defaults
import HandS.IterNext
import HandS.IterVal
import KE.KOwnIter
import HandS.ExcInit
import HandS.ExcField
import HandS.WordsExc
import KE.KOpsOwn
import HandS.SetKeys
import HandS.Dict
import HandS.DictTup
import KE.KDictCopyH
import KE.KDictKeyed
import HandS.Comp
import HandS.Iter
import HandS.Wide
import HandS.List
import HandS.SetFor
import HandS.DeepEq
import PyProof.EqKinds
import PyProof.NeKinds
import HandS.Lambda
import HandS.ExcOwn
import HandS.Small
import PyProof.ExcBaseAll.ValueError
import HandS.Exc
import HandS.TryMany
import PyProof.TupleOfSeq
import HandS.EndTab
import KE.KNestM
import PySem.Challenge.RW_turnsets_k44_known_wishes
set_option Elab.async false
set_option linter.all false

set_option maxRecDepth 100000
set_option maxHeartbeats 4000000
namespace Ts
open PySem L2
section
variable {X : Cx} {CX : CXT} {k : Nat} {f C : Addr} {fd : FuncData} {ps : List Str} {sp : Sp} {E : XK}
/-- a def of the text run below a builtin of this body -/
theorem run_at {A : Around} {pins : List (Addr × Obj)} {σ : St} {H : Hp} {s : Shared} {Q : VK} {us : List Value} {vs : List V} (F : FnOk X.prog X.w X.K X.mg X.base CX k f fd ps sp) (hr : Room k A) (hfr : A.frames = X.A.frames) (hb : Binds X.K fd ps []) (hx : Passes CX X E)
    (I : Inv X pins σ H s) (r : Vals vs us) (h : sp vs H Q E) : wpAny (model X.prog X.w) A (call (.ref f) us) (EP X pins σ Q) X.xe s := by
  have hl : us.length = ps.length := by rw [← r.length]; exact F.len _ _ _ _ h
  have e0 : Env0 X.prog X.w X.K X.mg X.base A X.stack s H := by
    have e := I.env0
    exact ⟨by rw [hfr]; exact e.frames, e.mod, e.bs, e.bsz, e.funs, e.frf, e.hok, e.bare⟩
  refine wpAny_call (codeAny_mono (F.run A X.stack s H ⟨us, []⟩ us vs Q E hr e0 (by
    have := hb s us I.kIn (by simpa using hl)
    simpa using this) r h) fun r s' hq => ?_)
  cases r with
  | error e => exact hx pins σ H s e s' I hq
  | ok fl =>
    cases fl with
    | ret u => exact I.after hq
    | next => exact False.elim hq
    | brk => exact False.elim hq
    | cont => exact False.elim hq
/-- x in o, o of an own class with its own look -/
def rInC (C : Addr) (sp : Sp) (E : XK) : R2 := fun x y H Q => ∃ a dx fs, y = .ref a ∧ H a = some (.ins C dx fs) ∧ sp [.ref a, x] H (fun v H' => ∃ b, v = .bl b ∧ Q (.bl b) H') E
def rNotInC (C : Addr) (sp : Sp) (E : XK) : R2 := fun x y H Q => ∃ a dx fs, y = .ref a ∧ H a = some (.ins C dx fs) ∧ sp [.ref a, x] H (fun v H' => ∃ b, v = .bl b ∧ Q (.bl (!b)) H') E
theorem op_inC (F : FnOk X.prog X.w X.K X.mg X.base CX k f fd ps sp) (m : Meth X.K C "__contains__" f) (hr : Room k X.A) (hb : Binds X.K fd ps []) (hx : Passes CX X E) : OpR X (compareOp .In) (rInC C sp E) := by
  intro pins s σ H x y v u Q I rx ry hq
  obtain ⟨a, dx, fs, rfl, ha, hsp⟩ := hq
  cases ry
  obtain ⟨mA, J, _⟩ := ins_get I.hok ha
  obtain ⟨od, J, _⟩ := J.look
  obtain ⟨mm, hF⟩ := I.fr
  refine PySem.W.in_K hF I.ok.mod.kin J m.at_ m.fn ?_
  refine wpAny_mono (run_at F hr rfl hb hx I (us := [.ref a, v]) (.cons (show RelV (.ref a) (.ref a) from rfl) (.cons rx .nil)) hsp) (fun r s' hq => ?_) fun _ _ x => x
  obtain ⟨z, H', I', rz, b, rfl, q⟩ := hq
  cases rz
  exact wpAny_truthy_bool ⟨.bl b, H', I', rfl, q⟩
theorem op_notinC (F : FnOk X.prog X.w X.K X.mg X.base CX k f fd ps sp) (m : Meth X.K C "__contains__" f) (hr : Room k X.A) (hb : Binds X.K fd ps []) (hx : Passes CX X E) : OpR X (compareOp .NotIn) (rNotInC C sp E) := by
  intro pins s σ H x y v u Q I rx ry hq
  obtain ⟨a, dx, fs, rfl, ha, hsp⟩ := hq
  cases ry
  obtain ⟨mA, J, _⟩ := ins_get I.hok ha
  obtain ⟨od, J, _⟩ := J.look
  obtain ⟨mm, hF⟩ := I.fr
  refine PySem.W.notIn_K hF I.ok.mod.kin J m.at_ m.fn ?_
  refine wpAny_mono (run_at F hr rfl hb hx I (us := [.ref a, v]) (.cons (show RelV (.ref a) (.ref a) from rfl) (.cons rx .nil)) hsp) (fun r s' hq => ?_) fun _ _ x => x
  obtain ⟨z, H', I', rz, b, rfl, q⟩ := hq
  cases rz
  exact wpAny_truthy_bool ⟨.bl (!b), H', I', rfl, q⟩
/-- len(o) -/
def rLenC (C : Addr) (sp : Sp) (E : XK) : List V → Hp → VK → Prop := fun xs H Q => ∃ a dx fs, xs = [.ref a] ∧ H a = some (.ins C dx fs) ∧ sp [.ref a] H (fun v H' => ∃ n : Int, v = .int n ∧ (0 ≤ n ∧ n < 2 ^ 63) ∧ Q (.int n) H') E
theorem call_lenC (F : FnOk X.prog X.w X.K X.mg X.base CX k f fd ps sp) (m : Meth X.K C "__len__" f) (hr : Room (k + 1) X.A) (hb : Binds X.K fd ps []) (hx : Passes CX X E) : CallR X (.builtin "len") (rLenC C sp E) := by
  intro pins s σ H xs us Q I r hq
  obtain ⟨a, dx, fs, rfl, ha, hsp⟩ := hq
  obtain ⟨u, rfl, ru⟩ := vals1 r
  cases ru
  obtain ⟨mA, J, _⟩ := ins_get I.hok ha
  obtain ⟨od, J, _⟩ := J.look
  obtain ⟨mm, hF⟩ := I.fr
  refine PySem.W.len_K hF I.ok.mod.kin J m.at_ m.fn ?_
  refine wpAny_mono (run_at F hr.in1 rfl hb hx I (us := [.ref a]) (.cons (show RelV (.ref a) (.ref a) from rfl) .nil) hsp) (fun r s' hq => ?_) fun _ _ x => x
  obtain ⟨z, H', I', rz, n, rfl, hn, q⟩ := hq
  obtain ⟨t, rfl⟩ := rz
  exact ⟨hn, .int n, H', I'.tok _, ⟨_, rfl⟩, q⟩
/-- the sort of a value, as == wants to know it -/
inductive TyE (H : Hp) : V → Value → Prop where
  | non : TyE H .non (.type "NoneType")
  | bl (x : Bool) : TyE H (.bl x) (.type "bool")
  | int (i : Int) : TyE H (.int i) (.type "int")
  | str (x : Str) : TyE H (.str x) (.type "str")
  | lst {a : Addr} {xs : List V} (e : H a = some (.lst xs)) : TyE H (.ref a) (.type "list")
  | tup {a : Addr} {xs : List V} (e : H a = some (.tup xs)) : TyE H (.ref a) (.type "tuple")
  | dK {a : Addr} {kvs : List (Key × V)} (e : H a = some (.dK kvs)) : TyE H (.ref a) (.type "dict")
  | ins {a C dx : Addr} {fs : List (Str × V)} (e : H a = some (.ins C dx fs)) : TyE H (.ref a) (.ref C)
theorem ty_looks {pins : List (Addr × Obj)} {σ : St} {H : Hp} {s : Shared} {y : V} {u tb : Value} (I : Inv X pins σ H s) (r : RelV y u) (ty : TyE H y tb) : PySem.W.Looks (model X.prog X.w) s.heap (typeOf u) tb := by
  have lk : ∀ {a : Addr} {o : Obj} {c : Value}, s.heap.get? a = some o → o.cls = c → PySem.W.Looks (model X.prog X.w) s.heap (typeOf (.ref a)) c := fun {a o c} e h => h ▸ (PySem.W.Looks.ld e).andThen .now
  cases ty with
  | non => cases (show u = Value.none from r); exact PySem.W.Looks.of_pure rfl
  | bl y => cases (show u = Value.bool y from r); exact PySem.W.Looks.of_pure rfl
  | int i => obtain ⟨t, q⟩ := (show ∃ t, u = Value.int i t from r); cases q; exact PySem.W.Looks.of_pure rfl
  | str y => obtain ⟨t, q⟩ := (show ∃ t, u = Value.str y t from r); cases q; exact PySem.W.Looks.of_pure rfl
  | @lst a xs ea =>
    cases (show u = Value.ref a from r)
    obtain ⟨_, _, n, _, h1⟩ := (show ObjOk X.prog X.w H s.heap a (.lst xs) from I.hok a _ ea)
    exact lk h1 rfl
  | @tup a xs ea =>
    cases (show u = Value.ref a from r)
    obtain ⟨_, _, _, o, h1, h2, _⟩ := (show ObjOk X.prog X.w H s.heap a (.tup xs) from I.hok a _ ea)
    exact lk h1 h2
  | @dK a kvs ea =>
    cases (show u = Value.ref a from r)
    obtain ⟨_, _, vs, _, o, es, ep, h1, h2, _⟩ := (show ObjOk X.prog X.w H s.heap a (.dK kvs) from I.hok a _ ea)
    exact lk h1 h2.1
  | @ins a C dx fs ea =>
    cases (show u = Value.ref a from r)
    obtain ⟨mA, J, _⟩ := ins_get I.hok ea
    obtain ⟨od, J, _⟩ := J.look
    exact J.type
/-- o == y -/
def rEqC (K : PySem.W.Frag) (C : Addr) (sp : Sp) (E : XK) : R2 := fun x y H Q => ∃ a dx fs tb, x = .ref a ∧ H a = some (.ins C dx fs) ∧ TyE H y tb ∧ PySem.W.notFirst K C tb = true ∧ sp [.ref a, y] H (fun v H' => ∃ b, v = .bl b ∧ Q (.bl b) H') E
def rNeC (K : PySem.W.Frag) (C : Addr) (sp : Sp) (E : XK) : R2 := fun x y H Q => ∃ a dx fs tb, x = .ref a ∧ H a = some (.ins C dx fs) ∧ TyE H y tb ∧ PySem.W.notFirst K C tb = true ∧ sp [.ref a, y] H (fun v H' => ∃ b, v = .bl b ∧ Q (.bl (!b)) H') E
theorem op_eqC (F : FnOk X.prog X.w X.K X.mg X.base CX k f fd ps sp) (m : Meth X.K C "__eq__" f) (hr : Room k X.A) (hb : Binds X.K fd ps []) (hx : Passes CX X E) : OpR X (compareOp .Eq) (rEqC X.K C sp E) := by
  intro pins s σ H x y v u Q I rx ry hq
  obtain ⟨a, dx, fs, tb, rfl, ha, ty, hn, hsp⟩ := hq
  cases rx
  obtain ⟨mA, J, _⟩ := ins_get I.hok ha
  obtain ⟨od, J, _⟩ := J.look
  obtain ⟨mm, hF⟩ := I.fr
  show wpAny (model X.prog X.w) X.A (richCompare .Eq _ u) (EP X pins σ Q) X.xe s
  refine PySem.W.cmp_K (op := .Eq) (tb := tb) hr.units0 hF I.ok.mod.kin J (ty_looks I ry ty) hn m.at_ m.fn ?_
  refine wpAny_mono (run_at F hr rfl hb hx I (us := [.ref a, u]) (.cons (show RelV (.ref a) (.ref a) from rfl) (.cons ry .nil)) hsp) (fun r s' hq => ?_) fun _ _ x => x
  obtain ⟨z, H', I', rz, b, rfl, q⟩ := hq
  cases rz
  exact ⟨.bl b, H', I', rfl, q⟩
section
open PySem.W
open PyProof.Rows (Fr)
variable {prog : Program} {w : World} {A : Around} {E : Value → Shared → Prop} {s : Shared} {K : Frag} {h₀ : Heap} {L : Addr} {m : Str → Option Value} {x f C : Addr} {ox : Obj} {od : Option Obj} {b tb : Value}
theorem ne_own_K {Q : Value → Shared → Prop} (hu : A.units + 1 < cLine) (F : Fr h₀ L s.heap m) (X₀ : K.In h₀) (I : InstAt s.heap x ox C od) (hb : Looks (model prog w) s.heap (typeOf b) tb) (hn : notFirst K C tb = true)
    (hne : findIn K (.ref C) "__ne__" = some (some (.builtin "object.__ne__"))) (hs : findIn K (.ref C) "__eq__" = some (some (.ref f))) (hf : isFn K (.ref f) = true) (ho : subIn K (.ref C) (.type "object") = some true)
    (h : wpAny (model prog w) A.in1 (call (.ref f) [.ref x, b]) (fun v s' => ∃ r, v = .bool r ∧ Q (.bool (!r)) s') E s) : wpAny (model prog w) A (richCompare .NotEq (.ref x) b) Q E s := by
  have X := X₀.keeps F.keep
  have body : wpAny (model prog w) A.in1 (Builtin.«object.__ne__» ⟨[.ref x, b], []⟩) (GQ.FinOf prog w A (wants (fun v s' => ∃ r, v = .bool r ∧ Q v s') E)) (fun e s' => wants (fun v s' => ∃ r, v = .bool r ∧ Q v s') E (.error e) s') s := by
    unfold Builtin.«object.__ne__»
    repeat (first
      | with_reducible refine wpAny_cRoomFor hu ?_
      | (refine wpAny_bind (m := callSpecialIfBound? (.ref x) (Str.ofString "__eq__") [b]) (ifBound_K X I hs hf (wpAny_mono h (fun r s' hr => by
          obtain ⟨r, rfl, hq⟩ := hr
          repeat (first | exact ⟨_, rfl, hq⟩ | exact wpAny_pure ⟨_, rfl, hq⟩ | (refine wpAny_bind (m := truthy (.bool _)) (wpAny_truthy_bool ?_)) | wp_step)) fun _ _ e => e)))
      | wp_step)
  have bind : bindSpecial (.builtin "object.__ne__") (.ref x) = pure (.builtin "object.__ne__", [.ref x]) := PySem.F.cmp_object.ne.bind (.ref x)
  have one : wpAny (model prog w) A (tryCompare (.ref x) "__ne__" b) (fun r s' => ∃ v, r = some v ∧ Q v s') E s := by
    unfold tryCompare
    refine wpAny_bind ?_
    simp only [callSpecialIfBound?, bindSpecialIfBound?]
    refine wpAny_holding (wpAny_bind (wpAny_bind (wpAny_bind (I.type.here ((looks_findIn X hne).here ?_)))))
    have fin : wpAny (model prog w) A (call (.builtin "object.__ne__") ([.ref x] ++ [b])) (fun v s' => ∃ r, v = .bool r ∧ Q v s') E s :=
      wpAny_call (codeAny_call_builtin PySem.F.cmp_object.ne.plain PySem.F.cmpEntry_ne (check_slot PySem.F.cmpKind_ne PySem.F.cmpSplit_ne (I.type.andThen (looks_subIn X ho)) (PySem.F.cmpArgs_ne _ _) body))
    simp only [bind]
    refine wpAny_bind (wpAny_askSetting (wpAny_ite ?_))
    split
    · refine wpAny_bind (wpAny_pure (wpAny_pure ?_))
      refine wpAny_bind (wpAny_mono fin (fun v s' z => ?_) fun _ _ e => e)
      obtain ⟨r, rfl, q⟩ := z
      refine wpAny_pure ?_
      exact wpAny_pure ⟨_, rfl, q⟩
    · refine wpAny_tryCatch (wpAny_bind (wpAny_pure (wpAny_pure ?_)))
      refine wpAny_bind (wpAny_mono fin (fun v s' z => ?_) fun _ _ e => e)
      obtain ⟨r, rfl, q⟩ := z
      refine wpAny_pure ?_
      exact wpAny_pure ⟨_, rfl, q⟩
  unfold richCompare
  simp only [oneThing_ref]
  refine wpAny_holding (wpAny_bind (wpAny_cRoomFor (Nat.lt_of_succ_lt hu) ?_))
  refine wpAny_bind (I.type.here (wpAny_bind (hb.here ?_)))
  split
  · rename_i q
    have e : subIn K tb (.ref C) = some false := by
      rcases Bool.or_eq_true_iff.mp hn with e | e
      · rw [beq_iff_eq.mp e] at q; simp at q
      · exact beq_iff_eq.mp e
    refine wpAny_bind ((looks_subIn X e).here ?_)
    simp only [Bool.false_eq_true, if_false]
    refine wpAny_bind (wpAny_mono one (fun r s' z => ?_) fun _ _ e => e)
    obtain ⟨v, rfl, hq⟩ := z
    exact wpAny_pure hq
  · refine wpAny_bind (wpAny_pure ?_)
    simp only [Bool.false_eq_true, if_false]
    refine wpAny_bind (wpAny_mono one (fun r s' z => ?_) fun _ _ e => e)
    obtain ⟨v, rfl, hq⟩ := z
    exact wpAny_pure hq
end
section
variable {X : Cx} {CX : CXT} {k : Nat} {f C : Addr} {fd : FuncData} {ps : List Str} {sp : Sp} {E : XK}
theorem op_neC (F : FnOk X.prog X.w X.K X.mg X.base CX k f fd ps sp) (m : Meth X.K C "__eq__" f) (hne : PySem.W.findIn X.K (.ref C) "__ne__" = some (some (.builtin "object.__ne__"))) (ho : PySem.W.subIn X.K (.ref C) (.type "object") = some true) (hr : Room (k + 1) X.A) (hb : Binds X.K fd ps []) (hx : Passes CX X E) : OpR X (compareOp .NotEq) (rNeC X.K C sp E) := by
  intro pins s σ H x y v u Q I rx ry hq
  obtain ⟨a, dx, fs, tb, rfl, ha, ty, hn, hsp⟩ := hq
  cases rx
  obtain ⟨mA, J, _⟩ := ins_get I.hok ha
  obtain ⟨od, J, _⟩ := J.look
  obtain ⟨mm, hF⟩ := I.fr
  show wpAny (model X.prog X.w) X.A (richCompare .NotEq _ u) (EP X pins σ Q) X.xe s
  refine ne_own_K (tb := tb) (by have := hr.un; omega) hF I.ok.mod.kin J (ty_looks I ry ty) hn hne m.at_ m.fn ho ?_
  refine wpAny_mono (run_at F hr.in1 rfl hb hx I (us := [.ref a, u]) (.cons (show RelV (.ref a) (.ref a) from rfl) (.cons ry .nil)) hsp) (fun r s' hq => ?_) fun _ _ x => x
  obtain ⟨z, H', I', rz, b, rfl, q⟩ := hq
  cases rz
  exact ⟨b, rfl, .bl (!b), H', I', rfl, q⟩
end
end
end Ts

set_option maxRecDepth 100000
set_option maxHeartbeats 4000000
namespace Ts
open PySem L2
/-! ### enumerate(tuple) -/
set_option maxHeartbeats 4000000 in
theorem meets_enum_T (t : Addr) (its : Array Value) :
    Meets (Builtin.«enumerate.__new__» ⟨[.type "enumerate", .ref t], []⟩) (fun _ R s => s.heap.IsTuple t its ∧
      R (.ok (.ret (.ref (s.heap.push { cls := .type "tuple_iterator", data := .fields #[.ref t, .int 0 0] }).objs.size)))
        { s with heap := (s.heap.push { cls := .type "tuple_iterator", data := .fields #[.ref t, .int 0 0] }).push { cls := .type "enumerate", data := .fields #[.none, .bool false, .ref s.heap.objs.size, rawInt 0, .none, .none] } }) :=
  .of_wp fun prog w A R s h => by
    obtain ⟨hp, g, d, tk, os⟩ := s
    obtain ⟨hT, h⟩ := h
    have hsub := sub_enumerate
    wp_walk
    refine wpAny_stack_any fun st => wpAny_pure ?_
    split
    · rename_i c _ _ _ _ _
      cases (c == Value.type "enumerate")
      · wp_walk using wpAny_pyIter_tuple hT
        exact ⟨_, rfl, h⟩
      · wp_walk using wpAny_pyIter_tuple hT
        exact ⟨_, rfl, h⟩
    · wp_walk using wpAny_pyIter_tuple hT
      exact ⟨_, rfl, h⟩

section
variable {prog : Program} {w : World} {A : Around} {E : Value → Shared → Prop} {s : Shared}
theorem call_enum_T {t : Addr} {its : Array Value} {Q : Value → Shared → Prop} (hT : s.heap.IsTuple t its)
    (k : ∀ g, IsEnum g (s.heap.objs.size + 1) s.heap.objs.size 0 .none → g.IsTupleIter s.heap.objs.size t 0 → (∀ b o, s.heap.get? b = some o → g.get? b = some o) → Q (.ref (s.heap.objs.size + 1)) { s with heap := g }) :
    wpAny (model prog w) A (call (.type "enumerate") [.ref t]) Q E s := by
  refine callType_new F.called_enumerate (by decide) (F.typeCall_enumerate_1 _) (F.newCall_enumerate_1 _) (fun o => F.args_object_init_2 o _) F.entry_enumerate_new (meets_enum_T t its) ⟨hT, ?_⟩
  have z : (s.heap.push { cls := .type "tuple_iterator", data := .fields #[.ref t, .int 0 0] }).objs.size = s.heap.objs.size + 1 := Heap.size_push ..
  show _ ∧ _
  rw [z]
  have en : IsEnum ((s.heap.push { cls := .type "tuple_iterator", data := .fields #[.ref t, .int 0 0] }).push { cls := .type "enumerate", data := .fields #[.none, .bool false, .ref s.heap.objs.size, rawInt 0, .none, .none] }) (s.heap.objs.size + 1) s.heap.objs.size 0 .none := by
    have q := Heap.get?_push_size (s.heap.push { cls := .type "tuple_iterator", data := .fields #[.ref t, .int 0 0] }) (o := { cls := .type "enumerate", data := .fields #[.none, .bool false, .ref s.heap.objs.size, rawInt 0, .none, .none] }) rfl
    rw [z] at q
    exact q
  exact ⟨⟨_, en, rfl⟩, k _ en ⟨_, Heap.get?_push_of_some _ (Heap.get?_push_size _ rfl), rfl, rfl⟩ fun b o y => Heap.get?_push_of_some _ (Heap.get?_push_of_some _ y)⟩
end
/-- the tuple at a as it stands at each turn, each item in a new pair -/
def IteT (K : PySem.W.Frag) (a : Addr) : It :=
  ⟨fun i H => ∃ (xs : List V) (x : V), SqT K H a xs ∧ xs[i]? = some x, fun i H v H' => ∃ T x, v = .ref T ∧ H T = none ∧ H' = upd H T (.tup [.int (i : Nat), x]) ∧ ∀ xs, SqT K H a xs → xs[i]? = some x, fun i H => ∃ xs : List V, SqT K H a xs ∧ xs.length = i⟩
theorem turn_enumT {P : Program} {w : World} {K : PySem.W.Frag} {elts : List Expr} {kk : Nat} {tpos : Pos} (a e it : Addr) :
    Turn P w K (.Tuple elts kk tpos) (IteT K a) [e, it] e (fun i h => (∃ old, IsEnum h e it ((i : Nat) : Int) old) ∧ h.IsTupleIter it a i ∧ e ≠ it ∧ a ≠ it ∧ e ≠ a) where
  mem := by simp
  obj := fun i h st b hb => by
    obtain ⟨⟨old, en⟩, ⟨o, ho, hc, hd⟩, _⟩ := st
    rcases (show b = e ∨ b = it by simpa using hb) with z | z
    · rw [z]; exact ⟨_, en, fun v q => nomatch q⟩
    · rw [z]; exact ⟨o, ho, fun v q => by rw [hd] at q; cases q⟩
  keep := fun i h h' st k => let ⟨⟨old, en⟩, hi, r⟩ := st; ⟨⟨old, k e (by simp) _ en⟩, hi.at fun o y => k it (by simp) o y, r⟩
  item := by
    intro X hP hw hK hc i pins s σ H E I hf st hg
    subst hP hw hK
    obtain ⟨⟨old, en⟩, hit, hne, hai, hea⟩ := st
    obtain ⟨xs, x, hq, hx⟩ := hg
    obtain ⟨its, rv, p, hz⟩ := I.tuple hq
    obtain ⟨u, hu, ru⟩ := rv.get hx
    have pT : s.heap.IsTuple a its.toArray := p
    have hil : i < its.toArray.size := by
      have q := (List.getElem?_eq_some_iff.mp hu).1
      simpa using q
    have l1 : e < s.heap.objs.size := Heap.lt_size en
    have l2 : it < s.heap.objs.size := by obtain ⟨_, q, _⟩ := hit; exact Heap.lt_size q
    have hh1 : X.A.in1.handled = none := I.ok.hd hc
    refine wpAny_pyNext_enum_itemD (Draws.tuple hh1 it a hai its.toArray) en ⟨hit, pT⟩ hil hne (by simp [hne, hea]) fun x' g tk hx' ho st' hT hsz hk => ?_
    have ex : x' = u := by
      have q : its.toArray[i]? = some u := by simpa using hu
      rw [q] at hx'
      exact (Option.some.inj hx').symm
    subst ex
    refine ⟨_, rfl, wpAny_letOwnedTupleGo_enum (s := { s with heap := g, toks := tk + 1 }) ho fun g2 he' sb => ?_⟩
    have hT2 : g2.get? s.heap.objs.size = some { cls := .type "tuple", data := .seq #[.int i tk, x'] } := (sb.2 _ (Nat.ne_of_gt l1)).trans hT
    have new : ObjOk X.prog X.w (upd H s.heap.objs.size (.tup [.int (i : Nat), x])) g2 s.heap.objs.size (.tup [.int (i : Nat), x]) :=
      ⟨by show 2 ≤ sizeLine; decide, [.int i tk, x'], .cons ⟨_, rfl⟩ (.cons ru .nil), ⟨_, hT2, rfl, _, rfl⟩⟩
    have I1 : Inv X pins σ (upd H s.heap.objs.size (.tup [.int (i : Nat), x])) { s with heap := g2, toks := tk + 1 } :=
      I.turnedNew (ch := [e, it]) (fun b o hb y => (sb.2 b (fun z => hb (by simp [z]))).trans (hk b o (fun z => hb (by simp [z])) (fun z => hb (by simp [z])) y)) hf (Nat.le_refl _) new
    refine ⟨.ref s.heap.objs.size, _, I1, rfl, ⟨_, x, rfl, I.hok.fresh (Nat.le_refl _), rfl, fun ys hy => by rw [I.tuple_inj hy hq]; exact hx⟩, ⟨⟨x', ?_⟩, st'.1.at fun o y => (sb.2 it (Ne.symm hne)).trans y, hne, hai, hea⟩, fun b hb => ?_⟩
    · rw [show ((i + 1 : Nat) : Int) = (i : Int) + 1 by omega]
      exact he'
    · have lb : b < s.heap.objs.size := by
        rcases (show b = e ∨ b = it by simpa using hb) with z | z
        · rw [z]; exact l1
        · rw [z]; exact l2
      rw [upd_ne (Nat.ne_of_lt lb)]
      exact (hf b hb).1
  done := by
    intro X hP hw hK hc i pins s σ H E I hf st hg
    subst hP hw hK
    obtain ⟨⟨old, en⟩, hit, hne, hai, hea⟩ := st
    obtain ⟨xs, hq, hx⟩ := hg
    obtain ⟨its, rv, p, hz⟩ := I.tuple hq
    have pT : s.heap.IsTuple a its.toArray := p
    have hh1 : X.A.in1.handled = none := I.ok.hd hc
    have ei : its.toArray.size = i := by rw [← hx, rv.length]; simp
    obtain ⟨f0, f1, f2, f3, f4, f5⟩ := hf it (by simp)
    refine wpAny_pyNext_enum_endD (Draws.tuple hh1 it a hai its.toArray) en (by rw [ei]; exact ⟨hit, pT⟩) fun g eb => ⟨rfl, I.turned (t' := s.toks) (fun b o hb y => eb b o hb y) f0 f1 f3 f4 f5⟩
  self := fun A i s Q E st h => let ⟨⟨_, en⟩, _⟩ := st; wpAny_pyIter_enum en h
def iEnumT (K : PySem.W.Frag) (ta : TA) : TI := fun σ H R => ta σ H fun vs H1 => ∃ a xs, vs = [.ref a] ∧ SqT K H1 a xs ∧ R (IteT K a) H1
theorem pi_enumT {X : Cx} {e : Expr} {ta : TA} {p pos tpos : Pos} {elts : List Expr} {kk : Nat} (hg : Gl X "enumerate") (hm : X.mg "enumerate" = none) (ha : PA X [e] ta) (hs : starEach [e] X.env = [(false, eval e X.env)] := by rfl) :
    PI X (.Tuple elts kk tpos) (.Call (.Name "enumerate" p) [e] [] pos) (iEnumT X.K ta) := by
  refine ⟨fun pins s σ H R I h => ?_⟩
  refine wpAny_Call_Name_kw (ld_blt I hg hm PyProof.Rows.boot_enumerate (PyProof.Rows.callWith_type1 (thn (ha.run pos pins s σ H _ I h) fun us s1 z => ?_) hs rfl))
  obtain ⟨vs, H1, I1, r1, a, xs, ex, hq, q⟩ := z
  subst ex
  obtain ⟨u, rfl, ru⟩ := vals1 r1
  cases ru
  obtain ⟨its, rv, p', hz⟩ := I1.tuple hq
  have pT : s1.heap.IsTuple a its.toArray := p'
  obtain ⟨oa, hoa, _⟩ := id pT
  have la : a < s1.heap.objs.size := Heap.lt_size hoa
  refine call_enum_T pT fun g en hit hk => wpAny_pyIter_enum en ?_
  have I2 : Inv X pins σ H1 { s1 with heap := g } := I1.kept (t' := s1.toks) hk
  refine ⟨s1.heap.objs.size + 1, [s1.heap.objs.size + 1, s1.heap.objs.size], _, _, H1, rfl, I2, turn_enumT a (s1.heap.objs.size + 1) s1.heap.objs.size, ⟨⟨.none, en⟩, hit, Nat.succ_ne_self _, Nat.ne_of_lt la, Nat.ne_of_gt (Nat.lt_succ_of_lt la)⟩, fun b hb => ?_, q⟩
  have ge : s1.heap.objs.size ≤ b := by
    rcases (show b = s1.heap.objs.size + 1 ∨ b = s1.heap.objs.size by simpa using hb) with z | z
    · rw [z]; exact Nat.le_add_right _ _
    · rw [z]; exact Nat.le_refl _
  exact I1.fpOk ge (I1.hok.fresh ge)
theorem walk_enumT {K : PySem.W.Frag} {a : Addr} {xs : List V} : Walk (IteT K a) xs.length (fun H => SqT K H a xs) (YPair (fun i => some (.int (i : Nat))) (fun i => xs[i]?)) := by
  refine ⟨fun i _ hi q => ⟨xs, xs[i], q, by simp [hi]⟩, fun _ q => ⟨xs, q, rfl⟩, fun i H v H' _ q y => ?_⟩
  obtain ⟨T, x, y1, y2, y3, y4⟩ := y
  exact ⟨T, .int (i : Nat), x, y1, y2, y3, rfl, y4 xs q⟩
/-! ### one rule or another -/
section
variable {X : Cx} {e : Expr}
theorem pe_or' {t u : TE} (a : PE X e t) (b : PE X e u) : PE X e (fun σ H Q => t σ H Q ∨ u σ H Q) := ⟨fun pins s σ H Q I h => h.elim (a.run pins s σ H Q I) (b.run pins s σ H Q I)⟩
theorem pg_or {t u : TG} (a : PG X e t) (b : PG X e u) : PG X e (fun v σ H Q => t v σ H Q ∨ u v σ H Q) := ⟨fun pins s σ H v w Q I r h => h.elim (a.run pins s σ H v w Q I r) (b.run pins s σ H v w Q I r)⟩
theorem pi_or {tg : Expr} {t u : TI} (a : PI X tg e t) (b : PI X tg e u) : PI X tg e (fun σ H R => t σ H R ∨ u σ H R) := ⟨fun pins s σ H R I h => h.elim (a.run pins s σ H R I) (b.run pins s σ H R I)⟩
theorem op_or' {f : Value → Value → Sem Value} {r q : R2} (a : OpR X f r) (b : OpR X f q) : OpR X f (fun x y H Q => r x y H Q ∨ q x y H Q) := fun pins s σ H x y v u Q I rx ry h => h.elim (a pins s σ H x y v u Q I rx ry) (b pins s σ H x y v u Q I rx ry)
theorem ps_or {st : Stmt} {t u : TS} (a : PS X st t) (b : PS X st u) : PS X st (fun D σ H => t D σ H ∨ u D σ H) := ⟨fun pins s σ H D I h => h.elim (a.run pins s σ H D I) (b.run pins s σ H D I)⟩
theorem call_or {f : Value} {r q : List V → Hp → VK → Prop} (a : CallR X f r) (b : CallR X f q) : CallR X f (fun xs H Q => r xs H Q ∨ q xs H Q) := fun pins s σ H xs us Q I rv h => h.elim (a pins s σ H xs us Q I rv) (b pins s σ H xs us Q I rv)
end
end Ts

set_option maxRecDepth 100000
set_option maxHeartbeats 4000000
namespace Ts
open PySem L2
section
variable {X : Cx}
/-- a local takes a dict comprehension on one line -/
theorem ps_setDc {i : Nat} {y : Str} {py : Pos} {kx vx tg iter : Expr} {ifs : List Expr} {scope : Scope} {own : List (Str × Nat)} {pos spos : Pos} {wi : TI} {g : TG} {tt : TT} {tk tv : TE} (hc : X.calm = true) (hN : X.N.Nodup) (hy : X.N[i]? = some y) (hyl : X.env.scope.names.lookup y = some .local)
    (hsw : swapsWith (.DictComp kx vx [⟨tg, iter, ifs, 0⟩] scope pos) (some (.Name y py)) spos.line X.env = pure true) (hi : PI X tg iter wi) (ok : BlkOk X.N X.env.scope scope own)
    (hg : ∀ (s : Shared) (H : Hp) (C : Addr) (cl : List (Str × Addr)) (fp : List Addr), PG (X.blk s H scope (compEnvC scope cl C X.env) fp) tg g) (ht : ∀ (s : Shared) (H : Hp) (C : Addr) (cl : List (Str × Addr)) (fp : List Addr), PTs (X.blk s H scope (compEnvC scope cl C X.env) fp) ifs tt)
    (hk : ∀ (s : Shared) (H : Hp) (C : Addr) (cl : List (Str × Addr)) (fp : List Addr), PE (X.blk s H scope (compEnvC scope cl C X.env) fp) kx tk)
    (he : ∀ (s : Shared) (H : Hp) (C : Addr) (cl : List (Str × Addr)) (fp : List Addr), PE (X.blk s H scope (compEnvC scope cl C X.env) fp) vx tv) (hs : ∀ x, foldedSetIterable iter X.env x = pure x := by intro _; rfl) :
    PS X (.Assign [.Name y py] (.DictComp kx vx [⟨tg, iter, ifs, 0⟩] scope pos) spos) (tAsg (tDc wi g tt tk tv (own.map (·.2))) (gName i)) := by
  refine ⟨fun pins s σ H D I h => ?_⟩
  rw [exec_Assign_Name_used _ _ _ _ hsw]
  refine wpAny_bind (wpAny_standAt (wpAny_bind ?_))
  show wpAny _ X.A (do let _ ← comprehension (.DictComp kx vx [⟨tg, iter, ifs, 0⟩] scope pos) scope X.env (firstIterPos [⟨tg, iter, ifs, 0⟩] pos) newDict false (eval iter X.env) (some (assign (.Name y py) X.env))) _ _ s
  have h' : tDc wi g tt tk tv (own.map (·.2)) σ H (fun x H1 => gName i x σ H1 D.nx) := h
  refine wpAny_bind (thn (dc_core (Qf := fun _ s' => SP X pins D .next s') hc hN I hi ok hg ht hk he hs h' fun L C s' m H' I' q hn f => ?_) fun _ s' z => wpAny_pure (wpAny_pure z))
  show wpAny _ _ (assign (.Name y py) X.env (.ref L)) _ _ _
  refine wpAny_assign_Name (store_ok2 (v := V.ref L) I' hN hy (.inl hyl) rfl (fun s2 I2 ⟨a, sb, za⟩ => ?_) (.inr hyl))
  obtain ⟨f0, f1, f2, f3, f4, f5⟩ := f
  have ca : C ≠ a := by
    rcases za with z | z
    · rw [z]; exact f1
    · exact fun e => f4 y a z e.symm
  refine ⟨m, hn.sameBut sb ca, fun h3 sb3 => ?_⟩
  exact ⟨_, H', I2.turned (t' := s2.toks) (fun b o hb e => (sb3.2 b hb).trans e) f0 f1 f3 f4 f5, q⟩
theorem swd_true {kx vx : Expr} {gs : List Comprehension} {scope : Scope} {pos py : Pos} {y : Str} {l : Nat} {env : Env} (hk : env.scope.kind = .function) (hy : env.scope.names.lookup y = some .local) (hl : (py.line == pos.line) = true)
    (ha : (scope.names.any fun (n, k) => n == y && (k == .local || k == .cell)) = false) : swapsWith (.DictComp kx vx gs scope pos) (some (.Name y py)) l env = pure true := by
  have k1 : env.kindOf y = some .local := hy
  have k2 : env.blockKind = .function := by unfold Env.blockKind; rw [hk]; rfl
  unfold swapsWith
  simp only [k1, k2, ha, Expr.pos, hl]
  rfl
/-- a dict comprehension over what walks -/
theorem dc_it {J : It} {n : Nat} {G : Hp → Prop} {Y : Nat → Hp → V → Hp → Prop} (w : Walk J n G Y) {g : TG} {tt : TT} {tk tv : TE} {vs : List Nat} {σ : St} {H1 : Hp} {D : Addr} {Qd : Hp → Prop} (Pv : Nat → Hp → Prop) (h0 : Pv 0 (upd H1 D (.dK []))) (hG : ∀ i H, i ≤ n → Pv i H → G H)
    (hs : ∀ i x H H', i < n → Pv i H → Y i H x H' → g x (wipe σ vs) H' fun σ2 H2 => wipe σ2 vs = wipe σ vs ∧ tt σ2 H2 fun b H3 =>
      if b = true then tk σ2 H3 fun y H4 => tv σ2 H4 fun z H5 => ∃ kvs k, y = kV k ∧ H5 D = some (.dK kvs) ∧ kvs.length < sizeLine ∧ Pv (i + 1) (upd H5 D (.dK (putK kvs k z))) else Pv (i + 1) H3) (hd : ∀ H, Pv n H → Qd H) :
    ∃ W : Nat → Nat → Hp → Prop, (∃ m, W 0 m (upd H1 D (.dK []))) ∧ ∀ i m H, W i m H →
      (J.stop i H ∧ Qd H) ∨ (J.go i H ∧ ∃ Nx : Hp → Prop, (∀ H', Nx H' → ∃ m', m' < m ∧ W (i + 1) m' H') ∧ ∀ x H', J.yld i H x H' → g x (wipe σ vs) H' fun σ2 H2 => wipe σ2 vs = wipe σ vs ∧ tt σ2 H2 fun b H3 =>
        if b = true then tk σ2 H3 fun y H4 => tv σ2 H4 fun z H5 => ∃ kvs k, y = kV k ∧ H5 D = some (.dK kvs) ∧ kvs.length < sizeLine ∧ Nx (upd H5 D (.dK (putK kvs k z))) else Nx H3) := by
  refine ⟨fun i m H => m = n - i ∧ i ≤ n ∧ Pv i H, ⟨n, by simp, Nat.zero_le _, h0⟩, ?_⟩
  rintro i m H ⟨rfl, le, p⟩
  have q := hG i H le p
  by_cases lt : i < n
  · exact .inr ⟨w.goes i H lt q, Pv (i + 1), fun H' p' => ⟨n - (i + 1), by omega, rfl, lt, p'⟩, fun x H' y => hs i x H H' lt p (w.yields i H x H' lt q y)⟩
  · obtain rfl : i = n := by omega
    exact .inl ⟨w.stops H q, hd H p⟩
end
end Ts

set_option maxRecDepth 100000
namespace Ts
open PySem L2
def top (i : Nat) : Stmt := PySem.Challenge.pw_turnsets_k44_known_wishes.main.body.getD i (.Pass ⟨0, 0, 0, 0⟩)
abbrev s__wall : Stmt := top 0
abbrev s_BadRow_init : Stmt := inClass (top 3) 0
abbrev s_NoBox_init : Stmt := inClass (top 4) 0
abbrev s_Locked_init : Stmt := inClass (top 6) 0
abbrev s_BadWish_init : Stmt := inClass (top 8) 0
abbrev s_Barred_init : Stmt := inClass (top 9) 0
abbrev s_BadNumber_init : Stmt := inClass (top 10) 0
abbrev s_TooDear_init : Stmt := inClass (top 11) 0
abbrev s_is_name : Stmt := top 17
abbrev s_is_number : Stmt := top 18
abbrev s_is_price : Stmt := top 19
abbrev s_is_row : Stmt := top 20
abbrev s_check_rows : Stmt := top 21
abbrev s_check_box : Stmt := top 22
abbrev s_is_place : Stmt := top 23
abbrev s_check_place : Stmt := top 24
abbrev s_Tree_init : Stmt := inClass (top 25) 0
abbrev s_Tree_eq : Stmt := inClass (top 25) 1
abbrev s_Tree_len : Stmt := inClass (top 25) 2
abbrev s_Tree_contains : Stmt := inClass (top 25) 3
abbrev s_Tree_rows : Stmt := inClass (top 25) 4
abbrev s_Tree_folder : Stmt := inClass (top 25) 5
abbrev s_Tree_kind : Stmt := inClass (top 25) 6
abbrev s_Tree_price : Stmt := inClass (top 25) 7
abbrev s_Tree_inside : Stmt := inClass (top 25) 8
abbrev s_Tree_below : Stmt := inClass (top 25) 9
abbrev s_Tree_way : Stmt := inClass (top 25) 10
abbrev s_Tree_steps : Stmt := inClass (top 25) 11
abbrev s_Tree_more : Stmt := inClass (top 25) 12
abbrev s_Tree_less : Stmt := inClass (top 25) 13
abbrev s_Tree_moved : Stmt := inClass (top 25) 14
abbrev s_Tree_opened : Stmt := inClass (top 25) 15
abbrev s_check_turns : Stmt := top 27
abbrev s_check_trees : Stmt := top 28
abbrev s_values_of : Stmt := top 29
abbrev s_with_values : Stmt := top 30
abbrev s_Meaning_init : Stmt := inClass (top 31) 0
abbrev s_Meaning_eq : Stmt := inClass (top 31) 1
abbrev s_Meaning_len : Stmt := inClass (top 31) 2
abbrev s_Meaning_iter : Stmt := inClass (top 31) 3
abbrev s_Meaning_contains : Stmt := inClass (top 31) 4
abbrev s_Meaning_xor : Stmt := inClass (top 31) 5
abbrev s_Meaning_and : Stmt := inClass (top 31) 6
abbrev s_Meaning_or : Stmt := inClass (top 31) 7
abbrev s_Meaning_sub : Stmt := inClass (top 31) 8
abbrev s_Meaning_invert : Stmt := inClass (top 31) 9
abbrev s_Meaning_value : Stmt := inClass (top 31) 10
abbrev s_Meaning_states : Stmt := inClass (top 31) 11
abbrev s_Meaning_price : Stmt := inClass (top 31) 12
abbrev s_check_wish : Stmt := top 34
abbrev s_ends_of : Stmt := top 35
abbrev s_above_locked : Stmt := top 36
abbrev s_check_barred : Stmt := top 37
abbrev s_open_ends : Stmt := top 38
abbrev s_endless : Stmt := top 39
abbrev s_step_prices : Stmt := top 40
abbrev s_choices : Stmt := top 41
abbrev s_favoured : Stmt := top 42
abbrev s_shorter : Stmt := top 43
abbrev s_paired : Stmt := top 44
abbrev s_let_through : Stmt := top 45
abbrev s_ways_between : Stmt := top 46
abbrev s_Cheapest_init : Stmt := inClass (top 47) 0
abbrev s_cheapest : Stmt := top 48
abbrev s_how_many : Stmt := top 49
abbrev s_L_stream : Stmt := top 51
abbrev s_L_draw : Stmt := top 52
abbrev s_L_pick : Stmt := top 53
abbrev s_L_name : Stmt := top 54
abbrev s_L_asked : Stmt := top 55
abbrev s_L_chain_rows : Stmt := top 56
abbrev s_L_example_right : Stmt := top 57
abbrev s_L_chain_right : Stmt := top 58
abbrev s_L_is_cut : Stmt := top 59
abbrev s_law : Stmt := top 60
end Ts

set_option maxRecDepth 100000
set_option maxHeartbeats 4000000
namespace Ts
open PySem L2
/-! ### how a def stands -/
structure DefAt (K : PySem.W.Frag) (mg : Str → Option Value) (x : Str) (st : Stmt) (ps : List Str) where
  f : Addr
  fd : FuncData
  F : Fun K x x st f fd
  b : Binds K fd ps []
  g : mg x = some (.ref f)
structure MethAt (K : PySem.W.Frag) (C : Addr) (x q : Str) (st : Stmt) (ps : List Str) where
  f : Addr
  fd : FuncData
  F : Fun K x q st f fd
  b : Binds K fd ps []
  m : Meth K C x f
structure TxB (mg : Str → Option Value) : Prop where
  len : mg "len" = none
  abs : mg "abs" = none
  int : mg "int" = none
  str : mg "str" = none
  bool : mg "bool" = none
  list : mg "list" = none
  tuple : mg "tuple" = none
  dict : mg "dict" = none
  range : mg "range" = none
  enumerate : mg "enumerate" = none
  isinstance : mg "isinstance" = none
  all : mg "all" = none
theorem lk {l : List (Option V)} {i : Nat} {v : V} (h : l[i]? = some (some v)) : l[i]? = some (some v) := h
/-! ### the draws -/
/-- all but a is kept -/
def SB (a : Addr) (H H' : Hp) : Prop := ∀ b o, b ≠ a → H b = some o → H' b = some o
theorem SB.refl (a : Addr) (H : Hp) : SB a H H := fun _ _ _ h => h
theorem SB.trans {a : Addr} {H H1 H2 : Hp} (x : SB a H H1) (y : SB a H1 H2) : SB a H H2 := fun b o n h => y b o n (x b o n h)
theorem SB.of {a : Addr} {H H' : Hp} (x : Same H H') : SB a H H' := fun b o _ h => x b o h
theorem Same.new {H : Hp} {p : Addr} {o : HO} (h : H p = none) : Same H (upd H p o) := fun b u e => by rw [upd_ne (ne_of_none e h)]; exact e
theorem SB.upd {a p : Addr} {H : Hp} {o : HO} (h : H p = none) : SB a H (L2.upd H p o) := SB.of (Same.new h)
theorem SB.seqL {K : PySem.W.Frag} {a l : Addr} {H H' : Hp} {xs : List V} (x : SB a H H') (n : l ≠ a) (h : SqL K H l xs) : SqL K H' l xs := by
  rcases h with (h | ⟨o, h⟩) | h
  · exact .inl (.inl (x _ _ n h))
  · exact .inl (.inr ⟨o, x _ _ n h⟩)
  · exact .inr h
theorem SB.free {a b : Addr} {H H' : Hp} (x : SB a H H') (n : b ≠ a) (h : H' b = none) : H b = none := by
  cases q : H b with
  | none => rfl
  | some o =>
    rw [x b o n q] at h
    cases h
/-- at a a stream of draws of which at most n are mixed numbers -/
def Stm (H : Hp) (a : Addr) (n : Int) : Prop := ∃ x y z : Int, H a = some (.lst [.int x, .int y, .int z]) ∧ 0 ≤ x ∧ 0 ≤ y ∧ y < 1099511627776 ∧ 0 ≤ z ∧ z ≤ n
theorem Stm.mono {H : Hp} {a : Addr} {n m : Int} (h : Stm H a n) (k : n ≤ m) : Stm H a m := by
  obtain ⟨x, y, z, e, h1, h2, h3, h4, h5⟩ := h
  exact ⟨x, y, z, e, h1, h2, h3, h4, Int.le_trans h5 k⟩
theorem Stm.ne {H : Hp} {a p : Addr} {n : Int} (h : Stm H a n) (hp : H p = none) : a ≠ p := by
  obtain ⟨x, y, z, e, _⟩ := h
  exact ne_of_none e hp
theorem Stm.same {H H' : Hp} {a : Addr} {n : Int} (h : Stm H a n) (s : Same H H') : Stm H' a n := by
  obtain ⟨x, y, z, e, r⟩ := h
  exact ⟨x, y, z, s _ _ e, r⟩
theorem Stm.upd {H : Hp} {a p : Addr} {o : HO} {n : Int} (h : Stm H a n) (hp : H p = none) : Stm (upd H p o) a n := h.same (Same.new hp)
theorem ne_lit {i : Int} (h : i ≠ 0) : i ≠ 0 := h
theorem fm_in (q : Int) {m : Int} (h : 1 ≤ m) : 0 ≤ q.fmod m ∧ q.fmod m < m := by
  rw [Int.fmod_eq_emod_of_nonneg q (by omega)]
  exact ⟨Int.emod_nonneg _ (by omega), Int.emod_lt_of_pos _ (by omega)⟩
def spStream (K : PySem.W.Frag) : Sp := fun vs H Q _ => ∃ (a : Addr) (ns : List Int) (k : Int), vs = [.ref a, .int k] ∧ SqL K H a (ns.map V.int) ∧ 0 ≤ k ∧ k ≤ 1000 ∧
  ∀ (p : Addr) (x y : Int), H p = none → 0 ≤ x → 0 ≤ y → y < 1099511627776 → Q (.ref p) (upd H p (.lst [.int x, .int y, .int 0]))
def spDraw : Sp := fun vs H Q _ => ∃ (a : Addr) (m n : Int), vs = [.ref a, .int m] ∧ Stm H a n ∧ n ≤ 1099511627776 ∧ 1 ≤ m ∧ m ≤ 1000000 ∧
  ∀ (r : Int) (H' : Hp), 0 ≤ r → r < m → Stm H' a (n + 1) → (∀ b, b ≠ a → H' b = H b) → Q (.int r) H'
section
variable {P : Program} {w : World} {K : PySem.W.Frag} {mg : Str → Option Value} {base : Heap}
theorem sc_stream : FnScope ["_law_script", "_law_k", "_law_cell"] ["_law_script", "_law_k"] (defScope s_L_stream) := ⟨rfl, rfl, rfl, by decide +kernel, rfl, by decide +kernel, by decide +kernel⟩
theorem ok_stream (D : DefAt K mg "_law_stream" s_L_stream ["_law_script", "_law_k"]) (B : TxB mg) : FnOk P w K mg base CX0 2 D.f D.fd ["_law_script", "_law_k"] (spStream K) := by
  refine D.F.ok sc_stream (fun vs H Q E h => ?_) (fun cdv A outer s H vs Q E hr h => ?_)
  · obtain ⟨a, ns, k, rfl, _⟩ := h
    rfl
  · obtain ⟨a, ns, k, rfl, hS, h0, h1, hq⟩ := h
    refine ⟨_, pss_cons (ps_set (i := 2) sc_stream.nd rfl (.inl rfl) (pe_ifExp (pt_cmpR op_lt (pv 1) (pe_callB call_len_seq (by rfl) B.len PySem.boot_len (pa_cons (pv 0) pa_nil)) (nomark _)) (pe_callB call_abs (by rfl) B.abs (by decide +kernel) (pa_cons (pe_ix ix_list (pv 0) (pv 1) (fun _ _ => rfl)) pa_nil)) pe_int))
      (pss_one (ps_ret (pe_lst (pa_cons (pe_ifExp (pt_cmpR op_ge (pv 2) (pe_op op_pow pe_int pe_int) (nomark _)) (pv 2) pe_int) (pa_cons (pe_op op_add (pe_op op_modN (pe_callTy call_int1 (by rfl) B.int (by decide +kernel) (pa_cons (pv 2) pa_nil)) pe_int) (pe_op op_mul pe_int (pv 1))) (pa_cons pe_int pa_nil)))))), ?_⟩
    refine ⟨_, rfl, _, rfl, a, _, rfl, .inl hS, _, _, rfl, rfl, _, rfl, ?_⟩
    have fin : ∀ c : Int, 0 ≤ c → 0 ≤ c.fmod 2147483647 + 31 * k ∧ c.fmod 2147483647 + 31 * k < 1099511627776 := fun c hc => by
      have e := Int.fmod_eq_emod_of_nonneg c (show (0 : Int) ≤ 2147483647 by decide)
      omega
    refine ite2 (fun h => ?_) (fun h => ?_)
    · have hlt := of_decide_eq_true h
      rw [List.length_map] at hlt
      obtain ⟨v, hv⟩ : ∃ v, ns[k.toNat]? = some v := ⟨ns[k.toNat]'(by omega), List.getElem?_eq_getElem (by omega)⟩
      refine ⟨_, rfl, _, rfl, a, _, _, .int v, rfl, rfl, hS, at_of (j := k.toNat) (by omega) (by rw [List.getElem?_map, hv]; rfl), _, rfl, ?_⟩
      have hc : (0 : Int) ≤ if v < 0 then -v else v := by split <;> omega
      generalize (if v < 0 then -v else v) = c at hc
      refine ⟨_, rfl, _, _, rfl, rfl, ⟨by decide, by decide, by decide⟩, _, _, rfl, rfl, _, rfl, ?_⟩
      refine ite2 (fun h => ?_) (fun h => ?_)
      · exact ⟨_, rfl, _, rfl, .inl ⟨_, rfl, _, _, rfl, rfl, ne_lit (by decide), _, rfl, _, _, rfl, rfl, .inl ⟨by decide, by decide⟩, _, _, rfl, rfl, (by show 3 ≤ sizeLine; decide), fun p hp => hq p _ _ hp hc (fin c hc).1 (fin c hc).2⟩⟩
      · exact ⟨_, rfl, .inl ⟨_, rfl, _, _, rfl, rfl, ne_lit (by decide), _, rfl, _, _, rfl, rfl, .inl ⟨by decide, by decide⟩, _, _, rfl, rfl, (by show 3 ≤ sizeLine; decide), fun p hp => hq p _ _ hp (by decide) (fin c hc).1 (fin c hc).2⟩⟩
    · have hc : (0 : Int) ≤ 0 := Int.le_refl 0
      refine ⟨_, rfl, _, _, rfl, rfl, ⟨by decide, by decide, by decide⟩, _, _, rfl, rfl, _, rfl, ?_⟩
      refine ite2 (fun h => ?_) (fun h => ?_)
      · exact ⟨_, rfl, _, rfl, .inl ⟨_, rfl, _, _, rfl, rfl, ne_lit (by decide), _, rfl, _, _, rfl, rfl, .inl ⟨by decide, by decide⟩, _, _, rfl, rfl, (by show 3 ≤ sizeLine; decide), fun p hp => hq p _ _ hp hc (fin 0 hc).1 (fin 0 hc).2⟩⟩
      · exact ⟨_, rfl, .inl ⟨_, rfl, _, _, rfl, rfl, ne_lit (by decide), _, rfl, _, _, rfl, rfl, .inl ⟨by decide, by decide⟩, _, _, rfl, rfl, (by show 3 ≤ sizeLine; decide), fun p hp => hq p _ _ hp (by decide) (fin 0 hc).1 (fin 0 hc).2⟩⟩
theorem sc_draw : FnScope ["_law_stream_here", "_law_many", "_law_digit", "_law_spread"] ["_law_stream_here", "_law_many"] (defScope s_L_draw) := ⟨rfl, rfl, rfl, by decide +kernel, rfl, by decide +kernel, by decide +kernel⟩
theorem ok_draw (D : DefAt K mg "_law_draw" s_L_draw ["_law_stream_here", "_law_many"]) (B : TxB mg) : FnOk P w K mg base CX0 2 D.f D.fd ["_law_stream_here", "_law_many"] spDraw := by
  refine D.F.ok sc_draw (fun vs H Q E h => ?_) (fun cdv A outer s H vs Q E hr h => ?_)
  · obtain ⟨a, m, n, rfl, _⟩ := h
    rfl
  · obtain ⟨a, m, n, rfl, ⟨x, y, z, e, hx, hy, hy1, hz, hzn⟩, hn, hm, hm1, hq⟩ := h
    have eS := SqL.of (K := K) e
    refine ⟨_, pss_cons (ps_if (pt_cmpR op_gt (pe_ix ix_list (pv 0) pe_int (fun _ _ => rfl)) pe_int (nomark _))
        (pss_cons (ps_set (i := 2) sc_draw.nd rfl (.inl rfl) (pe_op op_modN (pe_callTy call_int1 (by rfl) B.int (by decide +kernel) (pa_cons (pe_ix ix_list (pv 0) pe_int (fun _ _ => rfl)) pa_nil)) (pv 1)))
        (pss_cons (ps_asg (pe_op op_fdivN (pe_ix ix_list (pv 0) pe_int (fun _ _ => rfl)) (pv 1)) (pg_sub (pv 0) pe_int set_list))
        (pss_one (ps_ret (pv 2))))) pss_nil)
      (pss_cons (ps_asg (pe_op op_add (pe_ix ix_list (pv 0) pe_int (fun _ _ => rfl)) pe_int) (pg_sub (pv 0) pe_int set_list))
      (pss_cons (ps_set (i := 3) sc_draw.nd rfl (.inl rfl) (pe_op op_modN (pe_op op_pow (pe_callTy call_int1 (by rfl) B.int (by decide +kernel) (pa_cons (pe_op op_add (pe_op op_add (pe_ix ix_list (pv 0) pe_int (fun _ _ => rfl)) (pe_op op_mul pe_int (pe_ix ix_list (pv 0) pe_int (fun _ _ => rfl)))) pe_int) pa_nil)) pe_int) pe_int))
      (pss_one (ps_ret (pe_op op_modN (pe_op op_fdivN (pe_op op_modN (pe_callTy call_int1 (by rfl) B.int (by decide +kernel) (pa_cons (pe_op op_mul (pe_op op_add (pv 3) (pe_ix ix_list (pv 0) pe_int (fun _ _ => rfl))) pe_int) pa_nil)) pe_int) pe_int) (pv 1)))))), ?_⟩
    have g0 : ∀ x y z : Int, atI [V.int x, .int y, .int z] 0 = some (.int x) := fun _ _ _ => rfl
    have g1 : ∀ x y z : Int, atI [V.int x, .int y, .int z] 1 = some (.int y) := fun _ _ _ => rfl
    have g2 : ∀ x y z : Int, atI [V.int x, .int y, .int z] 2 = some (.int z) := fun _ _ _ => rfl
    refine ⟨_, rfl, a, _, _, _, rfl, rfl, eS, g0 _ _ _, _, _, rfl, rfl, _, rfl, ?_⟩
    refine ite2 (fun h => ?_) (fun h => ?_)
    · have hx0 := of_decide_eq_true h
      refine ⟨_, rfl, a, _, _, _, rfl, rfl, eS, g0 _ _ _, .inl ⟨_, rfl, _, rfl, _, _, rfl, rfl, (by omega), ?_⟩⟩
      refine ⟨_, rfl, a, _, _, _, rfl, rfl, eS, g0 _ _ _, _, rfl, _, _, rfl, rfl, ⟨by omega, by omega⟩, _, rfl, a, _, _, 0, rfl, rfl, e, rfl, _, rfl, ?_⟩
      have e2 := Int.fdiv_eq_ediv_of_nonneg x (show (0 : Int) ≤ m by omega)
      exact hq _ _ (fm_in _ hm).1 (fm_in _ hm).2 ⟨x.fdiv m, y, z, upd_same, by rw [e2]; exact Int.ediv_nonneg hx (by omega), hy, hy1, hz, by omega⟩ fun b hb => upd_ne hb
    · refine ⟨_, rfl, a, _, _, _, rfl, rfl, eS, g2 _ _ _, _, _, rfl, rfl, _, rfl, a, _, _, 2, rfl, rfl, e, rfl, ?_⟩
      have e' : (upd H a (.lst [V.int x, .int y, .int (z + 1)])) a = some (.lst [V.int x, .int y, .int (z + 1)]) := upd_same
      have eS' := SqL.of (K := K) e'
      refine ⟨_, rfl, a, _, _, _, rfl, rfl, eS', g1 _ _ _, _, rfl, a, _, _, _, rfl, rfl, eS', g2 _ _ _, _, _, rfl, rfl, .inl ⟨by decide, by decide⟩, _, _, rfl, rfl, _, _, rfl, rfl, .inl ⟨_, rfl, _, _, rfl, rfl, ⟨by decide, by decide, by omega⟩, _, _, rfl, rfl, ne_lit (by decide), ?_⟩⟩
      have e3 := Int.fmod_eq_emod_of_nonneg ((y + 7919 * (z + 1) + 104729) ^ (5 : Int).toNat) (show (0 : Int) ≤ 2147483647 by decide)
      generalize (y + 7919 * (z + 1) + 104729) ^ (5 : Int).toNat = g at e3
      have b1 := Int.emod_nonneg g (show (2147483647 : Int) ≠ 0 by decide)
      have b2 := Int.emod_lt_of_pos g (show (0 : Int) < 2147483647 by decide)
      rw [← e3] at b1 b2
      generalize g.fmod 2147483647 = u at b1 b2
      refine ⟨_, rfl, _, rfl, a, _, _, _, rfl, rfl, eS', g2 _ _ _, _, _, rfl, rfl, _, _, rfl, rfl, .inl ⟨by omega, by omega⟩, .inl ⟨_, rfl, _, _, rfl, rfl, ne_lit (by decide), _, _, rfl, rfl, ⟨by decide, by decide⟩, _, rfl, _, _, rfl, rfl, by omega, ?_⟩⟩
      exact hq _ _ (fm_in _ hm).1 (fm_in _ hm).2 ⟨x, y, z + 1, upd_same, hx, hy, hy1, by omega, by omega⟩ fun b hb => upd_ne hb
end
end Ts

set_option maxRecDepth 100000
set_option maxHeartbeats 4000000
namespace Ts
open PySem L2
/-- an item of a list, or a sign of a text, that is drawn -/
def spPick (K : PySem.W.Frag) : Sp := fun vs H Q _ =>
  (∃ (a l : Addr) (n : Int) (xs : List V), vs = [.ref a, .ref l] ∧ Stm H a n ∧ n ≤ 1099511627776 ∧ l ≠ a ∧ SqL K H l xs ∧ 1 ≤ xs.length ∧ xs.length ≤ 1000000 ∧
    ∀ (v : V) (H' : Hp), v ∈ xs → Stm H' a (n + 1) → SB a H H' → (∀ b, H b = none → H' b = none) → Q v H') ∨
  (∃ (a : Addr) (z : Str) (n : Int), vs = [.ref a, .str z] ∧ Stm H a n ∧ n ≤ 1099511627776 ∧ 1 ≤ z.length ∧ z.length ≤ 1000000 ∧
    ∀ (c : Nat) (H' : Hp), c ∈ z.cps.toList → Stm H' a (n + 1) → SB a H H' → (∀ b, H b = none → H' b = none) → Q (.str ⟨#[c]⟩) H')
theorem sb_eq {a : Addr} {H H' : Hp} (h : ∀ b, b ≠ a → H' b = H b) : SB a H H' := fun b o n e => by rw [h b n]; exact e
theorem free_eq {a : Addr} {n : Int} {H H' : Hp} (s : Stm H a n) (h : ∀ b, b ≠ a → H' b = H b) (b : Addr) (hb : H b = none) : H' b = none := by rw [h b (s.ne hb).symm]; exact hb
/-- a name as it is drawn: 1, 2, 3 or 8 letters -/
def Low (z : Str) : Prop := ∀ c ∈ z.cps.toList, 97 ≤ c ∧ c ≤ 122
def Drawn (z : Str) : Prop := (z.length = 1 ∨ z.length = 2 ∨ z.length = 3 ∨ z.length = 8) ∧ Low z
def NameShape (z : Str) : Prop := ((z.length = 1 ∨ z.length = 2 ∨ z.length = 3 ∨ z.length = 8) ∨ z.length = 4) ∧ Low z
theorem Drawn.shape {z : Str} (h : Drawn z) : NameShape z := ⟨.inl h.1, h.2⟩
def spName : Sp := fun vs H Q _ => ∃ (a : Addr) (n : Int), vs = [.ref a] ∧ Stm H a n ∧ n ≤ 549755813888 ∧
  ∀ (z : Str) (H' : Hp), Drawn z → Stm H' a (n + 9) → SB a H H' → Q (.str z) H'
theorem abc_low : ∀ c ∈ ("abcdefghijklmnopqrstuvwxyz" : Str).cps.toList, 97 ≤ c ∧ c ≤ 122 := by decide +kernel
theorem abc_len : ("abcdefghijklmnopqrstuvwxyz" : Str).length = 26 := by decide +kernel
theorem join_empty : ∀ (ys : List Str), (Str.join ("" : Str) ys).cps.toList = (ys.map fun y => y.cps.toList).flatten
  | [] => rfl
  | [x] => by simp [Str.join]
  | x :: y :: r => by
    have ih := join_empty (y :: r)
    have e : ("" : Str).cps.toList = [] := by decide +kernel
    show ((x.cps ++ ("" : Str).cps) ++ (Str.join "" (y :: r)).cps).toList = _
    rw [Array.toList_append, Array.toList_append, ih, e]
    simp
theorem tYes_if {σ : St} {H : Hp} {A B : Hp → Prop} (h : A H) : tYes σ H (fun b H3 => if b = true then A H3 else B H3) := by
  show if true = true then A H else B H
  rw [if_pos rfl]
  exact h
/-- signs put together -/
def signs (cs : List Nat) : List Str := cs.map fun c => ⟨#[c]⟩
theorem join_signs (cs : List Nat) : (Txt.join ("" : Str) (signs cs)).cps.toList = cs := by
  rw [TL.join_eq, join_empty]
  unfold signs
  induction cs with
  | nil => rfl
  | cons c r ih =>
    simp only [List.map_cons, List.flatten_cons] at ih ⊢
    rw [ih]
    rfl
theorem len_toList (z : Str) : z.length = z.cps.toList.length := by simp [Str.length]
section
variable {P : Program} {w : World} {K : PySem.W.Frag} {mg : Str → Option Value} {base : Heap}
theorem sc_pick : FnScope ["_law_stream_here", "_law_things"] ["_law_stream_here", "_law_things"] (defScope s_L_pick) := ⟨rfl, rfl, rfl, by decide +kernel, rfl, by decide +kernel, by decide +kernel⟩
theorem ok_pick (D : DefAt K mg "_law_pick" s_L_pick ["_law_stream_here", "_law_things"]) (Dd : DefAt K mg "_law_draw" s_L_draw ["_law_stream_here", "_law_many"]) (B : TxB mg) : FnOk P w K mg base CX0 3 D.f D.fd ["_law_stream_here", "_law_things"] (spPick K) := by
  have G : FnOk P w K mg base CX0 2 Dd.f Dd.fd ["_law_stream_here", "_law_many"] spDraw := ok_draw Dd B
  refine D.F.ok sc_pick (fun vs H Q E h => ?_) (fun cdv A outer s H vs Q E hr h => ?_)
  · rcases h with ⟨a, l, n, xs, rfl, _⟩ | ⟨a, z, n, rfl, _⟩ <;> rfl
  · rcases h with ⟨a, l, n, xs, rfl, hs, hn, la, hl, h1, h2, hq⟩ | ⟨a, z, n, rfl, hs, hn, h1, h2, hq⟩
    · refine ⟨_, pss_one (ps_ret (pe_ix ix_list (pv 1) (pe_call G hr rfl Dd.g Dd.F.kp Dd.b .nil pass0 (pa_cons (pv 0) (pa_cons (pe_callB call_len_seq (by rfl) B.len PySem.boot_len (pa_cons (pv 1) pa_nil)) pa_nil))) (fun _ _ => rfl))), ?_⟩
      refine ⟨_, rfl, _, rfl, _, rfl, l, xs, rfl, .inl hl, a, xs.length, n, rfl, hs, hn, by omega, by omega, fun r H' r0 r1 hs' he => ?_⟩
      have hk : r.toNat < xs.length := by omega
      exact ⟨l, xs, r, xs[r.toNat], rfl, rfl, (sb_eq he).seqL la hl, at_of (j := r.toNat) (by omega) (List.getElem?_eq_getElem hk), hq _ _ (List.getElem_mem hk) hs' (sb_eq he) (free_eq hs he)⟩
    · refine ⟨_, pss_one (ps_ret (pe_item_str (pv 1) (pe_call G hr rfl Dd.g Dd.F.kp Dd.b .nil pass0 (pa_cons (pv 0) (pa_cons (pe_callB call_len (by rfl) B.len PySem.boot_len (pa_cons (pv 1) pa_nil)) pa_nil))) (fun _ _ => rfl))), ?_⟩
      refine ⟨_, rfl, _, rfl, _, rfl, _, z.length, rfl, ⟨Nat.le_trans h2 (by decide), rfl⟩, a, z.length, n, rfl, hs, hn, by omega, by omega, fun r H' r0 r1 hs' he => ?_⟩
      have hk : r.toNat < z.cps.size := by
        have : z.length = z.cps.size := rfl
        omega
      exact ⟨z, r, z.cps[r.toNat], rfl, rfl, r0, by omega, r1, Array.getElem?_eq_getElem hk, hq _ _ (by simp) hs' (sb_eq he) (free_eq hs he)⟩
theorem sc_name : FnScope ["_law_stream_here", "_law_size", "_law_k"] ["_law_stream_here"] (defScope s_L_name) := ⟨rfl, rfl, rfl, by decide +kernel, rfl, by decide +kernel, by decide +kernel⟩
theorem ok_name (D : DefAt K mg "_law_name" s_L_name ["_law_stream_here"]) (Dp : DefAt K mg "_law_pick" s_L_pick ["_law_stream_here", "_law_things"]) (Dd : DefAt K mg "_law_draw" s_L_draw ["_law_stream_here", "_law_many"]) (B : TxB mg) :
    FnOk P w K mg base CX0 4 D.f D.fd ["_law_stream_here"] spName := by
  have Gd : FnOk P w K mg base CX0 2 Dd.f Dd.fd ["_law_stream_here", "_law_many"] spDraw := ok_draw Dd B
  have Gp : FnOk P w K mg base CX0 3 Dp.f Dp.fd ["_law_stream_here", "_law_things"] (spPick K) := ok_pick Dp Dd B
  refine D.F.ok sc_name (fun vs H Q E h => ?_) (fun cdv A outer s H vs Q E hr h => ?_)
  · obtain ⟨a, n, rfl, _⟩ := h
    rfl
  · obtain ⟨a, n, rfl, hs, hn, hq⟩ := h
    refine ⟨_, pss_cons (ps_set (i := 1) sc_name.nd rfl (.inl rfl) (pe_ix ix_list (pe_lst (pa_cons pe_int (pa_cons pe_int (pa_cons pe_int (pa_cons pe_int (pa_cons pe_int pa_nil)))))) (pe_call Gd (hr.mono (by decide)) rfl Dd.g Dd.F.kp Dd.b .nil pass0 (pa_cons (pv 0) (pa_cons pe_int pa_nil))) (fun _ _ => rfl)))
      (pss_one (ps_ret (pe_join pe_str (pe_lc (own := [("_law_k", 2)]) (g := gName 2) (tt := tYes) (by rfl) sc_name.nd (pi_range1 (by rfl) B.range (pa_cons (pv 1) pa_nil)) (blkOk_by (N := ["_law_stream_here", "_law_size", "_law_k"]) (sc := defScope s_L_name) (by decide +kernel))
        (fun _ _ _ _ _ => pg_name (i := 2) sc_name.nd rfl (Or.inl rfl)) (fun _ _ _ _ _ => pts_nil) (fun _ _ _ _ _ => pe_call Gp hr rfl Dp.g Dp.F.kp Dp.b .nil pass0 (pa_cons (pv 0) (pa_cons pe_str pa_nil))))))), ?_⟩
    refine ⟨(by show 5 ≤ sizeLine; decide), fun l hl => ?_⟩
    refine ⟨_, rfl, a, 5, n, rfl, hs.upd hl, by omega, by decide, by decide, fun r H1 r0 r1 hs1 he1 => ?_⟩
    have la : l ≠ a := (hs.ne hl).symm
    have e1 : H1 l = some (.lst [V.int 1, .int 1, .int 2, .int 3, .int 8]) := by rw [he1 l la]; exact upd_same
    have sb1 : SB a H H1 := (SB.upd hl).trans (sb_eq he1)
    obtain ⟨m, hm, hm4⟩ : ∃ m : Int, atI [V.int 1, .int 1, .int 2, .int 3, .int 8] r = some (.int m) ∧ (m = 1 ∨ m = 2 ∨ m = 3 ∨ m = 8) := by
      obtain rfl | rfl | rfl | rfl | rfl : r = 0 ∨ r = 1 ∨ r = 2 ∨ r = 3 ∨ r = 4 := by omega
      · exact ⟨1, rfl, by decide⟩
      · exact ⟨1, rfl, by decide⟩
      · exact ⟨2, rfl, by decide⟩
      · exact ⟨3, rfl, by decide⟩
      · exact ⟨8, rfl, by decide⟩
    refine ⟨l, _, r, .int m, rfl, rfl, SqL.of e1, hm, ⟨_, rfl⟩, ?_⟩
    refine ⟨_, rfl, m, rfl, by omega, by omega, fun Dl hD => ?_⟩
    refine lc_range (lo := 0) (n := m.toNat) (fun i H2 => ∃ cs : List Nat, cs.length = i ∧ (∀ c ∈ cs, 97 ≤ c ∧ c ≤ 122) ∧ H2 Dl = some (.lst ((signs cs).map V.str)) ∧ Stm H2 a (n + 1 + i) ∧ SB a H1 H2) ?_ ?_ ?_
    · exact ⟨[], rfl, (fun c hc => by cases hc), upd_same, (by simpa using hs1.upd (o := .lst []) hD), SB.upd hD⟩
    · rintro i H2 hi ⟨cs, hcl, hlow, hDl, hs2, sb2⟩
      refine ⟨rfl, tYes_if ?_⟩
      have Da : Dl ≠ a := (hs1.ne hD).symm
      refine ⟨_, rfl, .inr ⟨a, _, _, rfl, hs2, by omega, by rw [abc_len]; decide, by rw [abc_len]; decide, fun c H3 hc hs3 sb3 _ => ?_⟩⟩
      refine ⟨(signs cs).map V.str, sb3 _ _ Da hDl, ?_, cs ++ [c], by simp [hcl], ?_, ?_, ?_, ?_⟩
      · rw [List.length_map]
        unfold signs
        rw [List.length_map, hcl]
        exact Nat.lt_of_lt_of_le hi (Nat.le_trans (show m.toNat ≤ 8 by omega) (by decide))
      · intro d hd
        rcases List.mem_append.mp hd with h | h
        · exact hlow d h
        · rw [List.mem_singleton.mp h]; exact abc_low c hc
      · rw [upd_same]; simp [signs]
      · have q := hs3
        obtain ⟨x, y, z, e, r⟩ := q
        refine ⟨x, y, z, ?_, r.1, r.2.1, r.2.2.1, r.2.2.2.1, by have := r.2.2.2.2; push_cast; omega⟩
        rw [upd_ne Da.symm]; exact e
      · intro b o hb e
        rw [upd_ne (fun q => by rw [q, hD] at e; cases e)]
        exact sb3 b o hb (sb2 b o hb e)
    · rintro H2 ⟨cs, hcl, hlow, hDl, hs2, sb2⟩
      refine ⟨_, Dl, signs cs, rfl, rfl, .inl (SqL.of hDl), ?_, ?_⟩
      · have e0 : ("" : Str).length = 0 := by decide +kernel
        rw [e0]
        have : ((signs cs).map (·.length)).sum = cs.length := by
          unfold signs
          clear hDl hcl hlow
          induction cs with
          | nil => rfl
          | cons c r ih => simp only [List.map_cons, List.sum_cons, ih, List.length_cons]; show 1 + r.length = r.length + 1; omega
        rw [this, hcl]; omega
      · refine hq _ _ ⟨?_, ?_⟩ (hs2.mono (by omega)) (sb1.trans sb2)
        · rw [len_toList, join_signs, hcl]; omega
        · intro c hc
          rw [join_signs] at hc
          exact hlow c hc
end
end Ts

set_option maxRecDepth 100000
set_option maxHeartbeats 4000000
namespace Ts
open PySem L2
/-! ### rows of trees -/
structure Row where
  nm : Str
  fo : Str
  ki : Str
  pr : Option Int
  deriving DecidableEq
def prV : Option Int → V
  | none => .non
  | some i => .int i
def rowVs (r : Row) : List V := [.str r.nm, .str r.fo, .str r.ki, prV r.pr]
structure RowsAt (H : Hp) (as : List Addr) (rs : List Row) : Prop where
  len : as.length = rs.length
  at_ : ∀ (i : Nat) (a : Addr) (r : Row), as[i]? = some a → rs[i]? = some r → H a = some (.tup (rowVs r))
theorem RowsAt.same {H H' : Hp} {as : List Addr} {rs : List Row} (h : RowsAt H as rs) (s : Same H H') : RowsAt H' as rs := ⟨h.len, fun i a r ha hr => s _ _ (h.at_ i a r ha hr)⟩
theorem RowsAt.sb {H H' : Hp} {as : List Addr} {rs : List Row} {p : Addr} {xs : List V} (h : RowsAt H as rs) (hp : H p = some (.lst xs)) (s : SB p H H') : RowsAt H' as rs :=
  ⟨h.len, fun i a r ha hr => s _ _ (fun q => by have e := h.at_ i a r ha hr; rw [q, hp] at e; cases e) (h.at_ i a r ha hr)⟩
theorem RowsAt.nil {H : Hp} : RowsAt H [] [] := ⟨rfl, fun i a r ha => by simp at ha⟩
theorem RowsAt.snoc {H : Hp} {as : List Addr} {rs : List Row} {a : Addr} {r : Row} (h : RowsAt H as rs) (ha : H a = some (.tup (rowVs r))) : RowsAt H (as ++ [a]) (rs ++ [r]) := by
  refine ⟨by simp [h.len], fun i b q hb hq => ?_⟩
  rcases Nat.lt_or_ge i as.length with hi | hi
  · rw [List.getElem?_append_left hi] at hb
    rw [List.getElem?_append_left (h.len ▸ hi)] at hq
    exact h.at_ i b q hb hq
  · rw [List.getElem?_append_right hi] at hb
    rw [List.getElem?_append_right (h.len ▸ hi)] at hq
    have e0 : i - as.length = 0 := by
      have := (List.getElem?_eq_some_iff.mp hb).1
      simp at this
      omega
    have e1 : i - rs.length = 0 := by rw [← h.len]; exact e0
    rw [e0] at hb
    rw [e1] at hq
    simp at hb hq
    subst hb; subst hq
    exact ha
def kinds3 : List Str := ["folder", "item", "shut"]
def PriceOk : Option Int → Prop
  | none => True
  | some i => 1 ≤ i
/-- what a row must be behind others -/
structure Fits (pre : List Row) (r : Row) : Prop where
  shape : NameShape r.nm
  top : r.nm ≠ ("top" : Str)
  new : r.nm ∉ pre.map (·.nm)
  home : r.fo = ("top" : Str) ∨ ∃ q ∈ pre, q.nm = r.fo ∧ q.ki = ("folder" : Str)
  kind : r.ki ∈ kinds3
  price : PriceOk r.pr
def Valid (rs : List Row) : Prop := ∀ i r, rs[i]? = some r → Fits (rs.take i) r
theorem Valid.nil : Valid [] := fun i r h => by simp at h
theorem Valid.snoc {rs : List Row} {r : Row} (h : Valid rs) (f : Fits rs r) : Valid (rs ++ [r]) := by
  intro i q hq
  rcases Nat.lt_or_ge i rs.length with hi | hi
  · rw [List.getElem?_append_left hi] at hq
    rw [List.take_append_of_le_length (Nat.le_of_lt hi)]
    exact h i q hq
  · rw [List.getElem?_append_right hi] at hq
    have e0 : i - rs.length = 0 := by
      have := (List.getElem?_eq_some_iff.mp hq).1
      simp at this
      omega
    rw [e0] at hq
    simp at hq
    subst hq
    have e : i = rs.length := by omega
    rw [e, List.take_append_of_le_length (Nat.le_refl _), List.take_length]
    exact f
/-! ### looking for texts in lists -/
theorem eqV_str (x y : Str) : eqV (.str x) (.str y) = decide (x = y) := by
  by_cases h : x = y
  · subst h
    simp [eqV]
  · simp [eqV, h]
theorem inV_strs (z : Str) : ∀ l : List Str, inV (.str z) (l.map V.str) = decide (z ∈ l)
  | [] => by simp [inV]
  | x :: l => by
    have ih := inV_strs z l
    unfold inV at ih ⊢
    rw [List.map_cons, List.any_cons, ih, eqV_str]
    by_cases h : x = z
    · subst h; simp
    · have h' : ¬ z = x := fun e => h e.symm
      simp [h, h']
theorem flat_strs (l : List Str) : (l.map V.str).all flatV = true := by
  rw [List.all_eq_true]
  intro v hv
  obtain ⟨z, _, rfl⟩ := List.mem_map.mp hv
  rfl
theorem low_cat {x y : Str} (hx : Low x) (hy : Low y) : Low (x ++ y) := by
  intro c hc
  have e : (x ++ y).cps.toList = x.cps.toList ++ y.cps.toList := by
    show (x.cps ++ y.cps).toList = _
    simp
  rw [e] at hc
  rcases List.mem_append.mp hc with h | h
  · exact hx c h
  · exact hy c h
theorem len_cat (x y : Str) : (x ++ y).length = x.length + y.length := by
  show (x.cps ++ y.cps).size = _
  simp [Str.length]
end Ts
namespace Ts
open PySem L2
/-! ### dicts by what they have -/
structure MemD (H : Hp) (d : Addr) (l : List Str) : Prop where
  ex : ∃ kv : List (Key × V), H d = some (.dK kv) ∧ (∀ z : Str, (valV kv (.inr z : Key)).isSome = decide (z ∈ l)) ∧ kv.length ≤ l.length
theorem MemD.same {H H' : Hp} {d : Addr} {l : List Str} (m : MemD H d l) (e : H' d = H d) : MemD H' d l := by
  obtain ⟨kv, h⟩ := m.ex
  exact ⟨kv, by rw [e]; exact h⟩
theorem putK_le (kv : List (Key × V)) (k : Key) (v : V) : (putK kv k v).length ≤ kv.length + 1 := by
  unfold putK
  split
  · rw [List.length_map]; exact Nat.le_succ _
  · rw [List.length_append, List.length_singleton]; exact Nat.le_refl _
theorem mem_put {kv : List (Key × V)} {l : List Str} (h : ∀ z : Str, (valV kv (.inr z : Key)).isSome = decide (z ∈ l)) (x : Str) (v : V) (z : Str) : (valV (putK kv (.inr x) v) (.inr z : Key)).isSome = decide (z ∈ l ++ [x]) := by
  rw [valV_put]
  by_cases e : z = x
  · subst e
    simp
  · have e' : ¬ (Sum.inr z : Key) = Sum.inr x := fun q => e (Sum.inr.inj q)
    rw [if_neg e', h z]
    simp [e]
theorem MemD.put {H : Hp} {d : Addr} {l : List Str} {kv : List (Key × V)} (hk : ∀ z : Str, (valV kv (.inr z : Key)).isSome = decide (z ∈ l)) (hl : kv.length ≤ l.length) (x : Str) (v : V) : MemD (upd H d (.dK (putK kv (.inr x) v))) d (l ++ [x]) :=
  ⟨_, upd_same, mem_put hk x v, by have := putK_le kv (.inr x) v; rw [List.length_append, List.length_singleton]; omega⟩
/-- rows as tuples or lists -/
structure SeqRows (H : Hp) (as : List Addr) (rs : List Row) : Prop where
  len : as.length = rs.length
  at_ : ∀ (i : Nat) (a : Addr) (r : Row), as[i]? = some a → rs[i]? = some r → H a = some (.tup (rowVs r)) ∨ H a = some (.lst (rowVs r))
theorem SeqRows.same {H H' : Hp} {as : List Addr} {rs : List Row} (h : SeqRows H as rs) (s : Same H H') : SeqRows H' as rs := ⟨h.len, fun i a r ha hr => (h.at_ i a r ha hr).imp (s _ _) (s _ _)⟩
theorem RowsAt.seq {H : Hp} {as : List Addr} {rs : List Row} (h : RowsAt H as rs) : SeqRows H as rs := ⟨h.len, fun i a r ha hr => .inl (h.at_ i a r ha hr)⟩
/-- what a row must be behind others, names and folders that stand already -/
structure FitsB (ns hs : List Str) (pre : List Row) (r : Row) : Prop where
  shape : NameShape r.nm
  top : r.nm ≠ ("top" : Str)
  new : r.nm ∉ ns ++ pre.map (·.nm)
  home : r.fo ∈ hs ++ (pre.filter fun q => decide (q.ki = ("folder" : Str))).map (·.nm)
  kind : r.ki ∈ kinds3
  price : PriceOk r.pr
theorem Fits.b {pre : List Row} {r : Row} (f : Fits pre r) : FitsB [] [("top" : Str)] pre r :=
  ⟨f.shape, f.top, by simpa using f.new, by
    rcases f.home with h | ⟨q, hq, h1, h2⟩
    · rw [h]; simp
    · refine List.mem_append.mpr (.inr (List.mem_map.mpr ⟨q, List.mem_filter.mpr ⟨hq, decide_eq_true h2⟩, h1⟩)), f.kind, f.price⟩
end Ts

set_option maxRecDepth 100000
set_option maxHeartbeats 4000000
namespace Ts
open PySem L2
def kindsL : List Str := ["folder", "folder", "item", "item", "item", "shut"]
def pricesL : List (Option Int) := [some 1, some 1, some 1, some 2, some 3, some 7, none]
def spKinds : Sp := fun vs H Q _ => vs = [] ∧ ∀ p, H p = none → Q (.ref p) (upd H p (.lst (kindsL.map V.str)))
def spPrices : Sp := fun vs H Q _ => vs = [] ∧ ∀ p, H p = none → Q (.ref p) (upd H p (.lst (pricesL.map prV)))
/-- the rows of a drawn tree: n mixed draws before, at most 13 more a row -/
def spRows (K : PySem.W.Frag) : Sp := fun vs H Q _ => ∃ (a kl pl : Addr) (many n : Int) (ks : List Str) (ps : List (Option Int)), vs = [.ref a, .int many, .ref kl, .ref pl] ∧ Stm H a n ∧ n ≤ 549755800000 ∧ 0 ≤ many ∧ many ≤ 40 ∧ kl ≠ a ∧ pl ≠ a ∧
  SqL K H kl (ks.map V.str) ∧ SqL K H pl (ps.map prV) ∧ 1 ≤ ks.length ∧ ks.length ≤ 1000 ∧ 1 ≤ ps.length ∧ ps.length ≤ 1000 ∧ (∀ k ∈ ks, k ∈ kinds3) ∧ (∀ q ∈ ps, PriceOk q) ∧
  ∀ (p : Addr) (as : List Addr) (rs : List Row) (H' : Hp), H p = none → p ≠ a → H' p = some (.lst (as.map V.ref)) → RowsAt H' as rs → Valid rs → (rs.length : Int) ≤ many → (∀ r ∈ rs, r.ki ∈ ks ∧ r.pr ∈ ps ∧ Drawn r.nm) → SB a H H' → Stm H' a (n + 13 * many) → Q (.ref p) H'
def folderNames (rs : List Row) : List Str := (rs.filter fun r => decide (r.ki = ("folder" : Str))).map (·.nm)
theorem top_len : ("top" : Str).length = 3 := by decide +kernel
theorem mem_cutV {xs : List V} {lo hi : Option Int} {v : V} (h : v ∈ cutV xs lo hi) : v ∈ xs := List.mem_of_mem_drop (List.mem_of_mem_take h)
theorem seq_ref {K : PySem.W.Frag} {H H' : Hp} {l : Addr} {xs : List V} (e : H' l = H l) (h : SqL K H l xs) : SqL K H' l xs := by
  rcases h with (h | ⟨o, h⟩) | h
  · exact .inl (.inl (by rw [e]; exact h))
  · exact .inl (.inr ⟨o, by rw [e]; exact h⟩)
  · exact .inr h
section
variable {P : Program} {w : World} {K : PySem.W.Frag} {mg : Str → Option Value} {base : Heap}
abbrev nRows : List Str := ["_law_stream_here", "_law_many", "_law_kinds_here", "_law_prices_here", "_law_rows_here", "_law_folders", "_law_names", "_law_k", "_law_name_here", "_law_kind", "_law_folder"]
/-- what stands between two turns -/
structure RowsI (a p fl nl : Addr) (H0 H : Hp) (ks : List Str) (ps : List (Option Int)) (m : Int) (i : Nat) (as : List Addr) (rs : List Row) : Prop where
  hp : H p = some (.lst (as.map V.ref))
  hf : H fl = some (.lst ((("top" : Str) :: folderNames rs).map V.str))
  hn : H nl = some (.lst ((("top" : Str) :: rs.map (·.nm)).map V.str))
  rows : RowsAt H as rs
  val : Valid rs
  len : rs.length ≤ i
  mem : ∀ r ∈ rs, r.ki ∈ ks ∧ r.pr ∈ ps ∧ Drawn r.nm
  sb : SB a H0 H
  st : Stm H a m
theorem RowsI.step {a p fl nl : Addr} {H0 H H' : Hp} {ks : List Str} {ps : List (Option Int)} {m m' : Int} {i j : Nat} {as : List Addr} {rs : List Row} (h : RowsI a p fl nl H0 H ks ps m i as rs) (np : p ≠ a) (nf : fl ≠ a) (nn : nl ≠ a) (s : SB a H H') (hs : Stm H' a m') (hj : i ≤ j) :
    RowsI a p fl nl H0 H' ks ps m' j as rs := by
  obtain ⟨x, y, z, e, _⟩ := id h.st
  exact ⟨s _ _ np h.hp, s _ _ nf h.hf, s _ _ nn h.hn, h.rows.sb e s, h.val, Nat.le_trans h.len hj, h.mem, h.sb.trans s, hs⟩
theorem sign_at {z : Str} (h : Low z) {r : Int} (h0 : 0 ≤ r) (h1 : r < (z.length : Int)) : ∃ c, z.cps[r.toNat]? = some c ∧ Low ⟨#[c]⟩ := by
  have hk : r.toNat < z.cps.size := by
    have : z.length = z.cps.size := rfl
    omega
  refine ⟨z.cps[r.toNat], Array.getElem?_eq_getElem hk, fun c hc => ?_⟩
  have e : c = z.cps[r.toNat] := by simpa using hc
  rw [e]
  exact h _ (by simp)
theorem low_q : Low ("q" : Str) := by unfold Low; decide +kernel
theorem low_aj : Low ("abcdefghij" : Str) := by unfold Low; decide +kernel
theorem low_kp : Low ("klmnop" : Str) := by unfold Low; decide +kernel
theorem len_q : ("q" : Str).length = 1 := by decide +kernel
theorem len_aj : ("abcdefghij" : Str).length = 10 := by decide +kernel
theorem len_kp : ("klmnop" : Str).length = 6 := by decide +kernel
theorem szl {n : Nat} (h : n ≤ 1000) : n ≤ sizeLine := Nat.le_of_lt (small1000 h)
theorem folders_le (rs : List Row) : (folderNames rs).length ≤ rs.length := by
  unfold folderNames
  rw [List.length_map]
  exact List.length_filter_le _ _
theorem mem_folders {rs : List Row} {z : Str} (h : z ∈ folderNames rs) : ∃ q ∈ rs, q.nm = z ∧ q.ki = ("folder" : Str) := by
  obtain ⟨q, hq, e⟩ := List.mem_map.mp h
  obtain ⟨h1, h2⟩ := List.mem_filter.mp hq
  exact ⟨q, h1, e, of_decide_eq_true h2⟩
theorem folders_snoc (rs : List Row) (r : Row) : folderNames (rs ++ [r]) = folderNames rs ++ (if r.ki = ("folder" : Str) then [r.nm] else []) := by
  unfold folderNames
  rw [List.filter_append, List.map_append]
  by_cases h : r.ki = ("folder" : Str)
  · rw [if_pos h]; simp [h]
  · rw [if_neg h]; simp [h]
end
end Ts

set_option maxRecDepth 100000
set_option maxHeartbeats 4000000
namespace Ts
open PySem L2
theorem abc_uni : ∀ c ∈ List.range' 97 26, Unicode.isAlpha c = true ∧ Unicode.isLower c = true ∧ Unicode.isUpper c = false ∧ Unicode.isTitle c = false := by decide +kernel
theorem uni {c : Nat} (h : 97 ≤ c ∧ c ≤ 122) : Unicode.isAlpha c = true ∧ Unicode.isLower c = true ∧ Unicode.isUpper c = false ∧ Unicode.isTitle c = false :=
  abc_uni c (List.mem_range'_1.mpr ⟨h.1, by omega⟩)
theorem low_ascii {z : Str} (h : Low z) : Txt.isascii z = true := by
  unfold Txt.isascii
  rw [← Array.all_toList, List.all_eq_true]
  intro c hc
  have := h c hc
  simp; omega
theorem low_alpha {z : Str} (h : Low z) (h1 : 1 ≤ z.length) : Txt.isalpha z = true := by
  unfold Txt.isalpha
  rw [← Array.all_toList, Bool.and_eq_true, List.all_eq_true]
  exact ⟨decide_eq_true (by omega), fun c hc => (uni (h c hc)).1⟩
theorem low_lower {z : Str} (h : Low z) (h1 : 1 ≤ z.length) : Txt.islower z = true := by
  unfold Txt.islower
  rw [← Array.any_toList, ← Array.any_toList, Bool.and_eq_true]
  refine ⟨?_, ?_⟩
  · rw [List.any_eq_true]
    have hl : 0 < z.cps.toList.length := by rw [← len_toList]; omega
    exact ⟨z.cps.toList[0], List.getElem_mem hl, (uni (h _ (List.getElem_mem hl))).2.1⟩
  · rw [Bool.not_eq_true', List.any_eq_false]
    intro c hc
    have := uni (h c hc)
    simp [this.2.2.1, this.2.2.2]
theorem NameShape.pos {z : Str} (h : NameShape z) : 1 ≤ z.length ∧ z.length ≤ 8 := by have := h.1; omega
structure TxC (K : PySem.W.Frag) (mg : Str → Option Value) where
  top : ∃ t, mg "TOP" = some (.str "top" t)
  folder : ∃ t, mg "FOLDER" = some (.str "folder" t)
  long : ∃ t, mg "LONGEST_NAME" = some (.int 8 t)
  kindsA : Addr
  kinds : mg "KINDS" = some (.ref kindsA)
  num : DefAt K mg "is_number" s_is_number ["thing", "least"]
  kindsT : ∃ (o : Obj) (its : Array Value) (n : Nat), K.lookup kindsA = some o ∧ o.cls = .type "tuple" ∧ o.data = .seq its n ∧ its.size ≤ sizeLine ∧ Vals (kinds3.map V.str) its.toList
def spIsName : Sp := fun vs H Q _ => ∃ z, vs = [.str z] ∧ NameShape z ∧ z ≠ ("top" : Str) ∧ Q (.bl true) H
def spIsNumber : Sp := fun vs H Q _ => ∃ i n : Int, vs = [.int i, .int n] ∧ Q (.bl (decide (n ≤ i))) H
def spIsPrice : Sp := fun vs H Q _ => ∃ o, vs = [prV o] ∧ PriceOk o ∧ Q (.bl true) H
section
variable {P : Program} {w : World} {K : PySem.W.Frag} {mg : Str → Option Value} {base : Heap}
theorem sc_is_name : FnScope ["thing"] ["thing"] (defScope s_is_name) := ⟨rfl, rfl, rfl, by decide +kernel, rfl, by decide +kernel, by decide +kernel⟩
theorem ok_is_name (D : DefAt K mg "is_name" s_is_name ["thing"]) (B : TxB mg) (C : TxC K mg) : FnOk P w K mg base CX0 2 D.f D.fd ["thing"] spIsName := by
  obtain ⟨t1, gT⟩ := C.top
  obtain ⟨t2, gL⟩ := C.long
  refine D.F.ok sc_is_name (fun vs H Q E h => ?_) (fun cdv A outer s H vs Q E hr h => ?_)
  · obtain ⟨z, rfl, _⟩ := h
    rfl
  · obtain ⟨z, rfl, hz, ht, hq⟩ := h
    refine ⟨_, pss_cons (ps_if (PW.pt (pw_or (pt_not (pt_val (pe_callB call_isi (by rfl) B.isinstance (by decide +kernel) (pa_cons (pv 0) (pa_cons (pe_bltn (by rfl) B.str (by decide +kernel) (v := .ty "str") rfl) pa_nil)))))
        (pw_or (pt_cmpR op_eq (pv 0) (pe_glob (by rfl) gT (v := .str ("top" : Str)) ⟨_, rfl⟩) (nomark _)) (pw_or1 (pt_cmpR op_gt (pe_callB call_len (by rfl) B.len PySem.boot_len (pa_cons (pv 0) pa_nil)) (pe_glob (by rfl) gL (v := .int 8) ⟨_, rfl⟩) (nomark _)))))) (pss_one (ps_ret pe_bl)) pss_nil)
      (pss_one (ps_ret (pe_and (pe_m0 PySem.F.slot_str_isascii PySem.F.type_str_isascii mt_isascii (pv 0)) (pe_and (pe_m0 PySem.F.slot_str_isalpha PySem.F.type_str_isalpha mt_isalpha (pv 0)) (pe_one (pe_m0 PySem.F.slot_str_islower PySem.F.type_str_islower mt_islower (pv 0))))))), ?_⟩
    have hp := hz.pos
    refine ⟨_, rfl, _, _, _, _, true, rfl, .ty "str", .base (.str z), kit_ty (by decide +kernel), _, rfl, iteF ?_⟩
    refine ⟨_, rfl, rfl, _, rfl, ?_⟩
    rw [decide_eq_false (fun q => ht (V.str.inj q))]
    refine iteF ?_
    refine ⟨_, rfl, _, z.length, rfl, ⟨szl (by omega), rfl⟩, _, _, rfl, rfl, _, rfl, ?_⟩
    rw [decide_eq_false (by omega)]
    refine iteF ?_
    refine ⟨_, rfl, ⟨_, rfl⟩, _, rfl, rfl, trivial, _, rfl, ?_⟩
    rw [low_ascii hz.2]
    refine iteT ⟨_, rfl, ⟨_, rfl⟩, _, rfl, rfl, trivial, _, rfl, ?_⟩
    rw [low_alpha hz.2 hp.1]
    refine iteT ⟨_, rfl, ⟨_, rfl⟩, _, rfl, rfl, trivial, ?_⟩
    rw [low_lower hz.2 hp.1]
    exact hq
theorem sc_is_number : FnScope ["thing", "least"] ["thing", "least"] (defScope s_is_number) := ⟨rfl, rfl, rfl, by decide +kernel, rfl, by decide +kernel, by decide +kernel⟩
theorem ok_is_number (D : DefAt K mg "is_number" s_is_number ["thing", "least"]) (B : TxB mg) : FnOk P w K mg base CX0 1 D.f D.fd ["thing", "least"] spIsNumber := by
  refine D.F.ok sc_is_number (fun vs H Q E h => ?_) (fun cdv A outer s H vs Q E hr h => ?_)
  · obtain ⟨z, n, rfl, _⟩ := h
    rfl
  · obtain ⟨i, n, rfl, hq⟩ := h
    refine ⟨_, (pss_one (ps_ret (pe_and (pe_callB call_isi (by rfl) B.isinstance (by decide +kernel) (pa_cons (pv 0) (pa_cons (pe_bltn (by rfl) B.int (by decide +kernel) (v := .ty "int") rfl) pa_nil)))
        (pe_and (pe_not (pe_callB call_isi (by rfl) B.isinstance (by decide +kernel) (pa_cons (pv 0) (pa_cons (pe_bltn (by rfl) B.bool (by decide +kernel) (v := .ty "bool") rfl) pa_nil)))) (pe_one (pe_cmpR op_ge (pv 0) (pv 1) (nomark _))))))), ?_⟩
    refine ⟨_, rfl, _, _, _, _, true, rfl, .ty "int", .base (.int i), kit_ty (by decide +kernel), _, rfl, iteT ?_⟩
    refine ⟨_, rfl, _, _, _, _, false, rfl, .ty "bool", .base (.int i), kit_ty (by decide +kernel), _, rfl, _, rfl, iteT ?_⟩
    exact ⟨_, rfl, _, rfl, _, _, rfl, rfl, hq⟩
theorem sc_is_price : FnScope ["thing"] ["thing"] (defScope s_is_price) := ⟨rfl, rfl, rfl, by decide +kernel, rfl, by decide +kernel, by decide +kernel⟩
theorem ok_is_price (D : DefAt K mg "is_price" s_is_price ["thing"]) (B : TxB mg) (C : TxC K mg) : FnOk P w K mg base CX0 2 D.f D.fd ["thing"] spIsPrice := by
  have Gn : FnOk P w K mg base CX0 1 C.num.f C.num.fd ["thing", "least"] spIsNumber := ok_is_number C.num B
  refine D.F.ok sc_is_price (fun vs H Q E h => ?_) (fun cdv A outer s H vs Q E hr h => ?_)
  · obtain ⟨z, rfl, _⟩ := h
    rfl
  · obtain ⟨o, rfl, ho, hq⟩ := h
    refine ⟨_, (pss_one (ps_ret (pe_or (pe_cmpR op_isN (pv 0) pe_non (nomark _)) (pe_one (pe_call Gn hr rfl C.num.g C.num.F.kp C.num.b .nil pass0 (pa_cons (pv 0) (pa_cons pe_int pa_nil))))))), ?_⟩
    cases o with
    | none =>
      refine ⟨_, rfl, rfl, _, rfl, ?_⟩
      exact iteT hq
    | some i =>
      refine ⟨_, rfl, rfl, _, rfl, ?_⟩
      refine iteF ⟨_, rfl, i, 1, rfl, ?_⟩
      have hi : 1 ≤ i := ho
      rw [decide_eq_true hi]
      exact hq
end
end Ts

set_option maxRecDepth 100000
set_option maxHeartbeats 4000000
namespace Ts
open PySem L2
theorem kit_seqL {K : PySem.W.Frag} : PySem.W.kitAny K (.type "list") [.type "list", .type "tuple"] = some true := kitAny_cons (b := true) (kit_ty (by decide +kernel)) (fun e => nomatch e) fun _ => rfl
theorem kit_seqT {K : PySem.W.Frag} : PySem.W.kitAny K (.type "tuple") [.type "list", .type "tuple"] = some true := kitAny_cons (b := false) (kit_ty (by decide +kernel)) (fun _ => kitAny_cons (b := true) (kit_ty (by decide +kernel)) (fun e => nomatch e) fun _ => rfl) fun e => nomatch e
/-- a list or a tuple, made at run time -/
def Seq (H : Hp) (a : Addr) (xs : List V) : Prop := H a = some (.tup xs) ∨ H a = some (.lst xs)
theorem Seq.same {H H' : Hp} {a : Addr} {xs : List V} (h : Seq H a xs) (s : Same H H') : Seq H' a xs := h.imp (s _ _) (s _ _)
theorem Seq.ty {K : PySem.W.Frag} {H : Hp} {a : Addr} {xs : List V} (h : Seq H a xs) : ∃ t, TyX K H (.ref a) t ∧ PySem.W.kitAny K t [.type "list", .type "tuple"] = some true := by
  rcases h with h | h
  · exact ⟨_, .base (.tup h), kit_seqT⟩
  · exact ⟨_, .base (.lst h), kit_seqL⟩
theorem Seq.or {K : PySem.W.Frag} {H : Hp} {a : Addr} {xs : List V} (h : Seq H a xs) : SqL K H a xs ∨ SqT K H a xs := by
  rcases h with h | h
  · exact .inr (.inl (.inl h))
  · exact .inl (SqL.of h)
theorem sqT {K : PySem.W.Frag} {H : Hp} {a : Addr} {xs : List V} (h : H a = some (.tup xs)) : SqT K H a xs := .inl (.inl h)
/-- enumerate(x), x a list or a tuple in slot i -/
def iEnumS (i : Nat) : TI := fun σ H R => ∃ (a : Addr) (xs : List V), σ[i]? = some (some (.ref a)) ∧ Seq H a xs ∧ ∀ J, Walk J xs.length (fun H' => H' a = H a) (YPair (fun j => some (.int (j : Nat))) (fun j => xs[j]?)) → R J H
theorem pi_enumS {X : Cx} {x : Str} {px : Pos} {i : Nat} {p pos tpos : Pos} {elts : List Expr} {kk : Nat} (hg : Gl X "enumerate") (hm : X.mg "enumerate" = none) (he : PE X (.Name x px) (tVar i)) :
    PI X (.Tuple elts kk tpos) (.Call (.Name "enumerate" p) [.Name x px] [] pos) (iEnumS i) := by
  refine ⟨fun pins s σ H R I h => ?_⟩
  obtain ⟨a, xs, e1, hq, k⟩ := h
  rcases hq with hq | hq
  · exact (pi_enumT hg hm (pa_cons he pa_nil)).run pins s σ H R I ⟨_, e1, a, xs, rfl, sqT hq, k _ (walk_enumT.mono (fun H' e => sqT (e.trans hq)) fun _ _ _ _ _ _ y => y)⟩
  · exact (pi_enum hg hm (pa_cons he pa_nil)).run pins s σ H R I ⟨_, e1, a, xs, rfl, SqL.of hq, k _ (walk_enum.mono (fun H' e => SqL.of (e.trans hq)) fun _ _ _ _ _ _ y => y)⟩
/-- x itself, a list or a tuple in slot i -/
def iSeqS (i : Nat) : TI := fun σ H R => ∃ (a : Addr) (xs : List V), σ[i]? = some (some (.ref a)) ∧ Seq H a xs ∧ ∀ J, Walk J xs.length (fun H' => H' a = H a) (YAt xs) → R J H
theorem pi_seqS {X : Cx} {e tg : Expr} {i : Nat} (he : PE X e (tVar i)) : PI X tg e (iSeqS i) := by
  refine ⟨fun pins s σ H R I h => ?_⟩
  obtain ⟨a, xs, e1, hq, k⟩ := h
  rcases hq with hq | hq
  · exact (pi_tup he).run pins s σ H R I ⟨_, e1, a, rfl, ⟨_, sqT hq⟩, k _ (walk_tup.mono (fun H' e => sqT (e.trans hq)) fun _ _ _ _ _ _ y => y)⟩
  · exact (pi_list he).run pins s σ H R I ⟨_, e1, a, rfl, ⟨_, SqL.of hq⟩, k _ (walk_list.mono (fun H' e => SqL.of (e.trans hq)) fun _ _ _ _ _ _ y => y)⟩
theorem take_more {α : Type} : ∀ {l : List α} {i : Nat} {x : α}, l[i]? = some x → l.take (i + 1) = l.take i ++ [x]
  | [], i, x, h => by simp at h
  | a :: l, 0, x, h => by
    have e : a = x := Option.some.inj h
    subst e
    rfl
  | a :: l, i + 1, x, h => by
    have ih := take_more (l := l) (i := i) (x := x) (by simpa using h)
    rw [List.take_succ_cons, ih]
    rfl
theorem fold_take {rs : List Row} {i : Nat} {r : Row} (h : rs[i]? = some r) : folderNames (rs.take (i + 1)) = folderNames (rs.take i) ++ (if r.ki = ("folder" : Str) then [r.nm] else []) := by
  rw [take_more h, folders_snoc]
def spIsRow : Sp := fun vs H Q _ => ∃ (a d1 d2 : Addr) (r : Row) (kv1 kv2 : List (Key × V)), vs = [.ref a, .ref d1, .ref d2] ∧ Seq H a (rowVs r) ∧ H d1 = some (.dK kv1) ∧ valV kv1 (.inr r.nm : Key) = none ∧ H d2 = some (.dK kv2) ∧ (valV kv2 (.inr r.fo : Key)).isSome = true ∧
  NameShape r.nm ∧ r.nm ≠ ("top" : Str) ∧ r.ki ∈ kinds3 ∧ PriceOk r.pr ∧ ∀ H', Same H H' → Q (.bl true) H'
def spCheckRows (K : PySem.W.Frag) : Sp := fun vs H Q _ => ∃ (rw nm fo : Addr) (ns hs : List Str) (as : List Addr) (rs : List Row), vs = [.ref rw, .ref nm, .ref fo] ∧ Seq H rw (as.map V.ref) ∧ SeqRows H as rs ∧ SqT K H nm (ns.map V.str) ∧ SqT K H fo (hs.map V.str) ∧ rs.length ≤ 100 ∧ ns.length ≤ 100 ∧ hs.length ≤ 100 ∧
  (∀ i r, rs[i]? = some r → FitsB ns hs (rs.take i) r) ∧ ∀ H', Same H H' → Q .non H'
section
variable {P : Program} {w : World} {K : PySem.W.Frag} {mg : Str → Option Value} {base : Heap}
abbrev nIsRow : List Str := ["thing", "taken", "homes", "name", "folder", "kind", "price"]
theorem sc_is_row : FnScope nIsRow ["thing", "taken", "homes"] (defScope s_is_row) := ⟨rfl, rfl, rfl, by decide +kernel, rfl, by decide +kernel, by decide +kernel⟩
theorem ok_is_row (D : DefAt K mg "is_row" s_is_row ["thing", "taken", "homes"]) (Dn : DefAt K mg "is_name" s_is_name ["thing"]) (Dp : DefAt K mg "is_price" s_is_price ["thing"]) (B : TxB mg) (C : TxC K mg) : FnOk P w K mg base CX0 3 D.f D.fd ["thing", "taken", "homes"] spIsRow := by
  have Gn : FnOk P w K mg base CX0 2 Dn.f Dn.fd ["thing"] spIsName := ok_is_name Dn B C
  have Gp : FnOk P w K mg base CX0 2 Dp.f Dp.fd ["thing"] spIsPrice := ok_is_price Dp B C
  refine D.F.ok sc_is_row (fun vs H Q E h => ?_) (fun cdv A outer s H vs Q E hr h => ?_)
  · obtain ⟨a, d1, d2, r, kv1, kv2, rfl, _⟩ := h
    rfl
  · obtain ⟨a, d1, d2, r, kv1, kv2, rfl, ha, h1, v1, h2, v2, hn, ht, hk, hp, hq⟩ := h
    have hu := hu_of hr
    refine ⟨_, pss_cons (ps_if (PW.pt (pw_or (pt_not (pt_val (pe_callB call_isiT (by rfl) B.isinstance (by decide +kernel) (pa_cons (pv 0) (pa_cons (pe_tup (pa_cons (pe_bltn (by rfl) B.list (by decide +kernel) (v := .ty "list") rfl) (pa_cons (pe_bltn (by rfl) B.tuple (by decide +kernel) (v := .ty "tuple") rfl) pa_nil))) pa_nil)))))
        (pw_or1 (pt_cmpR op_ne (pe_callB call_len_seq (by rfl) B.len PySem.boot_len (pa_cons (pv 0) pa_nil)) pe_int (nomark _))))) (pss_one (ps_ret pe_bl)) pss_nil)
      (C8.pss_cut (ps_asg (pv 0) (pg_or (pg_tup rfl (pgs_cons (pg_name (i := 3) sc_is_row.nd rfl (.inl rfl)) (pgs_cons (pg_name (i := 4) sc_is_row.nd rfl (.inl rfl)) (pgs_cons (pg_name (i := 5) sc_is_row.nd rfl (.inl rfl)) (pgs_cons (pg_name (i := 6) sc_is_row.nd rfl (.inl rfl)) pgs_nil)))))
          (pg_unl rfl (pgs_cons (pg_name (i := 3) sc_is_row.nd rfl (.inl rfl)) (pgs_cons (pg_name (i := 4) sc_is_row.nd rfl (.inl rfl)) (pgs_cons (pg_name (i := 5) sc_is_row.nd rfl (.inl rfl)) (pgs_cons (pg_name (i := 6) sc_is_row.nd rfl (.inl rfl)) pgs_nil)))))))
      (pss_cons (ps_if (PW.pt (pw_or (pt_not (pt_val (pe_call Gn hr rfl Dn.g Dn.F.kp Dn.b .nil pass0 (pa_cons (pv 3) pa_nil)))) (pw_or1 (pt_cmp (pc_din hu (pv 3) (pv 1)))))) (pss_one (ps_ret pe_bl)) pss_nil)
      (pss_cons (ps_if (PW.pt (pw_or (pt_not (pt_val (pe_callB call_isi (by rfl) B.isinstance (by decide +kernel) (pa_cons (pv 4) (pa_cons (pe_bltn (by rfl) B.str (by decide +kernel) (v := .ty "str") rfl) pa_nil))))) (pw_or1 (pt_cmp (pc_dnotin hu (pv 4) (pv 2)))))) (pss_one (ps_ret pe_bl)) pss_nil)
      (pss_one (ps_ret (pe_and (pe_cmpR op_in_seq (pv 5) (pe_glob (by rfl) C.kinds (v := .ref C.kindsA) rfl) (by rfl)) (pe_one (pe_call Gp hr rfl Dp.g Dp.F.kp Dp.b .nil pass0 (pa_cons (pv 6) pa_nil)))))))))
      , ?_⟩
    refine ⟨_, rfl, (by show 2 ≤ sizeLine; decide), fun tp htp => ?_⟩
    have s1 : Same H (upd H tp (.tup [.ty "list", .ty "tuple"])) := Same.new htp
    obtain ⟨t, ty, kk⟩ := (ha.same s1).ty (K := K)
    refine ⟨_, tp, _, t, _, true, rfl, upd_same, .cons (.ty "list") (.cons (.ty "tuple") .nil), ty, kk, _, rfl, iteF ?_⟩
    refine ⟨_, rfl, a, _, rfl, (ha.same s1).or, rfl, _, rfl, ?_⟩
    refine iteF ?_
    have un : SqT K (upd H tp (.tup [.ty "list", .ty "tuple"])) a (rowVs r) ∨ SqL K (upd H tp (.tup [.ty "list", .ty "tuple"])) a (rowVs r) := (ha.same s1).or.symm
    refine ⟨fun σ' H' => σ' = [some (.ref a), some (.ref d1), some (.ref d2), some (.str r.nm), some (.str r.fo), some (.str r.ki), some (prV r.pr)] ∧ H' = upd H tp (.tup [.ty "list", .ty "tuple"]), ?_, ?_⟩
    · refine ⟨_, rfl, ?_⟩
      rcases un with un | un
      · exact .inl ⟨a, _, rfl, un, rfl, _, _, rfl, _, _, rfl, _, _, rfl, _, _, rfl, rfl, rfl, rfl⟩
      · exact .inr ⟨a, _, rfl, un, rfl, _, _, rfl, _, _, rfl, _, _, rfl, _, _, rfl, rfl, rfl, rfl⟩
    rintro σ' H' ⟨rfl, rfl⟩
    refine ⟨_, rfl, r.nm, rfl, hn, ht, _, rfl, iteF ?_⟩
    refine ⟨_, rfl, _, rfl, d1, _, rfl, DGet.k (k := Sum.inr r.nm) (s1 _ _ h1), _, rfl, ?_⟩
    rw [v1]
    refine iteF ?_
    refine ⟨_, rfl, _, _, _, _, true, rfl, .ty "str", .base (.str r.fo), kit_ty (by decide +kernel), _, rfl, iteF ?_⟩
    refine ⟨_, rfl, _, rfl, d2, _, rfl, DGet.k (k := Sum.inr r.fo) (s1 _ _ h2), _, rfl, ?_⟩
    rw [v2]
    refine iteF ?_
    refine ⟨_, rfl, C.kindsA, _, rfl, .inr (.inr C.kindsT), rfl, flat_strs _, _, rfl, ?_⟩
    have e : (if false = true then !inV (.str r.ki) (kinds3.map V.str) else inV (.str r.ki) (kinds3.map V.str)) = true := by
      rw [if_neg Bool.false_ne_true, inV_strs]
      exact decide_eq_true hk
    rw [e]
    exact iteT ⟨_, rfl, r.pr, rfl, hp, hq _ s1⟩
abbrev nCheckRows : List Str := ["rows", "names", "folders", "taken", "homes", "index", "row", "name", "folder", "kind", "price"]
theorem sc_check_rows : FnScope nCheckRows ["rows", "names", "folders"] (defScope s_check_rows) := ⟨rfl, rfl, rfl, by decide +kernel, rfl, by decide +kernel, by decide +kernel⟩
theorem ok_check_rows (D : DefAt K mg "check_rows" s_check_rows ["rows", "names", "folders"]) (Dr : DefAt K mg "is_row" s_is_row ["thing", "taken", "homes"]) (Dn : DefAt K mg "is_name" s_is_name ["thing"]) (Dp : DefAt K mg "is_price" s_is_price ["thing"]) (B : TxB mg) (C : TxC K mg) :
    FnOk P w K mg base CX0 4 D.f D.fd ["rows", "names", "folders"] (spCheckRows K) := by
  have Gr : FnOk P w K mg base CX0 3 Dr.f Dr.fd ["thing", "taken", "homes"] spIsRow := ok_is_row Dr Dn Dp B C
  obtain ⟨t1, gF⟩ := C.folder
  refine D.F.ok sc_check_rows (fun vs H Q E h => ?_) (fun cdv A outer s H vs Q E hr h => ?_)
  · obtain ⟨rw, nm, fo, ns, hs, as, rs, rfl, _⟩ := h
    rfl
  · obtain ⟨rw, nm, fo, ns, hs, as, rs, rfl, hrw, hrows, hnm, hfo, hl, hln, hlh, hfit, hq⟩ := h
    have hu := hu_of hr
    refine ⟨_, pss_cons (ps_if (pt_not (pt_val (pe_callB call_isiT (by rfl) B.isinstance (by decide +kernel) (pa_cons (pv 0) (pa_cons (pe_tup (pa_cons (pe_bltn (by rfl) B.list (by decide +kernel) (v := .ty "list") rfl) (pa_cons (pe_bltn (by rfl) B.tuple (by decide +kernel) (v := .ty "tuple") rfl) pa_nil))) pa_nil))))) (pss_one ps_never) pss_nil)
      (pss_cons (ps_setDc (i := 3) (own := [("name", 7)]) (g := gName 7) (tt := tYes) rfl sc_check_rows.nd rfl rfl (swd_true rfl rfl rfl (by decide +kernel)) (pi_tup (pv 1)) (blkOk_by (N := nCheckRows) (sc := defScope s_check_rows) (by decide +kernel))
        (fun _ _ _ _ _ => pg_name (i := 7) sc_check_rows.nd rfl (Or.inl rfl)) (fun _ _ _ _ _ => pts_nil) (fun _ _ _ _ _ => pv 7) (fun _ _ _ _ _ => pe_bl))
      (pss_cons (ps_setDc (i := 4) (own := [("folder", 8)]) (g := gName 8) (tt := tYes) rfl sc_check_rows.nd rfl rfl (swd_true rfl rfl rfl (by decide +kernel)) (pi_tup (pv 2)) (blkOk_by (N := nCheckRows) (sc := defScope s_check_rows) (by decide +kernel))
        (fun _ _ _ _ _ => pg_name (i := 8) sc_check_rows.nd rfl (Or.inl rfl)) (fun _ _ _ _ _ => pts_nil) (fun _ _ _ _ _ => pv 8) (fun _ _ _ _ _ => pe_bl))
      (pss_one (ps_for PassesOwn.never rfl (pi_enumS (by rfl) B.enumerate (pv 0)) (pg_tup rfl (pgs_cons (pg_name (i := 5) sc_check_rows.nd rfl (.inl rfl)) (pgs_cons (pg_name (i := 6) sc_check_rows.nd rfl (.inl rfl)) pgs_nil)))
        (pss_cons (ps_if (pt_not (pt_val (pe_call Gr hr rfl Dr.g Dr.F.kp Dr.b .nil pass0 (pa_cons (pv 6) (pa_cons (pv 3) (pa_cons (pv 4) pa_nil)))))) (pss_one ps_never) pss_nil)
        (C8.pss_cut (ps_asg (pv 6) (pg_or (pg_tup rfl (pgs_cons (pg_name (i := 7) sc_check_rows.nd rfl (.inl rfl)) (pgs_cons (pg_name (i := 8) sc_check_rows.nd rfl (.inl rfl)) (pgs_cons (pg_name (i := 9) sc_check_rows.nd rfl (.inl rfl)) (pgs_cons (pg_name (i := 10) sc_check_rows.nd rfl (.inl rfl)) pgs_nil)))))
          (pg_unl rfl (pgs_cons (pg_name (i := 7) sc_check_rows.nd rfl (.inl rfl)) (pgs_cons (pg_name (i := 8) sc_check_rows.nd rfl (.inl rfl)) (pgs_cons (pg_name (i := 9) sc_check_rows.nd rfl (.inl rfl)) (pgs_cons (pg_name (i := 10) sc_check_rows.nd rfl (.inl rfl)) pgs_nil)))))))
        (pss_cons (ps_dput hu (pv 3) (pv 7) pe_bl rfl)
        (pss_one (ps_if (pt_cmpR op_eq (pv 9) (pe_glob (by rfl) gF (v := .str ("folder" : Str)) ⟨_, rfl⟩) (nomark _)) (pss_one (ps_dput hu (pv 4) (pv 7) pe_bl rfl)) pss_nil)))))))))
      , ?_⟩
    refine ⟨_, rfl, (by show 2 ≤ sizeLine; decide), fun tp htp => ?_⟩
    have s1 : Same H (upd H tp (.tup [.ty "list", .ty "tuple"])) := Same.new htp
    obtain ⟨t, ty, kk⟩ := (hrw.same s1).ty (K := K)
    refine ⟨_, tp, _, t, _, true, rfl, upd_same, .cons (.ty "list") (.cons (.ty "tuple") .nil), ty, kk, _, rfl, iteF ?_⟩
    generalize upd H tp (.tup [.ty "list", .ty "tuple"]) = H1 at s1 ty
    have dict : ∀ (l : List Str) (td : Addr) (H1 H' : Hp) (i : Nat) (x : V), (l.map V.str)[i]? = some x → MemD H' td (l.take i) → ∃ (z : Str) (kv : List (Key × V)), x = .str z ∧ l[i]? = some z ∧ H' td = some (.dK kv) ∧ (∀ z : Str, (valV kv (.inr z : Key)).isSome = decide (z ∈ l.take i)) ∧ kv.length ≤ (l.take i).length := by
      intro l td H1 H' i x hx m
      rw [List.getElem?_map] at hx
      obtain ⟨z, hz, rfl⟩ := Option.map_eq_some_iff.mp hx
      obtain ⟨kv, e1, e2, e3⟩ := m.ex
      exact ⟨z, kv, rfl, hz, e1, e2, e3⟩
    refine ⟨_, rfl, nm, rfl, ⟨_, hnm.ext s1⟩, fun td htd => ?_⟩
    refine dc_tup (K := K) (a := nm) (xs := ns.map V.str) (fun i H' => Same H1 H' ∧ MemD H' td (ns.take i)) ⟨Same.new htd, [], upd_same, fun z => rfl, Nat.le_refl _⟩ (fun i H' _ m => hnm.ext (s1.trans m.1)) ?_ ?_
    · rintro i x H' hx ⟨sm, m⟩
      obtain ⟨z, kv, rfl, hz, e1, e2, e3⟩ := dict ns td H1 H' i x hx m
      refine ⟨rfl, tYes_if ⟨_, rfl, kv, .inr z, rfl, e1, small1000 (by rw [List.length_take] at e3; omega), fun b o e => ?_, ?_⟩⟩
      · rw [upd_ne (fun q => by rw [q, htd] at e; cases e)]
        exact sm b o e
      · rw [take_more hz]
        exact MemD.put e2 e3 z _
    · rintro H2 ⟨sm, m⟩
      rw [List.length_map, List.take_length] at m
      have s2 := s1.trans sm
      refine ⟨_, rfl, fo, rfl, ⟨_, hfo.ext s2⟩, fun hd hhd => ?_⟩
      have nth : td ≠ hd := by obtain ⟨kv, e1, _⟩ := m.ex; exact ne_of_none e1 hhd
      refine dc_tup (K := K) (a := fo) (xs := hs.map V.str) (fun i H' => Same H2 H' ∧ MemD H' hd (hs.take i)) ⟨Same.new hhd, [], upd_same, fun z => rfl, Nat.le_refl _⟩ (fun i H' _ m => hfo.ext (s2.trans m.1)) ?_ ?_
      · rintro i x H' hx ⟨sm, m⟩
        obtain ⟨z, kv, rfl, hz, e1, e2, e3⟩ := dict hs hd H2 H' i x hx m
        refine ⟨rfl, tYes_if ⟨_, rfl, kv, .inr z, rfl, e1, small1000 (by rw [List.length_take] at e3; omega), fun b o e => ?_, ?_⟩⟩
        · rw [upd_ne (fun q => by rw [q, hhd] at e; cases e)]
          exact sm b o e
        · rw [take_more hz]
          exact MemD.put e2 e3 z _
      · rintro H3 ⟨sm3, m3⟩
        rw [List.length_map, List.take_length] at m3
        have s3 := s2.trans sm3
        have mt : MemD H3 td ns := by
          obtain ⟨kv, e1, e⟩ := m.ex
          exact ⟨kv, sm3 _ _ e1, e⟩
        have ftd : H td = none := s1.free htd
        have fhd : H hd = none := s2.free hhd
        refine ⟨rw, _, rfl, hrw.same s3, fun J W => ?_⟩
        refine for_it W (fun i σ H' => ∃ (v5 v6 v7 v8 v9 v10 : Option V), σ = [some (.ref rw), some (.ref nm), some (.ref fo), some (.ref td), some (.ref hd), v5, v6, v7, v8, v9, v10] ∧ Same H H' ∧ H' rw = H3 rw ∧ MemD H' td (ns ++ (rs.take i).map (·.nm)) ∧ MemD H' hd (hs ++ folderNames (rs.take i))) ⟨none, none, none, none, none, none, rfl, s3, rfl, by simpa using mt, by simpa [folderNames] using m3⟩ (fun i σ H' _ ⟨_, _, _, _, _, _, _, _, e, _⟩ => e) ?_ ?_
        · rintro i x σ H4 H5 hi ⟨v5, v6, v7, v8, v9, v10, rfl, s4, e4, mt, mh⟩ ⟨T, xi, xr, rfl, hT, rfl, exi, exr⟩
          rw [List.length_map] at hi
          have exr' : (as.map V.ref)[i]? = some xr := exr
          rw [List.getElem?_map] at exr'
          obtain ⟨ra, hra, rfl⟩ := Option.map_eq_some_iff.mp exr'
          obtain ⟨r, hr'⟩ : ∃ r, rs[i]? = some r := ⟨rs[i]'(by rw [← hrows.len]; exact hi), List.getElem?_eq_getElem _⟩
          have fit := hfit i r hr'
          obtain rfl := Option.some.inj exi
          have s5 : Same H (upd H4 T (.tup [.int (i : Nat), .ref ra])) := s4.trans (Same.new hT)
          have rr : Seq (upd H4 T (.tup [.int (i : Nat), .ref ra])) ra (rowVs r) := Seq.same (hrows.at_ i ra r hra hr') s5
          obtain ⟨kt, et, pt, lt⟩ := mt.ex
          obtain ⟨kh, eh, ph, lh⟩ := mh.ex
          have nt : td ≠ T := ne_of_none et hT
          have nh : hd ≠ T := ne_of_none eh hT
          have i100 : i < 100 := by rw [← hrows.len] at hl; omega
          refine ⟨T, _, rfl, sqT upd_same, rfl, _, _, rfl, _, _, rfl, rfl, ?_⟩
          refine ⟨_, rfl, _, rfl, _, rfl, ra, td, hd, r, kt, kh, rfl, rr, by rw [upd_ne nt]; exact et, ?_, by rw [upd_ne nh]; exact eh, ?_, fit.shape, fit.top, fit.kind, fit.price, fun H6 s6 => ?_⟩
          · have q := pt r.nm
            rw [decide_eq_false fit.new] at q
            simpa using q
          · rw [ph r.fo]
            exact decide_eq_true fit.home
          refine ⟨_, rfl, iteF ?_⟩
          refine ⟨fun σ' H' => σ' = [some (.ref rw), some (.ref nm), some (.ref fo), some (.ref td), some (.ref hd), some (.int (i : Nat)), some (.ref ra), some (.str r.nm), some (.str r.fo), some (.str r.ki), some (prV r.pr)] ∧ H' = H6, ?_, ?_⟩
          · refine ⟨_, rfl, ?_⟩
            rcases rr.same s6 with un | un
            · exact .inl ⟨ra, _, rfl, sqT un, rfl, _, _, rfl, _, _, rfl, _, _, rfl, _, _, rfl, rfl, rfl, rfl⟩
            · exact .inr ⟨ra, _, rfl, SqL.of un, rfl, _, _, rfl, _, _, rfl, _, _, rfl, _, _, rfl, rfl, rfl, rfl⟩
          rintro σ' H' ⟨rfl, rfl⟩
          have et6 : H' td = some (.dK kt) := s6 _ _ (by rw [upd_ne nt]; exact et)
          have eh6 : H' hd = some (.dK kh) := s6 _ _ (by rw [upd_ne nh]; exact eh)
          have lt' : kt.length ≤ 300 := by
            rw [List.length_append, List.length_map, List.length_take] at lt; omega
          have lh' : kh.length ≤ 300 := by
            have := folders_le (rs.take i)
            rw [List.length_take] at this
            rw [List.length_append] at lh; omega
          refine ⟨_, rfl, _, rfl, td, _, rfl, DPut.k (k := Sum.inr r.nm) et6 (small1000 (by omega)), ?_⟩
          have s7 : Same H (upd H' td (.dK (putK kt (.inr r.nm) (.bl true)))) := fun b o e => by
            rw [upd_ne (fun q => by rw [q, ftd] at e; cases e)]
            exact s6 _ _ (s5 b o e)
          have mt7 : ns ++ (rs.take (i + 1)).map (·.nm) = ns ++ (rs.take i).map (·.nm) ++ [r.nm] := by rw [take_more hr', List.map_append, List.append_assoc]; rfl
          have mT : MemD (upd H' td (.dK (putK kt (.inr r.nm) (.bl true)))) td (ns ++ (rs.take (i + 1)).map (·.nm)) := by rw [mt7]; exact MemD.put pt lt _ _
          have rw4 : H4 rw = some (.tup (as.map V.ref)) ∨ H4 rw = some (.lst (as.map V.ref)) := hrw.same s4
          have keep : ∀ {b : Addr} {o : HO}, H4 b = some o → b ≠ td → (upd H' td (.dK (putK kt (.inr r.nm) (.bl true)))) b = some o := fun {b o} e nb => by
            rw [upd_ne nb]
            exact s6 _ _ (by rw [upd_ne (ne_of_none e hT)]; exact e)
          have ert : rw ≠ td := fun q => by rcases rw4 with z | z <;> (rw [q, et] at z; cases z)
          have erh : rw ≠ hd := fun q => by rcases rw4 with z | z <;> (rw [q, eh] at z; cases z)
          have erw : (upd H' td (.dK (putK kt (.inr r.nm) (.bl true)))) rw = H3 rw := by
            rw [← e4]
            rcases rw4 with z | z <;> (rw [z]; exact keep z ert)
          refine ⟨_, rfl, rfl, _, rfl, ?_⟩
          refine ite2 (fun hk => ?_) (fun hk => ?_)
          · have hk' : r.ki = ("folder" : Str) := V.str.inj (of_decide_eq_true hk)
            refine ⟨_, rfl, _, rfl, hd, _, rfl, DPut.k (k := Sum.inr r.nm) (Eq.trans (upd_ne nth.symm) eh6) (small1000 (by omega)), ?_⟩
            refine ⟨_, _, _, _, _, _, rfl, fun b o e => ?_, ?_, mT.same (upd_ne nth), ?_⟩
            · rw [upd_ne (fun q => by rw [q, fhd] at e; cases e)]
              exact s7 b o e
            · rw [upd_ne erh]; exact erw
            · rw [fold_take hr', if_pos hk', ← List.append_assoc]
              exact MemD.put ph lh _ _
          · have hk' : ¬ r.ki = ("folder" : Str) := fun q => hk (decide_eq_true (by rw [q]))
            refine ⟨_, _, _, _, _, _, rfl, s7, erw, mT, ?_⟩
            rw [fold_take hr', if_neg hk', List.append_nil]
            exact ⟨kh, Eq.trans (upd_ne nth.symm) eh6, ph, lh⟩
        · rintro σ H4 ⟨v5, v6, v7, v8, v9, v10, rfl, s4, _⟩
          exact hq _ s4
end
end Ts

set_option maxRecDepth 100000
set_option maxHeartbeats 4000000
namespace Ts
open PySem L2
/-! ### a tree as it stands -/
theorem qf_ : ¬ (("quads" : Str) = "folders") := by decide +kernel
theorem qk_ : ¬ (("quads" : Str) = "kinds") := by decide +kernel
theorem qp_ : ¬ (("quads" : Str) = "prices") := by decide +kernel
theorem fk_ : ¬ (("folders" : Str) = "kinds") := by decide +kernel
theorem fp_ : ¬ (("folders" : Str) = "prices") := by decide +kernel
theorem kp_ : ¬ (("kinds" : Str) = "prices") := by decide +kernel
def tf (q f k p : Addr) : List (Str × V) := putF "prices" (.ref p) (putF "kinds" (.ref k) (putF "folders" (.ref f) (putF "quads" (.ref q) [])))
theorem tf_q (q f k p : Addr) : (tf q f k p).lookup ("quads" : Str) = some (.ref q) := by
  unfold tf
  rw [lookup_putF, if_neg qp_, lookup_putF, if_neg qk_, lookup_putF, if_neg qf_, lookup_putF, if_pos rfl]
theorem tf_f (q f k p : Addr) : (tf q f k p).lookup ("folders" : Str) = some (.ref f) := by
  unfold tf
  rw [lookup_putF, if_neg fp_, lookup_putF, if_neg fk_, lookup_putF, if_pos rfl]
theorem tf_k (q f k p : Addr) : (tf q f k p).lookup ("kinds" : Str) = some (.ref k) := by
  unfold tf
  rw [lookup_putF, if_neg kp_, lookup_putF, if_pos rfl]
theorem tf_p (q f k p : Addr) : (tf q f k p).lookup ("prices" : Str) = some (.ref p) := by
  unfold tf
  rw [lookup_putF, if_pos rfl]
theorem tf_no (q f k p : Addr) {m : Str} (h1 : ¬ m = "quads") (h2 : ¬ m = "folders") (h3 : ¬ m = "kinds") (h4 : ¬ m = "prices") : (tf q f k p).lookup m = none := by
  unfold tf
  rw [lookup_putF, if_neg h4, lookup_putF, if_neg h3, lookup_putF, if_neg h2, lookup_putF, if_neg h1]
  rfl
theorem putF_len (n : Str) (v : V) : ∀ l : List (Str × V), (putF n v l).length ≤ l.length + 1
  | [] => Nat.le_refl _
  | p :: r => by
    have ih := putF_len n v r
    show (if p.1 = n then (p.1, v) :: r else p :: putF n v r).length ≤ _
    split
    · exact Nat.le_succ _
    · rw [List.length_cons, List.length_cons]; omega
def kvF (g : Row → V) (l : List Row) : List (Key × V) := l.map fun r => (.inr r.nm, g r)
theorem valV_kvF (g : Row → V) (z : Str) : ∀ l : List Row, valV (kvF g l) (.inr z : Key) = (l.find? fun r => decide (r.nm = z)).map g
  | [] => rfl
  | r :: l => by
    have ih := valV_kvF g z l
    by_cases e : r.nm = z
    · show valV ((.inr r.nm, g r) :: kvF g l) (.inr z : Key) = _
      rw [valV_pos (by rw [e]), List.find?_cons_of_pos (by simpa using e)]
      rfl
    · show valV ((.inr r.nm, g r) :: kvF g l) (.inr z : Key) = _
      rw [valV_neg (fun q => e (Sum.inr.inj q)), List.find?_cons_of_neg (by simpa using e)]
      exact ih
theorem find_none {l : List Row} {z : Str} (h : z ∉ l.map (·.nm)) : (l.find? fun r => decide (r.nm = z)) = none := by
  rw [List.find?_eq_none]
  intro r hr
  simp only [decide_eq_true_eq]
  exact fun q => h (List.mem_map.mpr ⟨r, hr, q⟩)
theorem kvF_more {g : Row → V} {rs : List Row} {i : Nat} {r : Row} (h : rs[i]? = some r) (hn : r.nm ∉ (rs.take i).map (·.nm)) : putK (kvF g (rs.take i)) (.inr r.nm) (g r) = kvF g (rs.take (i + 1)) := by
  rw [putK_new _ (by rw [valV_kvF, find_none hn]; rfl), take_more h]
  unfold kvF
  rw [List.map_append]
  rfl
structure TreeAt (C : Addr) (H : Hp) (t : Addr) (rs : List Row) : Prop where
  ex : ∃ (dx q f k p : Addr) (qs : List Addr), H t = some (.ins C dx (tf q f k p)) ∧ H q = some (.tup (qs.map V.ref)) ∧ RowsAt H qs rs ∧ H f = some (.dK (kvF (fun r => .str r.fo) rs)) ∧ H k = some (.dK (kvF (fun r => .str r.ki) rs)) ∧ H p = some (.dK (kvF (fun r => prV r.pr) rs))
  val : Valid rs
  len : rs.length ≤ 100
theorem TreeAt.same {C : Addr} {H H' : Hp} {t : Addr} {rs : List Row} (h : TreeAt C H t rs) (s : Same H H') : TreeAt C H' t rs := by
  obtain ⟨dx, q, f, k, p, qs, h1, h2, h3, h4, h5, h6⟩ := h.ex
  exact ⟨⟨dx, q, f, k, p, qs, s _ _ h1, s _ _ h2, h3.same s, s _ _ h4, s _ _ h5, s _ _ h6⟩, h.val, h.len⟩
structure TxT (K : PySem.W.Frag) (mg : Str → Option Value) (C : Addr) : Prop where
  cl : Cls K C
  nq : NoAttr K C "quads"
  nf : NoAttr K C "folders"
  nk : NoAttr K C "kinds"
  np : NoAttr K C "prices"
  g : mg "Tree" = some (.ref C)
def rTupOf (K : PySem.W.Frag) : List V → Hp → VK → Prop := fun xs H Q => ∃ p ys, xs = [V.ref p] ∧ ((SqL K H p ys ∧ ∀ l, H l = none → Q (V.ref l) (upd H l (.tup ys))) ∨ (SqT K H p ys ∧ Q (V.ref p) H))
def spTreeInit (C : Addr) : Sp := fun vs H Q _ => ∃ (t dx rw : Addr) (as : List Addr) (rs : List Row), vs = [.ref t, .ref rw] ∧ H t = some (.ins C dx []) ∧ Seq H rw (as.map V.ref) ∧ SeqRows H as rs ∧ rs.length ≤ 100 ∧ Valid rs ∧
  ∀ H', SB t H H' → TreeAt C H' t rs → Q .non H'
section
variable {P : Program} {w : World} {K : PySem.W.Frag} {mg : Str → Option Value} {base : Heap} {C : Addr}
abbrev nTreeInit : List Str := ["self", "rows", "row", "name", "folder", "kind", "price"]
theorem sc_Tree_init : FnScope nTreeInit ["self", "rows"] (defScope s_Tree_init) := ⟨rfl, rfl, rfl, by decide +kernel, rfl, by decide +kernel, by decide +kernel⟩
theorem ok_Tree_init {f : Addr} {fd : FuncData} (F : Fun K "__init__" "Tree.__init__" s_Tree_init f fd) (Dc : DefAt K mg "check_rows" s_check_rows ["rows", "names", "folders"]) (Gc : FnOk P w K mg base CX0 4 Dc.f Dc.fd ["rows", "names", "folders"] (spCheckRows K)) (B : TxB mg) (TC : TxC K mg) (T : TxT K mg C) :
    FnOk P w K mg base CX0 5 f fd ["self", "rows"] (spTreeInit C) := by
  obtain ⟨t1, gT⟩ := TC.top
  refine F.ok sc_Tree_init (fun vs H Q E h => ?_) (fun cdv A outer s H vs Q E hr h => ?_)
  · obtain ⟨t, dx, rw, as, rs, rfl, _⟩ := h
    rfl
  · obtain ⟨t, dx, rw, as, rs, rfl, ht, hrw, hrows, hl, hv, hq⟩ := h
    refine ⟨_, pss_cons (ps_expr (pe_call Gc hr rfl Dc.g Dc.F.kp Dc.b .nil pass0 (pa_cons (pv 1) (pa_cons (pe_tup pa_nil) (pa_cons (pe_tup (pa_cons (pe_glob (by rfl) gT (v := .str ("top" : Str)) ⟨_, rfl⟩) pa_nil)) pa_nil)))))
      (pss_cons (ps_fld (pv 0) (pe_callTy call_tuple_of (by rfl) B.tuple (by decide +kernel) (pa_cons (pe_lc (own := [("row", 2)]) (g := gName 2) (tt := tYes) (te := tCB (rTupOf K) (tCons (tVar 2) tNil)) rfl sc_Tree_init.nd (pi_seqS (i := 1) (pv 1)) (blkOk_by (N := nTreeInit) (sc := defScope s_Tree_init) (by decide +kernel))
          (fun _ _ _ _ _ => pg_name (i := 2) sc_Tree_init.nd rfl (Or.inl rfl)) (fun _ _ _ _ _ => pts_nil) (fun _ _ _ _ _ => by exact pe_callTy (T := "tuple") call_tuple_of (by rfl) B.tuple (by decide +kernel) (pa_cons (pv 2) pa_nil))) pa_nil)) rfl)
      (pss_cons (ps_fld (pv 0) (pe_dc (own := [("name", 3), ("folder", 4), ("kind", 5), ("price", 6)]) (g := gTup K 4 (gCons (gName 3) (gCons (gName 4) (gCons (gName 5) (gCons (gName 6) gNil))))) (tt := tYes) rfl sc_Tree_init.nd (pi_tup (pe_fld (pv 0) rfl)) (blkOk_by (N := nTreeInit) (sc := defScope s_Tree_init) (by decide +kernel))
          (fun _ _ _ _ _ => by exact pg_tup rfl (pgs_cons (pg_name (i := 3) sc_Tree_init.nd rfl (.inl rfl)) (pgs_cons (pg_name (i := 4) sc_Tree_init.nd rfl (.inl rfl)) (pgs_cons (pg_name (i := 5) sc_Tree_init.nd rfl (.inl rfl)) (pgs_cons (pg_name (i := 6) sc_Tree_init.nd rfl (.inl rfl)) pgs_nil))))) (fun _ _ _ _ _ => pts_nil) (fun _ _ _ _ _ => pv 3) (fun _ _ _ _ _ => pv 4)) rfl)
      (pss_cons (ps_fld (pv 0) (pe_dc (own := [("name", 3), ("folder", 4), ("kind", 5), ("price", 6)]) (g := gTup K 4 (gCons (gName 3) (gCons (gName 4) (gCons (gName 5) (gCons (gName 6) gNil))))) (tt := tYes) rfl sc_Tree_init.nd (pi_tup (pe_fld (pv 0) rfl)) (blkOk_by (N := nTreeInit) (sc := defScope s_Tree_init) (by decide +kernel))
          (fun _ _ _ _ _ => by exact pg_tup rfl (pgs_cons (pg_name (i := 3) sc_Tree_init.nd rfl (.inl rfl)) (pgs_cons (pg_name (i := 4) sc_Tree_init.nd rfl (.inl rfl)) (pgs_cons (pg_name (i := 5) sc_Tree_init.nd rfl (.inl rfl)) (pgs_cons (pg_name (i := 6) sc_Tree_init.nd rfl (.inl rfl)) pgs_nil))))) (fun _ _ _ _ _ => pts_nil) (fun _ _ _ _ _ => pv 3) (fun _ _ _ _ _ => pv 5)) rfl)
      (pss_one (ps_fld (pv 0) (pe_dc (own := [("name", 3), ("folder", 4), ("kind", 5), ("price", 6)]) (g := gTup K 4 (gCons (gName 3) (gCons (gName 4) (gCons (gName 5) (gCons (gName 6) gNil))))) (tt := tYes) rfl sc_Tree_init.nd (pi_tup (pe_fld (pv 0) rfl)) (blkOk_by (N := nTreeInit) (sc := defScope s_Tree_init) (by decide +kernel))
          (fun _ _ _ _ _ => by exact pg_tup rfl (pgs_cons (pg_name (i := 3) sc_Tree_init.nd rfl (.inl rfl)) (pgs_cons (pg_name (i := 4) sc_Tree_init.nd rfl (.inl rfl)) (pgs_cons (pg_name (i := 5) sc_Tree_init.nd rfl (.inl rfl)) (pgs_cons (pg_name (i := 6) sc_Tree_init.nd rfl (.inl rfl)) pgs_nil))))) (fun _ _ _ _ _ => pts_nil) (fun _ _ _ _ _ => pv 3) (fun _ _ _ _ _ => pv 6)) rfl))))), ?_⟩
    refine ⟨_, rfl, Nat.zero_le _, fun u1 hu1 => ⟨(by show 1 ≤ sizeLine; decide), fun u2 hu2 => ?_⟩⟩
    have s0 : Same H (upd (upd H u1 (.tup [])) u2 (.tup [V.str ("top" : Str)])) := (Same.new hu1).trans (Same.new hu2)
    have n12 : u1 ≠ u2 := fun q => by rw [← q, upd_same] at hu2; cases hu2
    refine ⟨rw, u1, u2, [], [("top" : Str)], as, rs, rfl, hrw.same s0, hrows.same s0, sqT (by rw [upd_ne n12]; exact upd_same), sqT upd_same, hl, Nat.zero_le _, (by decide), fun i r h => (hv i r h).b, fun H1 s1 => ?_⟩
    have s01 := s0.trans s1
    have hq1 := hrw.same s01
    refine ⟨rw, _, rfl, hq1, fun J W => fun D hD => ?_⟩
    refine lc_it W (fun i H' => ∃ qs : List Addr, Same H1 H' ∧ RowsAt H' qs (rs.take i) ∧ H' D = some (.lst (qs.map V.ref))) ⟨[], Same.new hD, RowsAt.nil, upd_same⟩ (fun i H' _ ⟨_, sm, _, _⟩ => ?_) ?_ ?_
    · rcases hq1 with z | z <;> rw [z] <;> exact sm _ _ z
    · rintro i x H2 H2' hi ⟨qs, sm, rq, hD2⟩ ⟨rfl, hx⟩
      rw [List.length_map] at hi
      rw [List.getElem?_map] at hx
      obtain ⟨ra, hra, rfl⟩ := Option.map_eq_some_iff.mp hx
      obtain ⟨r, hr'⟩ : ∃ r, rs[i]? = some r := ⟨rs[i]'(by rw [← hrows.len]; exact hi), List.getElem?_eq_getElem _⟩
      have rr : Seq H2' ra (rowVs r) := Seq.same (hrows.at_ i ra r hra hr') (s01.trans sm)
      have sz : (qs.map V.ref).length < sizeLine := small1000 (by rw [List.length_map, rq.len, List.length_take]; omega)
      have fin : ∀ (l : Addr) (H3 : Hp), H3 l = some (.tup (rowVs r)) → Same H2' H3 → ∃ qs' : List Addr, Same H1 (upd H3 D (.lst (qs.map V.ref ++ [V.ref l]))) ∧ RowsAt (upd H3 D (.lst (qs.map V.ref ++ [V.ref l]))) qs' (rs.take (i + 1)) ∧ (upd H3 D (.lst (qs.map V.ref ++ [V.ref l]))) D = some (.lst (qs'.map V.ref)) := by
        intro l H3 hl3 s3
        have kt : ∀ {b : Addr} {xs : List V}, H3 b = some (.tup xs) → (upd H3 D (.lst (qs.map V.ref ++ [V.ref l]))) b = some (.tup xs) := fun {b xs} h => by
          rw [upd_ne (fun q => by rw [q, s3 _ _ hD2] at h; cases h)]
          exact h
        refine ⟨qs ++ [l], fun b o e => ?_, ?_, ?_⟩
        · rw [upd_ne (fun q => by rw [q, hD] at e; cases e)]
          exact s3 _ _ (sm _ _ e)
        · rw [take_more hr']
          exact RowsAt.snoc ⟨rq.len, fun j b q hb hq' => kt (s3 _ _ (rq.at_ j b q hb hq'))⟩ (kt hl3)
        · rw [upd_same, List.map_append]; rfl
      refine ⟨rfl, tYes_if ⟨_, rfl, ra, rowVs r, rfl, ?_⟩⟩
      rcases rr with z | z
      · exact .inr ⟨sqT z, qs.map V.ref, hD2, sz, fin ra _ z (Same.refl _)⟩
      · exact .inl ⟨SqL.of z, fun l hl' => ⟨qs.map V.ref, (Same.new hl') _ _ hD2, sz, fin l _ upd_same (Same.new hl')⟩⟩
    · rintro H2 ⟨qs, sm, rq, hD2⟩
      rw [List.length_map, hrows.len, List.take_length] at rq
      refine ⟨D, _, rfl, .inl ⟨SqL.of hD2, fun q hq' => ?_⟩⟩
      have fresh_t : ∀ {b : Addr} {o : HO}, H t = some o → H2 t = some o := fun {b o} e => sm _ _ (s01 _ _ e)
      have ht2 : H2 t = some (.ins C dx []) := sm _ _ (s01 _ _ ht)
      have tq : t ≠ q := ne_of_none ht2 hq'
      refine ⟨_, rfl, t, C, dx, _, rfl, Eq.trans (upd_ne tq) ht2, T.cl, T.nq, (by show 0 < 1000; decide), ?_⟩
      obtain ⟨aH, aE⟩ : ∃ Hx, Hx = upd (upd H2 q (.tup (qs.map V.ref))) t (.ins C dx (putF "quads" (.ref q) [])) := ⟨_, rfl⟩
      have at_ : aH t = some (.ins C dx (putF "quads" (.ref q) [])) := by rw [aE]; exact upd_same
      have aq : aH q = some (.tup (qs.map V.ref)) := by rw [aE, upd_ne tq.symm]; exact upd_same
      have keepA : ∀ b o, b ≠ t → H2 b = some o → aH b = some o := fun b o nb e => by rw [aE, upd_ne nb, upd_ne (ne_of_none e hq')]; exact e
      have nt : ∀ {b : Addr} {xs : List V}, H2 b = some (.tup xs) → b ≠ t := fun {b xs} e y => by rw [y, ht2] at e; cases e
      have ar : RowsAt aH qs rs := ⟨rq.len, fun j b r hb hr => keepA _ _ (nt (rq.at_ j b r hb hr)) (rq.at_ j b r hb hr)⟩
      have asb : SB t H aH := fun b o nb e => keepA b o nb (sm b o (s01 b o e))
      rw [← aE]
      clear aE keepA

      refine ⟨_, rfl, t, C, dx, _, _, rfl, at_, T.cl, T.nq, (by rw [lookup_putF, if_pos rfl]), q, rfl, ⟨_, sqT aq⟩, fun DF hDF => ?_⟩
      refine dc_tup (K := K) (a := q) (xs := qs.map V.ref) (fun i H' => Same aH H' ∧ H' DF = some (.dK (kvF (fun r => V.str r.fo) (rs.take i)))) ⟨Same.new hDF, upd_same⟩ (fun i H' _ m => sqT (m.1 _ _ aq)) ?_ ?_
      · rintro i x H' hx ⟨sm, hDi⟩
        rw [List.getElem?_map] at hx
        obtain ⟨qa, hqa, rfl⟩ := Option.map_eq_some_iff.mp hx
        obtain ⟨r, hr'⟩ : ∃ r, rs[i]? = some r := ⟨rs[i]'(by rw [← rq.len]; exact (List.getElem?_eq_some_iff.mp hqa).1), List.getElem?_eq_getElem _⟩
        have e := sm _ _ (ar.at_ i qa r hqa hr')
        refine ⟨qa, _, rfl, sqT e, rfl, _, _, rfl, _, _, rfl, _, _, rfl, _, _, rfl, rfl, rfl, tYes_if ⟨_, rfl, _, rfl, _, .inr r.nm, rfl, hDi, small1000 (by unfold kvF; rw [List.length_map, List.length_take]; omega), fun b o e => ?_, ?_⟩⟩
        · rw [upd_ne (fun y => by rw [y, hDF] at e; cases e)]
          exact sm b o e
        · rw [upd_same]
          exact congrArg (fun l => some (HO.dK l)) (kvF_more (g := (fun r => V.str r.fo)) hr' (hv i r hr').new)
      rintro H5 ⟨sm, hDD⟩
      rw [List.length_map, rq.len, List.take_length] at hDD
      refine ⟨_, rfl, t, C, dx, _, rfl, sm _ _ at_, T.cl, T.nf, ?_, ?_⟩
      · exact Nat.lt_of_le_of_lt (putF_len _ _ _) (by decide)
      obtain ⟨cH, cE⟩ : ∃ Hx, Hx = upd H5 t (.ins C dx (putF "folders" (.ref DF) (putF "quads" (.ref q) []))) := ⟨_, rfl⟩
      have ct : cH t = some (.ins C dx (putF "folders" (.ref DF) (putF "quads" (.ref q) []))) := by rw [cE]; exact upd_same
      have keepX : ∀ b o, b ≠ t → aH b = some o → cH b = some o := fun b o nb e => by rw [cE, upd_ne nb]; exact sm b o e
      have cq : cH q = some (.tup (qs.map V.ref)) := keepX _ _ tq.symm aq
      have cr : RowsAt cH qs rs := ⟨rq.len, fun j b r hb hr => keepX _ _ (nt (rq.at_ j b r hb hr)) (ar.at_ j b r hb hr)⟩
      have csb : SB t H cH := fun b o nb e => keepX b o nb (asb b o nb e)
      have nDF : DF ≠ t := fun y => by rw [y, at_] at hDF; cases hDF
      have cF : cH DF = some (.dK (kvF (fun r => V.str r.fo) rs)) := by rw [cE, upd_ne nDF]; exact hDD
      rw [← cE]
      clear cE keepX sm hDD H5

      refine ⟨_, rfl, t, C, dx, _, _, rfl, ct, T.cl, T.nq, (by rw [lookup_putF, if_neg qf_, lookup_putF, if_pos rfl]), q, rfl, ⟨_, sqT cq⟩, fun DK hDK => ?_⟩
      refine dc_tup (K := K) (a := q) (xs := qs.map V.ref) (fun i H' => Same cH H' ∧ H' DK = some (.dK (kvF (fun r => V.str r.ki) (rs.take i)))) ⟨Same.new hDK, upd_same⟩ (fun i H' _ m => sqT (m.1 _ _ cq)) ?_ ?_
      · rintro i x H' hx ⟨sm, hDi⟩
        rw [List.getElem?_map] at hx
        obtain ⟨qa, hqa, rfl⟩ := Option.map_eq_some_iff.mp hx
        obtain ⟨r, hr'⟩ : ∃ r, rs[i]? = some r := ⟨rs[i]'(by rw [← rq.len]; exact (List.getElem?_eq_some_iff.mp hqa).1), List.getElem?_eq_getElem _⟩
        have e := sm _ _ (cr.at_ i qa r hqa hr')
        refine ⟨qa, _, rfl, sqT e, rfl, _, _, rfl, _, _, rfl, _, _, rfl, _, _, rfl, rfl, rfl, tYes_if ⟨_, rfl, _, rfl, _, .inr r.nm, rfl, hDi, small1000 (by unfold kvF; rw [List.length_map, List.length_take]; omega), fun b o e => ?_, ?_⟩⟩
        · rw [upd_ne (fun y => by rw [y, hDK] at e; cases e)]
          exact sm b o e
        · rw [upd_same]
          exact congrArg (fun l => some (HO.dK l)) (kvF_more (g := (fun r => V.str r.ki)) hr' (hv i r hr').new)
      rintro H5 ⟨sm, hDD⟩
      rw [List.length_map, rq.len, List.take_length] at hDD
      refine ⟨_, rfl, t, C, dx, _, rfl, sm _ _ ct, T.cl, T.nk, ?_, ?_⟩
      · exact Nat.lt_of_le_of_lt (Nat.le_trans (putF_len _ _ _) (Nat.succ_le_succ (putF_len _ _ _))) (by decide)
      obtain ⟨dH, dE⟩ : ∃ Hx, Hx = upd H5 t (.ins C dx (putF "kinds" (.ref DK) (putF "folders" (.ref DF) (putF "quads" (.ref q) [])))) := ⟨_, rfl⟩
      have dt : dH t = some (.ins C dx (putF "kinds" (.ref DK) (putF "folders" (.ref DF) (putF "quads" (.ref q) [])))) := by rw [dE]; exact upd_same
      have keepX : ∀ b o, b ≠ t → cH b = some o → dH b = some o := fun b o nb e => by rw [dE, upd_ne nb]; exact sm b o e
      have dq : dH q = some (.tup (qs.map V.ref)) := keepX _ _ tq.symm cq
      have dr : RowsAt dH qs rs := ⟨rq.len, fun j b r hb hr => keepX _ _ (nt (rq.at_ j b r hb hr)) (cr.at_ j b r hb hr)⟩
      have dsb : SB t H dH := fun b o nb e => keepX b o nb (csb b o nb e)
      have nDK : DK ≠ t := fun y => by rw [y, ct] at hDK; cases hDK
      have dK : dH DK = some (.dK (kvF (fun r => V.str r.ki) rs)) := by rw [dE, upd_ne nDK]; exact hDD
      have dF : dH DF = some (.dK (kvF (fun r => V.str r.fo) rs)) := keepX _ _ nDF cF
      rw [← dE]
      clear dE keepX sm hDD H5

      refine ⟨_, rfl, t, C, dx, _, _, rfl, dt, T.cl, T.nq, (by rw [lookup_putF, if_neg qk_, lookup_putF, if_neg qf_, lookup_putF, if_pos rfl]), q, rfl, ⟨_, sqT dq⟩, fun DP hDP => ?_⟩
      refine dc_tup (K := K) (a := q) (xs := qs.map V.ref) (fun i H' => Same dH H' ∧ H' DP = some (.dK (kvF (fun r => prV r.pr) (rs.take i)))) ⟨Same.new hDP, upd_same⟩ (fun i H' _ m => sqT (m.1 _ _ dq)) ?_ ?_
      · rintro i x H' hx ⟨sm, hDi⟩
        rw [List.getElem?_map] at hx
        obtain ⟨qa, hqa, rfl⟩ := Option.map_eq_some_iff.mp hx
        obtain ⟨r, hr'⟩ : ∃ r, rs[i]? = some r := ⟨rs[i]'(by rw [← rq.len]; exact (List.getElem?_eq_some_iff.mp hqa).1), List.getElem?_eq_getElem _⟩
        have e := sm _ _ (dr.at_ i qa r hqa hr')
        refine ⟨qa, _, rfl, sqT e, rfl, _, _, rfl, _, _, rfl, _, _, rfl, _, _, rfl, rfl, rfl, tYes_if ⟨_, rfl, _, rfl, _, .inr r.nm, rfl, hDi, small1000 (by unfold kvF; rw [List.length_map, List.length_take]; omega), fun b o e => ?_, ?_⟩⟩
        · rw [upd_ne (fun y => by rw [y, hDP] at e; cases e)]
          exact sm b o e
        · rw [upd_same]
          exact congrArg (fun l => some (HO.dK l)) (kvF_more (g := (fun r => prV r.pr)) hr' (hv i r hr').new)
      rintro H5 ⟨sm, hDD⟩
      rw [List.length_map, rq.len, List.take_length] at hDD
      refine ⟨_, rfl, t, C, dx, _, rfl, sm _ _ dt, T.cl, T.np, ?_, ?_⟩
      · exact Nat.lt_of_le_of_lt (Nat.le_trans (putF_len _ _ _) (Nat.succ_le_succ (Nat.le_trans (putF_len _ _ _) (Nat.succ_le_succ (putF_len _ _ _))))) (by decide)
      obtain ⟨eH, eE⟩ : ∃ Hx, Hx = upd H5 t (.ins C dx (putF "prices" (.ref DP) (putF "kinds" (.ref DK) (putF "folders" (.ref DF) (putF "quads" (.ref q) []))))) := ⟨_, rfl⟩
      have et : eH t = some (.ins C dx (putF "prices" (.ref DP) (putF "kinds" (.ref DK) (putF "folders" (.ref DF) (putF "quads" (.ref q) []))))) := by rw [eE]; exact upd_same
      have keepX : ∀ b o, b ≠ t → dH b = some o → eH b = some o := fun b o nb e => by rw [eE, upd_ne nb]; exact sm b o e
      have eq : eH q = some (.tup (qs.map V.ref)) := keepX _ _ tq.symm dq
      have er : RowsAt eH qs rs := ⟨rq.len, fun j b r hb hr => keepX _ _ (nt (rq.at_ j b r hb hr)) (dr.at_ j b r hb hr)⟩
      have esb : SB t H eH := fun b o nb e => keepX b o nb (dsb b o nb e)
      have nDP : DP ≠ t := fun y => by rw [y, dt] at hDP; cases hDP
      have eP : eH DP = some (.dK (kvF (fun r => prV r.pr) rs)) := by rw [eE, upd_ne nDP]; exact hDD
      have eF : eH DF = some (.dK (kvF (fun r => V.str r.fo) rs)) := keepX _ _ nDF dF
      have eK : eH DK = some (.dK (kvF (fun r => V.str r.ki) rs)) := keepX _ _ nDK dK
      rw [← eE]
      clear eE keepX sm hDD H5
      exact hq eH esb ⟨⟨dx, q, DF, DK, DP, qs, et, eq, er, eF, eK, eP⟩, hv, hl⟩
end
end Ts

set_option maxRecDepth 100000
set_option maxHeartbeats 4000000
namespace Ts
open PySem L2
/-! ### rows as data -/
def prD : Option Int → PyData
  | none => .none
  | some i => .int i
def rowD (r : Row) : PyData := .tuple [.str r.nm, .str r.fo, .str r.ki, prD r.pr]
theorem prD_ok {K : PySem.W.Frag} {H : Hp} (o : Option Int) : Dp K H (prV o) (prD o) := by
  cases o with
  | none => exact .non
  | some i => exact .int i
theorem row_dp {K : PySem.W.Frag} {H : Hp} {a : Addr} {r : Row} (h : H a = some (.tup (rowVs r))) : Dp K H (.ref a) (rowD r) :=
  .tup (sqT h) (.cons (.str _) (.cons (.str _) (.cons (.str _) (.cons (prD_ok _) .nil))))
theorem rows_dp {K : PySem.W.Frag} {H : Hp} : ∀ {as : List Addr} {rs : List Row}, RowsAt H as rs → DpAll K H (as.map V.ref) (rs.map rowD)
  | [], [], _ => .nil
  | [], _ :: _, h => by have := h.len; simp at this
  | _ :: _, [], h => by have := h.len; simp at this
  | a :: as, r :: rs, h => .cons (row_dp (h.at_ 0 a r rfl rfl)) (rows_dp ⟨by simpa using h.len, fun i b q hb hq => h.at_ (i + 1) b q (by simpa using hb) (by simpa using hq)⟩)
theorem str_beq (x y : Str) : (x == y) = decide (x = y) := by
  by_cases h : x = y
  · subst h; simp
  · rw [decide_eq_false h]; exact beq_eq_false_iff_ne.mpr h
theorem prD_eqv (a b : Option Int) : PyData.eqv (prD a) (prD b) = decide (a = b) := by
  cases a <;> cases b <;> simp [prD, PyData.eqv]
  rename_i i j
  by_cases h : i = j <;> simp [h]
theorem row_eqv (a b : Row) : PyData.eqv (rowD a) (rowD b) = decide (a = b) := by
  obtain ⟨n1, f1, k1, p1⟩ := a
  obtain ⟨n2, f2, k2, p2⟩ := b
  unfold rowD
  simp only [PyData.eqv, PyData.eqvAll, prD_eqv, str_beq, Bool.and_true]
  by_cases h1 : n1 = n2 <;> by_cases h2 : f1 = f2 <;> by_cases h3 : k1 = k2 <;> by_cases h4 : p1 = p2 <;> simp [h1, h2, h3, h4]
theorem rows_eqv : ∀ (a b : List Row), PyData.eqvAll (a.map rowD) (b.map rowD) = decide (a = b)
  | [], [] => by simp [PyData.eqvAll]
  | [], _ :: _ => by simp [PyData.eqvAll]
  | _ :: _, [] => by simp [PyData.eqvAll]
  | x :: a, y :: b => by
    simp only [List.map_cons, PyData.eqvAll, row_eqv, rows_eqv a b]
    by_cases h1 : x = y <;> by_cases h2 : a = b <;> simp [h1, h2]
theorem low_ok {z : Str} (h : ∀ c ∈ z.cps.toList, c ≤ 122) : PyData.strOk z = true := by
  unfold PyData.strOk
  rw [← Array.all_toList, List.all_eq_true]
  intro c hc
  have := h c hc
  exact decide_eq_true (by omega)
theorem top_ok : PyData.strOk ("top" : Str) = true := by decide +kernel
theorem kinds_ok : ∀ k ∈ kinds3, PyData.strOk k = true := by decide +kernel
structure RowOk (r : Row) : Prop where
  n : PyData.strOk r.nm = true
  f : PyData.strOk r.fo = true
  k : PyData.strOk r.ki = true
theorem rowD_lay {r : Row} (h : RowOk r) : (rowD r).canLay0 = true := by
  obtain ⟨h1, h2, h3⟩ := h
  obtain ⟨n, f, k, p⟩ := r
  cases p <;> simp_all [rowD, prD, PyData.canLay0, PyData.canLayAll0]
theorem rowD_depth (r : Row) : (rowD r).depth = 1 := by
  obtain ⟨n, f, k, p⟩ := r
  cases p <;> simp [rowD, prD, PyData.depth, PyData.depthAll]
theorem rows_lay : ∀ (rs : List Row), (∀ r ∈ rs, RowOk r) → PyData.canLayAll0 (rs.map rowD) = true
  | [], _ => by simp [PyData.canLayAll0]
  | r :: rs, h => by
    simp only [List.map_cons, PyData.canLayAll0, rowD_lay (h r (List.mem_cons_self ..)), rows_lay rs (fun q hq => h q (List.mem_cons_of_mem _ hq)), Bool.and_self]
theorem rows_depth : ∀ (rs : List Row), PyData.depthAll (rs.map rowD) ≤ 1
  | [] => by simp [PyData.depthAll]
  | r :: rs => by
    have ih := rows_depth rs
    simp only [List.map_cons, PyData.depthAll, rowD_depth]
    omega
theorem shaped_tup {rs : List Row} (h : ∀ r ∈ rs, RowOk r) : SeqAt.shaped (.tuple (rs.map rowD)) = true := by
  have q := rows_depth rs
  unfold SeqAt.shaped
  rw [Bool.and_eq_true]
  refine ⟨by simp only [PyData.canLay0]; exact rows_lay rs h, decide_eq_true ?_⟩
  simp only [PyData.depth]
  omega
theorem shaped_lst {rs : List Row} (h : ∀ r ∈ rs, RowOk r) : SeqAt.shaped (.list (rs.map rowD)) = true := by
  have q := rows_depth rs
  unfold SeqAt.shaped
  rw [Bool.and_eq_true]
  refine ⟨by simp only [PyData.canLay0]; exact rows_lay rs h, decide_eq_true ?_⟩
  simp only [PyData.depth]
  omega
theorem shaped_row {r : Row} (h : RowOk r) : SeqAt.shaped (rowD r) = true := by
  simp only [SeqAt.shaped, rowD_lay h, rowD_depth, Bool.true_and]
  decide
theorem low_sok {z : Str} (h : Low z) : PyData.strOk z = true := low_ok fun c hc => (h c hc).2
theorem Valid.ok {rs : List Row} (h : Valid rs) : ∀ r ∈ rs, RowOk r := by
  intro r hr
  obtain ⟨i, hi, rfl⟩ := List.mem_iff_getElem.mp hr
  have f := h i rs[i] (List.getElem?_eq_getElem hi)
  refine ⟨low_sok f.shape.2, ?_, kinds_ok _ f.kind⟩
  rcases f.home with e | ⟨q, hq, e, _⟩
  · rw [e]; exact top_ok
  · obtain ⟨j, hj, rfl⟩ := List.mem_iff_getElem.mp (List.mem_of_mem_take hq)
    rw [← e]
    exact low_sok (h j rs[j] (List.getElem?_eq_getElem hj)).shape.2
/-! ### promises of the methods -/
def names (rs : List Row) : List Str := rs.map (·.nm)
def rowOf (rs : List Row) (z : Str) : Option Row := rs.find? fun r => decide (r.nm = z)
theorem rowOf_some {rs : List Row} {z : Str} (h : z ∈ names rs) : ∃ r, rowOf rs z = some r ∧ r ∈ rs ∧ r.nm = z := by
  unfold rowOf
  obtain ⟨q, hq, e⟩ := List.mem_map.mp h
  cases e1 : rs.find? fun r => decide (r.nm = z) with
  | none =>
    rw [List.find?_eq_none] at e1
    exact absurd (decide_eq_true e) (e1 q hq)
  | some r => exact ⟨r, rfl, List.mem_of_find?_eq_some e1, of_decide_eq_true (List.find?_some (p := fun (r : Row) => decide (r.nm = z)) e1)⟩
def spLen (C : Addr) : Sp := fun vs H Q _ => ∃ (t : Addr) (rs : List Row), vs = [.ref t] ∧ TreeAt C H t rs ∧ Q (.int rs.length) H
def Other (K : PySem.W.Frag) (H : Hp) (x : V) (c : Value) : Prop := ∃ ty, TyX K H x ty ∧ PySem.W.kitOne K ty c = some false
def spContains (K : PySem.W.Frag) (C : Addr) : Sp := fun vs H Q _ => ∃ (t : Addr) (x : V) (rs : List Row), vs = [.ref t, x] ∧ TreeAt C H t rs ∧
  ((∃ z, x = .str z ∧ Q (.bl (decide (z ∈ names rs))) H) ∨ (Other K H x (.type "str") ∧ Q (.bl false) H))
def spEqT (K : PySem.W.Frag) (C : Addr) : Sp := fun vs H Q _ => ∃ (t : Addr) (x : V) (rs : List Row), vs = [.ref t, x] ∧ TreeAt C H t rs ∧
  ((∃ (u : Addr) (qs : List Row), x = .ref u ∧ TreeAt C H u qs ∧ Q (.bl (decide (rs = qs))) H) ∨ (Other K H x (.ref C) ∧ Q (.bl false) H))
def spRowsM (C : Addr) : Sp := fun vs H Q _ => ∃ (t : Addr) (rs : List Row), vs = [.ref t] ∧ TreeAt C H t rs ∧ ∀ p (qs : List Addr), H p = none → RowsAt H qs rs → Q (.ref p) (upd H p (.lst (qs.map V.ref)))
def spBox (C : Addr) : Sp := fun vs H Q _ => ∃ (t : Addr) (z : Str) (rs : List Row), vs = [.ref t, .str z] ∧ TreeAt C H t rs ∧ z ∈ names rs ∧ Q .non H
def spIsPlace (C : Addr) : Sp := fun vs H Q _ => ∃ (t : Addr) (z : Str) (rs : List Row), vs = [.ref t, .str z] ∧ TreeAt C H t rs ∧ Q (.bl (decide (z = ("top" : Str) ∨ z ∈ names rs))) H
def spPlace (C : Addr) : Sp := fun vs H Q _ => ∃ (t : Addr) (z : Str) (rs : List Row), vs = [.ref t, .str z] ∧ TreeAt C H t rs ∧ (z = ("top" : Str) ∨ z ∈ names rs) ∧ Q .non H
def spGet (C : Addr) (g : Row → V) : Sp := fun vs H Q _ => ∃ (t : Addr) (z : Str) (rs : List Row) (r : Row), vs = [.ref t, .str z] ∧ TreeAt C H t rs ∧ rowOf rs z = some r ∧ Q (g r) H
section
variable {P : Program} {w : World} {K : PySem.W.Frag} {mg : Str → Option Value} {base : Heap} {C : Addr}
theorem sc_Tree_len : FnScope ["self"] ["self"] (defScope s_Tree_len) := ⟨rfl, rfl, rfl, by decide +kernel, rfl, by decide +kernel, by decide +kernel⟩
theorem ok_Tree_len {f : Addr} {fd : FuncData} (F : Fun K "__len__" "Tree.__len__" s_Tree_len f fd) (B : TxB mg) (T : TxT K mg C) : FnOk P w K mg base CX0 2 f fd ["self"] (spLen C) := by
  refine F.ok sc_Tree_len (fun vs H Q E h => ?_) (fun cdv A outer s H vs Q E hr h => ?_)
  · obtain ⟨t, rs, rfl, _⟩ := h
    rfl
  · obtain ⟨t, rs, rfl, ht, hq⟩ := h
    obtain ⟨dx, q, f, k, p, qs, h1, h2, h3, h4, h5, h6⟩ := ht.ex
    refine ⟨_, pss_one (ps_ret (pe_callB call_len_seq (by rfl) B.len PySem.boot_len (pa_cons (pe_fld (pv 0) rfl) pa_nil))), ?_⟩
    refine ⟨_, rfl, t, C, dx, _, _, rfl, h1, T.cl, T.nq, tf_q _ _ _ _, q, _, rfl, .inr (sqT h2), ?_⟩
    rw [List.length_map, h3.len]
    exact hq
theorem sc_Tree_contains : FnScope ["self", "x"] ["self", "x"] (defScope s_Tree_contains) := ⟨rfl, rfl, rfl, by decide +kernel, rfl, by decide +kernel, by decide +kernel⟩
theorem ok_Tree_contains {f : Addr} {fd : FuncData} (F : Fun K "__contains__" "Tree.__contains__" s_Tree_contains f fd) (B : TxB mg) (T : TxT K mg C) : FnOk P w K mg base CX0 2 f fd ["self", "x"] (spContains K C) := by
  refine F.ok sc_Tree_contains (fun vs H Q E h => ?_) (fun cdv A outer s H vs Q E hr h => ?_)
  · obtain ⟨t, x, rs, rfl, _⟩ := h
    rfl
  · obtain ⟨t, x, rs, rfl, ht, h⟩ := h
    have hu := hu_of hr
    obtain ⟨dx, q, f, k, p, qs, h1, h2, h3, h4, h5, h6⟩ := ht.ex
    refine ⟨_, pss_one (ps_ret (pe_and (pe_callB call_isi (by rfl) B.isinstance (by decide +kernel) (pa_cons (pv 1) (pa_cons (pe_bltn (by rfl) B.str (by decide +kernel) (v := .ty "str") rfl) pa_nil))) (pe_one (pe_cmp (pc_din hu (pv 1) (pe_fld (pv 0) rfl)) rfl)))), ?_⟩
    rcases h with ⟨z, rfl, hq⟩ | ⟨⟨ty, hty, hk⟩, hq⟩
    · refine ⟨_, rfl, _, _, _, _, true, rfl, .ty "str", .base (.str z), kit_ty (by decide +kernel), _, rfl, iteT ?_⟩
      refine ⟨_, rfl, _, rfl, t, C, dx, _, _, rfl, h1, T.cl, T.nk, tf_k _ _ _ _, k, _, rfl, DGet.k (k := Sum.inr z) h5, ?_⟩
      rw [valV_kvF]
      have e : ((rs.find? fun r => decide (r.nm = z)).map fun r => V.str r.ki).isSome = decide (z ∈ names rs) := by
        by_cases hz : z ∈ names rs
        · obtain ⟨r, e1, _⟩ := rowOf_some hz
          unfold rowOf at e1
          rw [e1, decide_eq_true hz]; rfl
        · rw [find_none hz, decide_eq_false hz]; rfl
      rw [e]
      exact hq
    · exact ⟨_, rfl, _, _, _, _, false, rfl, .ty "str", hty, hk, _, rfl, iteF hq⟩
theorem sc_Tree_eq : FnScope ["self", "other"] ["self", "other"] (defScope s_Tree_eq) := ⟨rfl, rfl, rfl, by decide +kernel, rfl, by decide +kernel, by decide +kernel⟩
theorem ok_Tree_eq {f : Addr} {fd : FuncData} (F : Fun K "__eq__" "Tree.__eq__" s_Tree_eq f fd) (B : TxB mg) (T : TxT K mg C) (I : C8.InsC K C) : FnOk P w K mg base CX0 2 f fd ["self", "other"] (spEqT K C) := by
  refine F.ok sc_Tree_eq (fun vs H Q E h => ?_) (fun cdv A outer s H vs Q E hr h => ?_)
  · obtain ⟨t, x, rs, rfl, _⟩ := h
    rfl
  · obtain ⟨t, x, rs, rfl, ht, h⟩ := h
    obtain ⟨dx, q, f, k, p, qs, h1, h2, h3, h4, h5, h6⟩ := ht.ex
    refine ⟨_, pss_one (ps_ret (pe_and (pe_callB call_isi (by rfl) B.isinstance (by decide +kernel) (pa_cons (pv 1) (pa_cons (pe_glob (by rfl) T.g (v := .ref C) rfl) pa_nil))) (pe_one (pe_cmpR (op_eqD (by have := hr.units; exact this)) (pe_fld (pv 0) rfl) (pe_fld (pv 1) rfl) (nomark _))))), ?_⟩
    rcases h with ⟨u, ys, rfl, hu, hq⟩ | ⟨⟨ty, hty, hk⟩, hq⟩
    · obtain ⟨dx', q', f', k', p', qs', g1, g2, g3, g4, g5, g6⟩ := hu.ex
      refine ⟨_, rfl, _, _, _, _, true, rfl, .own C, .base (.ins g1 I.cl I.ha I.hn I.htk I.hm), I.me, _, rfl, iteT ?_⟩
      refine ⟨_, rfl, t, C, dx, _, _, rfl, h1, T.cl, T.nq, tf_q _ _ _ _, _, rfl, u, C, dx', _, _, rfl, g1, T.cl, T.nq, tf_q _ _ _ _, _, _, .tup (sqT h2) (rows_dp h3), .tup (sqT g2) (rows_dp g3), shaped_tup ht.val.ok, shaped_tup hu.val.ok, ?_⟩
      have e : PyData.eqv (.tuple (rs.map rowD)) (.tuple (ys.map rowD)) = decide (rs = ys) := by
        simp only [PyData.eqv]
        exact rows_eqv rs ys
      rw [e]
      exact hq
    · exact ⟨_, rfl, _, _, _, _, false, rfl, .own C, hty, hk, _, rfl, iteF hq⟩
theorem sc_Tree_rows : FnScope ["self"] ["self"] (defScope s_Tree_rows) := ⟨rfl, rfl, rfl, by decide +kernel, rfl, by decide +kernel, by decide +kernel⟩
theorem ok_Tree_rows {f : Addr} {fd : FuncData} (F : Fun K "rows" "Tree.rows" s_Tree_rows f fd) (B : TxB mg) (T : TxT K mg C) : FnOk P w K mg base CX0 2 f fd ["self"] (spRowsM C) := by
  refine F.ok sc_Tree_rows (fun vs H Q E h => ?_) (fun cdv A outer s H vs Q E hr h => ?_)
  · obtain ⟨t, rs, rfl, _⟩ := h
    rfl
  · obtain ⟨t, rs, rfl, ht, hq⟩ := h
    obtain ⟨dx, q, f, k, p, qs, h1, h2, h3, h4, h5, h6⟩ := ht.ex
    refine ⟨_, pss_one (ps_ret (pe_callTy call_list_of (by rfl) B.list (by decide +kernel) (pa_cons (pe_fld (pv 0) rfl) pa_nil))), ?_⟩
    exact ⟨_, rfl, t, C, dx, _, _, rfl, h1, T.cl, T.nq, tf_q _ _ _ _, q, _, rfl, .inr (sqT h2), fun l hl => hq l qs hl h3⟩
theorem sc_check_box : FnScope ["tree", "thing"] ["tree", "thing"] (defScope s_check_box) := ⟨rfl, rfl, rfl, by decide +kernel, rfl, by decide +kernel, by decide +kernel⟩
theorem ok_check_box (D : DefAt K mg "check_box" s_check_box ["tree", "thing"]) (M : MethAt K C "__contains__" "Tree.__contains__" s_Tree_contains ["self", "x"]) (B : TxB mg) (T : TxT K mg C) : FnOk P w K mg base CX0 3 D.f D.fd ["tree", "thing"] (spBox C) := by
  have G : FnOk P w K mg base CX0 2 M.f M.fd ["self", "x"] (spContains K C) := ok_Tree_contains M.F B T
  refine D.F.ok sc_check_box (fun vs H Q E h => ?_) (fun cdv A outer s H vs Q E hr h => ?_)
  · obtain ⟨t, z, rs, rfl, _⟩ := h
    rfl
  · obtain ⟨t, z, rs, rfl, ht, hz, hq⟩ := h
    obtain ⟨dx, q, f, k, p, qs, h1, h2⟩ := ht.ex
    refine ⟨_, pss_one (ps_if (pt_cmpR (op_notinC G M.m hr M.b pass0) (pv 1) (pv 0) (by rfl)) (pss_one ps_never) pss_nil), ?_⟩
    refine ⟨_, rfl, _, rfl, t, dx, _, rfl, h1, t, _, rs, rfl, ht, .inl ⟨z, rfl, _, rfl, _, rfl, ?_⟩⟩
    rw [decide_eq_true hz]
    exact iteF hq
theorem sc_is_place : FnScope ["tree", "thing"] ["tree", "thing"] (defScope s_is_place) := ⟨rfl, rfl, rfl, by decide +kernel, rfl, by decide +kernel, by decide +kernel⟩
theorem ok_is_place (D : DefAt K mg "is_place" s_is_place ["tree", "thing"]) (M : MethAt K C "__contains__" "Tree.__contains__" s_Tree_contains ["self", "x"]) (B : TxB mg) (TC : TxC K mg) (T : TxT K mg C) : FnOk P w K mg base CX0 3 D.f D.fd ["tree", "thing"] (spIsPlace C) := by
  have G : FnOk P w K mg base CX0 2 M.f M.fd ["self", "x"] (spContains K C) := ok_Tree_contains M.F B T
  obtain ⟨t1, gT⟩ := TC.top
  refine D.F.ok sc_is_place (fun vs H Q E h => ?_) (fun cdv A outer s H vs Q E hr h => ?_)
  · obtain ⟨t, z, rs, rfl, _⟩ := h
    rfl
  · obtain ⟨t, z, rs, rfl, ht, hq⟩ := h
    obtain ⟨dx, q, f, k, p, qs, h1, h2⟩ := ht.ex
    refine ⟨_, pss_one (ps_ret (pe_or (pe_cmpR op_eq (pv 1) (pe_glob (by rfl) gT (v := .str ("top" : Str)) ⟨_, rfl⟩) (nomark _)) (pe_one (pe_cmpR (op_inC G M.m hr M.b pass0) (pv 1) (pv 0) (by rfl))))), ?_⟩
    refine ⟨_, rfl, rfl, _, rfl, ?_⟩
    have e0 : decide (V.str z = V.str ("top" : Str)) = decide (z = ("top" : Str)) := decide_eq_decide.mpr ⟨fun h => V.str.inj h, fun h => congrArg _ h⟩
    rw [e0]
    refine ite2 (fun hc => ?_) (fun hc => ?_)
    · have hc' : z = ("top" : Str) := of_decide_eq_true hc
      rw [decide_eq_true (Or.inl hc')] at hq
      exact hq
    · have hc' : ¬ z = ("top" : Str) := fun e => hc (decide_eq_true e)
      refine ⟨_, rfl, _, rfl, t, dx, _, rfl, h1, t, _, rs, rfl, ht, .inl ⟨z, rfl, _, rfl, ?_⟩⟩
      have e1 : decide (z = ("top" : Str) ∨ z ∈ names rs) = decide (z ∈ names rs) := decide_eq_decide.mpr ⟨fun h => h.resolve_left hc', Or.inr⟩
      rw [e1] at hq
      exact hq
theorem sc_check_place : FnScope ["tree", "thing"] ["tree", "thing"] (defScope s_check_place) := ⟨rfl, rfl, rfl, by decide +kernel, rfl, by decide +kernel, by decide +kernel⟩
theorem ok_check_place (D : DefAt K mg "check_place" s_check_place ["tree", "thing"]) (Db : DefAt K mg "is_place" s_is_place ["tree", "thing"]) (Gb : FnOk P w K mg base CX0 3 Db.f Db.fd ["tree", "thing"] (spIsPlace C)) : FnOk P w K mg base CX0 4 D.f D.fd ["tree", "thing"] (spPlace C) := by
  refine D.F.ok sc_check_place (fun vs H Q E h => ?_) (fun cdv A outer s H vs Q E hr h => ?_)
  · obtain ⟨t, z, rs, rfl, _⟩ := h
    rfl
  · obtain ⟨t, z, rs, rfl, ht, hz, hq⟩ := h
    refine ⟨_, pss_one (ps_if (pt_not (pt_val (pe_call Gb hr rfl Db.g Db.F.kp Db.b .nil pass0 (pa_cons (pv 0) (pa_cons (pv 1) pa_nil))))) (pss_one ps_never) pss_nil), ?_⟩
    refine ⟨_, rfl, _, rfl, t, z, rs, rfl, ht, _, rfl, ?_⟩
    rw [decide_eq_true hz]
    exact iteF hq
theorem sc_Tree_folder : FnScope ["self", "box"] ["self", "box"] (defScope s_Tree_folder) := ⟨rfl, rfl, rfl, by decide +kernel, rfl, by decide +kernel, by decide +kernel⟩
theorem ok_Tree_folder {f : Addr} {fd : FuncData} (F : Fun K "folder" "Tree.folder" s_Tree_folder f fd) (Db : DefAt K mg "check_box" s_check_box ["tree", "thing"]) (Gb : FnOk P w K mg base CX0 3 Db.f Db.fd ["tree", "thing"] (spBox C)) (T : TxT K mg C) : FnOk P w K mg base CX0 4 f fd ["self", "box"] (spGet C (fun r => V.str r.fo)) := by
  refine F.ok sc_Tree_folder (fun vs H Q E h => ?_) (fun cdv A outer s H vs Q E hr h => ?_)
  · obtain ⟨t, z, rs, r, rfl, _⟩ := h
    rfl
  · obtain ⟨t, z, rs, r, rfl, ht, hz, hq⟩ := h
    have hu := hu_of hr
    obtain ⟨dx, q, f, k, p, qs, h1, h2, h3, h4, h5, h6⟩ := ht.ex
    refine ⟨_, pss_cons (ps_expr (pe_call Gb hr rfl Db.g Db.F.kp Db.b .nil pass0 (pa_cons (pv 0) (pa_cons (pv 1) pa_nil)))) (pss_one (ps_ret (pe_dget hu (pe_fld (pv 0) rfl) (pv 1) (fun _ _ => rfl)))), ?_⟩
    have hin : z ∈ names rs := List.mem_map.mpr ⟨r, List.mem_of_find?_eq_some hz, of_decide_eq_true (List.find?_some (p := fun (r : Row) => decide (r.nm = z)) (show rs.find? (fun (r : Row) => decide (r.nm = z)) = some r from hz))⟩
    refine ⟨_, rfl, _, rfl, t, z, rs, rfl, ht, hin, _, rfl, t, C, dx, _, _, rfl, h1, T.cl, T.nf, tf_f _ _ _ _, _, rfl, f, _, rfl, ?_, hq⟩
    have e := DGet.k (k := Sum.inr z) h4
    rw [valV_kvF, show (rs.find? fun r => decide (r.nm = z)) = some r from hz] at e
    exact e
theorem sc_Tree_kind : FnScope ["self", "box"] ["self", "box"] (defScope s_Tree_kind) := ⟨rfl, rfl, rfl, by decide +kernel, rfl, by decide +kernel, by decide +kernel⟩
theorem ok_Tree_kind {f : Addr} {fd : FuncData} (F : Fun K "kind" "Tree.kind" s_Tree_kind f fd) (Db : DefAt K mg "check_box" s_check_box ["tree", "thing"]) (Gb : FnOk P w K mg base CX0 3 Db.f Db.fd ["tree", "thing"] (spBox C)) (T : TxT K mg C) : FnOk P w K mg base CX0 4 f fd ["self", "box"] (spGet C (fun r => V.str r.ki)) := by
  refine F.ok sc_Tree_kind (fun vs H Q E h => ?_) (fun cdv A outer s H vs Q E hr h => ?_)
  · obtain ⟨t, z, rs, r, rfl, _⟩ := h
    rfl
  · obtain ⟨t, z, rs, r, rfl, ht, hz, hq⟩ := h
    have hu := hu_of hr
    obtain ⟨dx, q, f, k, p, qs, h1, h2, h3, h4, h5, h6⟩ := ht.ex
    refine ⟨_, pss_cons (ps_expr (pe_call Gb hr rfl Db.g Db.F.kp Db.b .nil pass0 (pa_cons (pv 0) (pa_cons (pv 1) pa_nil)))) (pss_one (ps_ret (pe_dget hu (pe_fld (pv 0) rfl) (pv 1) (fun _ _ => rfl)))), ?_⟩
    have hin : z ∈ names rs := List.mem_map.mpr ⟨r, List.mem_of_find?_eq_some hz, of_decide_eq_true (List.find?_some (p := fun (r : Row) => decide (r.nm = z)) (show rs.find? (fun (r : Row) => decide (r.nm = z)) = some r from hz))⟩
    refine ⟨_, rfl, _, rfl, t, z, rs, rfl, ht, hin, _, rfl, t, C, dx, _, _, rfl, h1, T.cl, T.nk, tf_k _ _ _ _, _, rfl, k, _, rfl, ?_, hq⟩
    have e := DGet.k (k := Sum.inr z) h5
    rw [valV_kvF, show (rs.find? fun r => decide (r.nm = z)) = some r from hz] at e
    exact e
theorem sc_Tree_price : FnScope ["self", "box"] ["self", "box"] (defScope s_Tree_price) := ⟨rfl, rfl, rfl, by decide +kernel, rfl, by decide +kernel, by decide +kernel⟩
theorem ok_Tree_price {f : Addr} {fd : FuncData} (F : Fun K "price" "Tree.price" s_Tree_price f fd) (Db : DefAt K mg "check_box" s_check_box ["tree", "thing"]) (Gb : FnOk P w K mg base CX0 3 Db.f Db.fd ["tree", "thing"] (spBox C)) (T : TxT K mg C) : FnOk P w K mg base CX0 4 f fd ["self", "box"] (spGet C (fun r => prV r.pr)) := by
  refine F.ok sc_Tree_price (fun vs H Q E h => ?_) (fun cdv A outer s H vs Q E hr h => ?_)
  · obtain ⟨t, z, rs, r, rfl, _⟩ := h
    rfl
  · obtain ⟨t, z, rs, r, rfl, ht, hz, hq⟩ := h
    have hu := hu_of hr
    obtain ⟨dx, q, f, k, p, qs, h1, h2, h3, h4, h5, h6⟩ := ht.ex
    refine ⟨_, pss_cons (ps_expr (pe_call Gb hr rfl Db.g Db.F.kp Db.b .nil pass0 (pa_cons (pv 0) (pa_cons (pv 1) pa_nil)))) (pss_one (ps_ret (pe_dget hu (pe_fld (pv 0) rfl) (pv 1) (fun _ _ => rfl)))), ?_⟩
    have hin : z ∈ names rs := List.mem_map.mpr ⟨r, List.mem_of_find?_eq_some hz, of_decide_eq_true (List.find?_some (p := fun (r : Row) => decide (r.nm = z)) (show rs.find? (fun (r : Row) => decide (r.nm = z)) = some r from hz))⟩
    refine ⟨_, rfl, _, rfl, t, z, rs, rfl, ht, hin, _, rfl, t, C, dx, _, _, rfl, h1, T.cl, T.np, tf_p _ _ _ _, _, rfl, p, _, rfl, ?_, hq⟩
    have e := DGet.k (k := Sum.inr z) h6
    rw [valV_kvF, show (rs.find? fun r => decide (r.nm = z)) = some r from hz] at e
    exact e
end
end Ts

set_option maxRecDepth 100000
set_option maxHeartbeats 4000000
namespace Ts
open PySem L2
/-! ### ways -/
def wayR : List Row → Str → List Str
  | [], _ => []
  | r :: rest, z => if r.nm = z then wayR rest r.fo ++ [z] else wayR rest z
def wayOf (rs : List Row) (z : Str) : List Str := wayR rs.reverse z
structure FitR (rest : List Row) (r : Row) : Prop where
  top : r.nm ≠ ("top" : Str)
  new : r.nm ∉ rest.map (·.nm)
  home : r.fo = ("top" : Str) ∨ r.fo ∈ rest.map (·.nm)
def ValidR : List Row → Prop
  | [] => True
  | r :: rest => FitR rest r ∧ ValidR rest
theorem Valid.init {rs : List Row} {r : Row} (h : Valid (rs ++ [r])) : Valid rs := fun i q hq => by
  have hi : i < rs.length := (List.getElem?_eq_some_iff.mp hq).1
  have f := h i q (by rw [List.getElem?_append_left hi]; exact hq)
  rw [List.take_append_of_le_length (Nat.le_of_lt hi)] at f
  exact f
theorem Valid.last {rs : List Row} {r : Row} (h : Valid (rs ++ [r])) : Fits rs r := by
  have f := h rs.length r (by simp)
  rw [List.take_append_of_le_length (Nat.le_refl _), List.take_length] at f
  exact f
theorem validR : ∀ l : List Row, Valid l.reverse → ValidR l
  | [], _ => trivial
  | r :: l, h => by
    rw [List.reverse_cons] at h
    have f := h.last
    refine ⟨⟨f.top, by simpa using f.new, ?_⟩, validR l h.init⟩
    rcases f.home with e | ⟨q, hq, e, _⟩
    · exact .inl e
    · exact .inr (List.mem_map.mpr ⟨q, List.mem_reverse.mp hq, e⟩)
theorem wayR_mem : ∀ {l : List Row} {z x : Str}, x ∈ wayR l z → x ∈ l.map (·.nm)
  | [], _, _, h => by cases h
  | r :: l, z, x, h => by
    unfold wayR at h
    by_cases e : r.nm = z
    · rw [if_pos e] at h
      rcases List.mem_append.mp h with h | h
      · exact List.mem_cons_of_mem _ (wayR_mem h)
      · rw [List.mem_singleton.mp h, ← e]; exact List.mem_cons_self ..
    · rw [if_neg e] at h
      exact List.mem_cons_of_mem _ (wayR_mem h)
theorem wayR_out : ∀ {l : List Row} {z : Str}, z ∉ l.map (·.nm) → wayR l z = []
  | [], _, _ => rfl
  | r :: l, z, h => by
    unfold wayR
    rw [if_neg fun e => h (List.mem_map.mpr ⟨r, List.mem_cons_self .., e⟩)]
    exact wayR_out fun q => h (List.mem_cons_of_mem _ q)
theorem ValidR.home : ∀ {l : List Row} {r : Row}, ValidR l → r ∈ l → r.fo = ("top" : Str) ∨ r.fo ∈ l.map (·.nm)
  | q :: l, r, h, hr => by
    rcases List.mem_cons.mp hr with e | hr
    · subst e; exact h.1.home.imp id (List.mem_cons_of_mem _)
    · exact (h.2.home hr).imp id (List.mem_cons_of_mem _)
theorem ValidR.top : ∀ {l : List Row}, ValidR l → ("top" : Str) ∉ l.map (·.nm)
  | [], _, h => by cases h
  | r :: l, h, hm => by
    rcases List.mem_cons.mp hm with e | hm
    · exact h.1.top e.symm
    · exact h.2.top hm
theorem wayR_step : ∀ {l : List Row} {r : Row}, ValidR l → r ∈ l → wayR l r.nm = wayR l r.fo ++ [r.nm]
  | q :: l, r, h, hr => by
    rcases List.mem_cons.mp hr with e | hr'
    · subst e
      have ne : ¬ r.nm = r.fo := fun e => by
        rcases h.1.home with e2 | e2
        · exact h.1.top (e.trans e2)
        · exact h.1.new (e ▸ e2)
      show (if r.nm = r.nm then wayR l r.fo ++ [r.nm] else wayR l r.nm) = (if r.nm = r.fo then wayR l r.fo ++ [r.fo] else wayR l r.fo) ++ [r.nm]
      rw [if_pos rfl, if_neg ne]
    · have n1 : ¬ q.nm = r.nm := fun e => h.1.new (List.mem_map.mpr ⟨r, hr', e.symm⟩)
      have n2 : ¬ q.nm = r.fo := fun e => by
        rcases h.2.home hr' with e2 | e2
        · exact h.1.top (e.trans e2)
        · exact h.1.new (e ▸ e2)
      show (if q.nm = r.nm then wayR l q.fo ++ [r.nm] else wayR l r.nm) = (if q.nm = r.fo then wayR l q.fo ++ [r.fo] else wayR l r.fo) ++ [r.nm]
      rw [if_neg n1, if_neg n2]
      exact wayR_step h.2 hr'
theorem Valid.r {rs : List Row} (h : Valid rs) : ValidR rs.reverse := validR rs.reverse (by rw [List.reverse_reverse]; exact h)
theorem way_step {rs : List Row} (h : Valid rs) {r : Row} (hr : r ∈ rs) : wayOf rs r.nm = wayOf rs r.fo ++ [r.nm] := wayR_step h.r (List.mem_reverse.mpr hr)
theorem way_out {rs : List Row} {z : Str} (h : z ∉ names rs) : wayOf rs z = [] := wayR_out (by rw [List.map_reverse]; exact fun q => h (List.mem_reverse.mp q))
theorem top_not {rs : List Row} (h : Valid rs) : ("top" : Str) ∉ names rs := fun q => h.r.top (by rw [List.map_reverse]; exact List.mem_reverse.mpr q)
theorem way_top {rs : List Row} (h : Valid rs) : wayOf rs ("top" : Str) = [] := way_out (top_not h)
theorem way_mem {rs : List Row} {z x : Str} (h : x ∈ wayOf rs z) : x ∈ names rs := by
  have q := wayR_mem h
  rw [List.map_reverse] at q
  exact List.mem_reverse.mp q
theorem way_self {rs : List Row} (h : Valid rs) {z : Str} (hz : z ∈ names rs) : z ∈ wayOf rs z := by
  obtain ⟨r, hr, rfl⟩ := List.mem_map.mp hz
  rw [way_step h hr]
  simp
theorem Valid.fo {rs : List Row} (h : Valid rs) {i : Nat} {r : Row} (hr : rs[i]? = some r) : r.fo = ("top" : Str) ∨ r.fo ∈ names (rs.take i) := by
  rcases (h i r hr).home with e | ⟨q, hq, e, _⟩
  · exact .inl e
  · exact .inr (List.mem_map.mpr ⟨q, hq, e⟩)
theorem names_take {rs : List Row} {i : Nat} {z : Str} (h : z ∈ names (rs.take i)) : z ∈ names rs := by
  obtain ⟨r, hr, rfl⟩ := List.mem_map.mp h
  exact List.mem_map.mpr ⟨r, List.mem_of_mem_take hr, rfl⟩
theorem names_at {rs : List Row} {i : Nat} {z : Str} (h : z ∈ names (rs.take i)) : ∃ j r, j < i ∧ rs[j]? = some r ∧ r.nm = z := by
  obtain ⟨r, hr, rfl⟩ := List.mem_map.mp h
  obtain ⟨j, hj, e⟩ := List.mem_iff_getElem.mp hr
  rw [List.length_take] at hj
  refine ⟨j, r, by omega, ?_, rfl⟩
  rw [← e, List.getElem_take]
  exact List.getElem?_eq_getElem _
theorem way_pre {rs : List Row} (h : Valid rs) : ∀ (i : Nat) {z x : Str}, z ∈ names (rs.take i) → x ∈ wayOf rs z → x ∈ names (rs.take i) := by
  intro i
  induction i using Nat.strongRecOn with
  | _ i ih =>
    intro z x hz hx
    obtain ⟨j, r, hj, hr, rfl⟩ := names_at hz
    rw [way_step h (List.mem_of_getElem? hr)] at hx
    rcases List.mem_append.mp hx with hx | hx
    · rcases h.fo hr with e | e
      · rw [e, way_top h] at hx; cases hx
      · have q := ih j hj e hx
        obtain ⟨j2, r2, hj2, hr2, rfl⟩ := names_at q
        exact List.mem_map.mpr ⟨r2, List.mem_take_iff_getElem.mpr ⟨j2, by have := (List.getElem?_eq_some_iff.mp hr2).1; omega, (List.getElem?_eq_some_iff.mp hr2).2⟩, rfl⟩
    · rw [List.mem_singleton.mp hx]; exact hz
/-- what lies within z -/
def isIn (rs : List Row) (z : Str) (r : Row) : Bool := decide (r.nm ≠ z) && (decide (z = ("top" : Str)) || decide (z ∈ wayOf rs r.nm))
def belowL (rs : List Row) (z : Str) : List Str := (rs.filter (isIn rs z)).map (·.nm)
def insideL (rs : List Row) (z : Str) : List Str := (rs.filter fun r => decide (r.fo = z)).map (·.nm)
theorem below_in {rs : List Row} (h : Valid rs) {z : Str} (hz : z = ("top" : Str) ∨ z ∈ names rs) {i : Nat} {r : Row} (hr : rs[i]? = some r) :
    decide (r.fo ∈ z :: ((rs.take i).filter (isIn rs z)).map (·.nm)) = isIn rs z r := by
  have hrm := List.mem_of_getElem? hr
  have hfo := h.fo hr
  have f := h i r hr
  have mem : ∀ x : Str, x ∈ ((rs.take i).filter (isIn rs z)).map (·.nm) ↔ (x ∈ names (rs.take i) ∧ x ≠ z ∧ (z = ("top" : Str) ∨ z ∈ wayOf rs x)) := by
    intro x
    constructor
    · intro hx
      obtain ⟨q, hq, rfl⟩ := List.mem_map.mp hx
      obtain ⟨h1, h2⟩ := List.mem_filter.mp hq
      unfold isIn at h2
      simp at h2
      exact ⟨List.mem_map.mpr ⟨q, h1, rfl⟩, h2.1, h2.2⟩
    · rintro ⟨hx, h1, h2⟩
      obtain ⟨q, hq, rfl⟩ := List.mem_map.mp hx
      refine List.mem_map.mpr ⟨q, List.mem_filter.mpr ⟨hq, ?_⟩, rfl⟩
      unfold isIn
      simp
      exact ⟨h1, h2⟩
  by_cases e : r.nm = z
  · have e1 : isIn rs z r = false := by unfold isIn; simp [e]
    rw [e1]
    refine decide_eq_false fun hm => ?_
    rcases List.mem_cons.mp hm with q | q
    · rcases hfo with e2 | e2
      · exact f.top (e.trans (q.symm.trans e2))
      · rw [q, ← e] at e2; exact f.new e2
    · obtain ⟨q1, q2, q3⟩ := (mem _).mp q
      rcases q3 with q3 | q3
      · exact f.top (e.trans q3)
      · have := way_pre h i q1 q3
        rw [← e] at this
        exact f.new this
  · have e1 : isIn rs z r = (decide (z = ("top" : Str)) || decide (z ∈ wayOf rs r.nm)) := by unfold isIn; simp [e]
    rw [e1]
    have w : z ∈ wayOf rs r.nm ↔ z ∈ wayOf rs r.fo := by
      rw [way_step h hrm, List.mem_append, List.mem_singleton]
      exact ⟨fun q => q.resolve_right fun q => e q.symm, .inl⟩
    by_cases ht : z = ("top" : Str)
    · rw [decide_eq_true ht, Bool.true_or]
      refine decide_eq_true ?_
      rcases hfo with e2 | e2
      · rw [e2, ht]; exact List.mem_cons_self ..
      · refine List.mem_cons_of_mem _ ((mem _).mpr ⟨e2, fun q => ?_, .inl ht⟩)
        rw [q, ht] at e2
        exact top_not h (names_take e2)
    · rw [decide_eq_false ht, Bool.false_or]
      refine decide_eq_decide.mpr ?_
      rw [w]
      constructor
      · intro hm
        rcases List.mem_cons.mp hm with q | q
        · rw [q]; exact way_self h (hz.resolve_left ht)
        · exact ((mem _).mp q).2.2.resolve_left ht
      · intro hm
        by_cases q : r.fo = z
        · rw [q]; exact List.mem_cons_self ..
        · rcases hfo with e2 | e2
          · rw [e2, way_top h] at hm; cases hm
          · exact List.mem_cons_of_mem _ ((mem _).mpr ⟨e2, q, .inr hm⟩)
end Ts

set_option maxRecDepth 100000
set_option maxHeartbeats 4000000
namespace Ts
open PySem L2
def kvB (l : List Str) : List (Key × V) := l.map fun x => (.inr x, .bl true)
theorem valV_kvB (z : Str) : ∀ l : List Str, (valV (kvB l) (.inr z : Key)).isSome = decide (z ∈ l)
  | [] => by simp [kvB, valV]
  | x :: l => by
    have ih := valV_kvB z l
    show (valV ((.inr x, V.bl true) :: kvB l) (.inr z : Key)).isSome = _
    by_cases e : x = z
    · rw [valV_pos (by rw [e])]
      subst e
      simp
    · rw [valV_neg (fun q => e (Sum.inr.inj q)), ih]
      have e' : ¬ z = x := fun q => e q.symm
      simp [e']
theorem kvB_put {l : List Str} {x : Str} (h : x ∉ l) : putK (kvB l) (.inr x) (.bl true) = kvB (l ++ [x]) := by
  rw [putK_new]
  · unfold kvB; rw [List.map_append]; rfl
  · have q := valV_kvB x l
    rw [decide_eq_false h] at q
    simpa using q
def spListOf (C : Addr) (g : List Row → Str → List Str) : Sp := fun vs H Q _ => ∃ (t : Addr) (z : Str) (rs : List Row), vs = [.ref t, .str z] ∧ TreeAt C H t rs ∧ (z = ("top" : Str) ∨ z ∈ names rs) ∧
  ∀ D H', H D = none → Same H H' → H' D = some (.lst ((g rs z).map V.str)) → Q (.ref D) H'
theorem filter_take {rs : List Row} {i : Nat} {r : Row} (h : rs[i]? = some r) (p : Row → Bool) : ((rs.take (i + 1)).filter p).map (·.nm) = ((rs.take i).filter p).map (·.nm) ++ (if p r = true then [r.nm] else []) := by
  rw [take_more h, List.filter_append, List.map_append]
  by_cases e : p r = true
  · rw [if_pos e, List.filter_cons_of_pos e]; rfl
  · rw [if_neg e, List.filter_cons_of_neg e]; rfl
theorem kvF_at {g : Row → V} {rs : List Row} {i : Nat} {k : Key} {v : V} (h : (kvF g rs)[i]? = some (k, v)) : ∃ r, rs[i]? = some r ∧ k = .inr r.nm ∧ v = g r := by
  unfold kvF at h
  rw [List.getElem?_map] at h
  obtain ⟨r, e, q⟩ := Option.map_eq_some_iff.mp h
  injection q with q1 q2
  exact ⟨r, e, q1.symm, q2.symm⟩
theorem rowOf_at {rs : List Row} (h : Valid rs) {i : Nat} {r : Row} (hr : rs[i]? = some r) : rowOf rs r.nm = some r := by
  unfold rowOf
  rw [List.find?_eq_some_iff_getElem]
  have hi := (List.getElem?_eq_some_iff.mp hr).1
  refine ⟨decide_eq_true rfl, i, hi, (List.getElem?_eq_some_iff.mp hr).2, fun j hj => ?_⟩
  simp only [Bool.not_eq_true', decide_eq_false_iff_not]
  intro e
  exact (h i r hr).new (List.mem_map.mpr ⟨rs[j], List.mem_take_iff_getElem.mpr ⟨j, by omega, rfl⟩, e⟩)
section
variable {P : Program} {w : World} {K : PySem.W.Frag} {mg : Str → Option Value} {base : Heap} {C : Addr}
abbrev nBelow : List Str := ["self", "box", "within", "name"]
theorem sc_Tree_below : FnScope nBelow ["self", "box"] (defScope s_Tree_below) := ⟨rfl, rfl, rfl, by decide +kernel, rfl, by decide +kernel, by decide +kernel⟩
theorem cutV_tail (x : V) (xs : List V) : cutV (x :: xs) (some 1) none = xs := by
  unfold cutV
  rw [HT.sIx_none, show HT.sIx (x :: xs).length 0 (some 1) = 1 from by rw [show (some 1 : Option Int) = some ((1 : Nat) : Int) from rfl, HT.sIx_nat, List.length_cons]; omega]
  show (xs.take ((x :: xs).length - 1)) = xs
  rw [List.length_cons, Nat.add_sub_cancel, List.take_length]
theorem ok_Tree_below {f : Addr} {fd : FuncData} (F : Fun K "below" "Tree.below" s_Tree_below f fd) (Dp : DefAt K mg "check_place" s_check_place ["tree", "thing"]) (Gp : FnOk P w K mg base CX0 4 Dp.f Dp.fd ["tree", "thing"] (spPlace C)) (B : TxB mg) (T : TxT K mg C) : FnOk P w K mg base CX0 5 f fd ["self", "box"] (spListOf C belowL) := by
  refine F.ok sc_Tree_below (fun vs H Q E h => ?_) (fun cdv A outer s H vs Q E hr h => ?_)
  · obtain ⟨t, z, rs, rfl, _⟩ := h
    rfl
  · obtain ⟨t, z, rs, rfl, ht, hz, hq⟩ := h
    have hu := hu_of hr
    obtain ⟨dx, q, f, k, p, qs, h1, h2, h3, h4, h5, h6⟩ := ht.ex
    refine ⟨_, pss_cons (ps_expr (pe_call Gp hr rfl Dp.g Dp.F.kp Dp.b .nil pass0 (pa_cons (pv 0) (pa_cons (pv 1) pa_nil))))
      (pss_cons (ps_set (i := 2) sc_Tree_below.nd rfl (.inl rfl) (pe_disp (pps_cons (pv 1) pe_bl pps_nil) (by rfl) (by rfl) (fun z => by cases z) (by decide)))
      (pss_cons (ps_lock (ps_for PassesOwn.never rfl (pi_keys (pe_fld (pv 0) rfl)) (pg_name (i := 3) sc_Tree_below.nd rfl (.inl rfl))
        (pss_one (ps_if (pt_cmp (pc_din hu (pe_dget hu (pe_fld (pv 0) rfl) (pv 3) (fun _ _ => rfl)) (pv 2))) (pss_one (ps_dput hu (pv 2) (pv 3) pe_bl rfl)) pss_nil))))
      (pss_one (ps_ret (pe_slice sl_list (pe_callTy (call_list_dK rfl) (by rfl) B.list (by decide +kernel) (pa_cons (pv 2) pa_nil)) (po_some pe_int) po_none))))), ?_⟩
    refine ⟨_, rfl, _, rfl, t, z, rs, rfl, ht, hz, ?_⟩
    refine fun wd hwd => ⟨_, rfl, upd_same, [(.inr z, .bl true)], rfl, (by show 1 ≤ 15; decide), ?_⟩
    have tw : t ≠ wd := ne_of_none h1 hwd
    have fw : f ≠ wd := ne_of_none h4 hwd
    have tf_ : t ≠ f := ne_of h1 h4 (by intro x; cases x)
    have fw' : f ≠ wd := fw
    refine ⟨f, _, Eq.trans (upd_ne fw) (Eq.trans (upd_ne fw) h4), trivial, fun od => ?_⟩
    obtain ⟨Hl, El⟩ : ∃ Hx, Hx = upd (upd (upd H wd (.dK [])) wd (.dK (mergeK [] [(.inr z, .bl true)]))) f (.frz od (.dK (kvF (fun r => .str r.fo) rs))) := ⟨_, rfl⟩
    have l1 : Hl t = some (.ins C dx (tf q f k p)) := by rw [El, upd_ne tf_, upd_ne tw, upd_ne tw]; exact h1
    have l2 : Hl f = some (.frz od (.dK (kvF (fun r => .str r.fo) rs))) := by rw [El]; exact upd_same
    have l3 : Hl wd = some (.dK (kvB [z])) := by rw [El, upd_ne fw.symm]; exact upd_same
    have l4 : ∀ b o, b ≠ f → H b = some o → Hl b = some o := fun b o nb e => by rw [El, upd_ne nb, upd_ne (ne_of_none e hwd), upd_ne (ne_of_none e hwd)]; exact e
    have l5 : Same Hl Hl := Same.refl _
    rw [← El]
    clear El
    refine ⟨_, rfl, t, C, dx, _, _, rfl, l1, T.cl, T.nf, tf_f _ _ _ _, f, od, rfl, .inl ⟨_, l2, ?_⟩⟩
    refine for_it (walk_keys (d := f) (o := od) (kvs := kvF (fun r => .str r.fo) rs)) (fun i σ H' => ∃ v : Option V, σ = [some (.ref t), some (.str z), some (.ref wd), v] ∧ SB wd Hl H' ∧ H' wd = some (.dK (kvB (z :: ((rs.take i).filter (isIn rs z)).map (·.nm)))))
      ⟨none, rfl, SB.refl _ _, l3⟩ (fun i σ H' _ ⟨_, _, sb, _⟩ => sb _ _ fw l2) ?_ ?_
    · rintro i x σ H2 H2' hi ⟨v, rfl, sb, hw⟩ ⟨rfl, k', v', hk, rfl⟩
      obtain ⟨r, hr', rfl, rfl⟩ := kvF_at hk
      have e1 : H2' t = some (.ins C dx (tf q f k p)) := sb _ _ tw l1
      have e2 : H2' f = some (.frz od (.dK (kvF (fun r => .str r.fo) rs))) := sb _ _ fw l2
      have dg : DGet H2' f (.str r.nm) (some (.str r.fo)) := by
        have e := rowOf_at ht.val hr'
        refine .inl ⟨_, .inr r.nm, .inr ⟨od, e2⟩, rfl, ?_⟩
        rw [valV_kvF, show (rs.find? fun r' => decide (r'.nm = r.nm)) = some r from e]
        rfl
      refine ⟨_, rfl, t, C, dx, _, _, rfl, e1, T.cl, T.nf, tf_f _ _ _ _, _, rfl, f, _, rfl, dg, _, rfl, wd, _, rfl, DGet.k (k := Sum.inr r.fo) hw, _, rfl, ?_⟩
      rw [valV_kvB, below_in ht.val hz hr']
      have i100 : i < 100 := by
        have := (List.getElem?_eq_some_iff.mp hr').1
        have := ht.len
        omega
      refine ite2 (fun hc => ?_) (fun hc => ?_)
      · have nw : r.nm ∉ z :: ((rs.take i).filter (isIn rs z)).map (·.nm) := fun hm => by
          rcases List.mem_cons.mp hm with y | y
          · unfold isIn at hc
            simp [y] at hc
          · obtain ⟨q1, hq1, e⟩ := List.mem_map.mp y
            exact (ht.val i r hr').new (List.mem_map.mpr ⟨q1, (List.mem_filter.mp hq1).1, e⟩)
        refine ⟨_, rfl, _, rfl, wd, _, rfl, DPut.k (k := Sum.inr r.nm) hw (small1000 ?_), ?_⟩
        · unfold kvB
          rw [List.length_map, List.length_cons, List.length_map]
          have := List.length_filter_le (isIn rs z) (rs.take i)
          rw [List.length_take] at this
          omega
        · refine ⟨_, rfl, fun b o nb e => by rw [upd_ne nb]; exact sb b o nb e, ?_⟩
          rw [upd_same, kvB_put nw, filter_take hr', if_pos hc]
          rfl
      · refine ⟨_, rfl, sb, ?_⟩
        rw [filter_take hr', if_neg hc, List.append_nil]
        exact hw
    · rintro σ H2 ⟨v, rfl, sb, hw⟩
      have e : (kvF (fun r => V.str r.fo) rs).length = rs.length := by unfold kvF; rw [List.length_map]
      rw [e, List.take_length] at hw
      refine ⟨sb _ _ fw l2, ?_⟩
      have hw' : (upd H2 f (.dK (kvF (fun r => .str r.fo) rs))) wd = some (.dK (kvB (z :: belowL rs z))) := by rw [upd_ne fw.symm]; exact hw
      have sH : Same H (upd H2 f (.dK (kvF (fun r => .str r.fo) rs))) := fun b o eb => by
        by_cases hb : b = f
        · rw [hb, upd_same, ← h4, ← hb]; exact eb
        · rw [upd_ne hb]
          exact sb b o (ne_of_none eb hwd) (l4 b o hb eb)
      refine ⟨_, rfl, wd, _, rfl, hw', fun u hu' => ⟨_, rfl, u, _, rfl, SqL.of upd_same, fun D hD => ?_⟩⟩
      refine hq D _ ?_ ((sH.trans (Same.new hu')).trans (Same.new hD)) ?_
      · exact (sH.trans (Same.new hu')).free hD
      · have e3 : (kvB (z :: belowL rs z)).map (fun kv => kV kv.1) = V.str z :: (belowL rs z).map V.str := by
          unfold kvB
          rw [List.map_map]
          rfl
        rw [upd_same, e3, cutV_tail]
end
end Ts

set_option maxRecDepth 100000
set_option maxHeartbeats 4000000
namespace Ts
open PySem L2
/-- a list of rows, all tuples -/
structure RowsL (H : Hp) (p : Addr) (rs : List Row) : Prop where
  ex : ∃ as : List Addr, H p = some (.lst (as.map V.ref)) ∧ RowsAt H as rs
theorem RowsL.same {H H' : Hp} {p : Addr} {rs : List Row} (h : RowsL H p rs) (s : Same H H') : RowsL H' p rs := by
  obtain ⟨as, h1, h2⟩ := h.ex
  exact ⟨as, s _ _ h1, h2.same s⟩
def spWay : Sp := fun vs H Q _ => ∃ (p : Addr) (z : Str) (rs : List Row), vs = [.ref p, .str z] ∧ RowsL H p rs ∧ Valid rs ∧ rs.length ≤ 100 ∧ (z = ("top" : Str) ∨ z ∈ names rs) ∧
  ∀ D H', H D = none → Same H H' → H' D = some (.lst ((wayOf rs z).map V.str)) → Q (.ref D) H'
theorem atI0 (a b c d : V) : atI [a, b, c, d] 0 = some a := rfl
theorem atI1 (a b c d : V) : atI [a, b, c, d] 1 = some b := rfl
theorem atI2 (a b c d : V) : atI [a, b, c, d] 2 = some c := rfl
theorem atI3 (a b c d : V) : atI [a, b, c, d] 3 = some d := rfl
theorem merge_kvF (g : Row → V) {rs : List Row} (h : Valid rs) : ∀ n, n ≤ rs.length → mergeK [] (kvF g (rs.take n)) = kvF g (rs.take n) := by
  intro n
  induction n with
  | zero => intro _; rfl
  | succ n ih =>
    intro hn
    have hr : rs[n]? = some rs[n] := List.getElem?_eq_getElem (by omega)
    have e : kvF g (rs.take (n + 1)) = kvF g (rs.take n) ++ [(.inr rs[n].nm, g rs[n])] := by
      rw [take_more hr]; unfold kvF; rw [List.map_append]; rfl
    rw [e]
    unfold mergeK
    rw [List.foldl_append]
    have ih' := ih (by omega)
    unfold mergeK at ih'
    rw [ih']
    show putK (kvF g (rs.take n)) (.inr rs[n].nm) (g rs[n]) = _
    rw [kvF_more hr (h n _ hr).new, e]
theorem merge_all (g : Row → V) {rs : List Row} (h : Valid rs) : mergeK [] (kvF g rs) = kvF g rs := by
  have := merge_kvF g h rs.length (Nat.le_refl _)
  rw [List.take_length] at this
  exact this
def muWay (rs : List Row) : List (Option V) → Hp → Nat
  | _ :: some (.str z) :: _, _ => (wayOf rs z).length
  | _, _ => 0
theorem way_len {rs : List Row} {z : Str} : (wayOf rs z).length ≤ rs.length := by
  have : ∀ (l : List Row) (z : Str), (wayR l z).length ≤ l.length := by
    intro l
    induction l with
    | nil => intro z; exact Nat.le_refl _
    | cons r l ih =>
      intro z
      unfold wayR
      split
      · rw [List.length_append, List.length_singleton, List.length_cons]; have := ih r.fo; omega
      · rw [List.length_cons]; have := ih z; omega
  have q := this rs.reverse z
  rw [List.length_reverse] at q
  exact q
theorem Valid.foAll {rs : List Row} (h : Valid rs) {r : Row} (hr : r ∈ rs) : r.fo = ("top" : Str) ∨ r.fo ∈ names rs := by
  obtain ⟨i, hi, e⟩ := List.mem_iff_getElem.mp hr
  have := h.fo (i := i) (r := r) (by rw [← e]; exact List.getElem?_eq_getElem hi)
  exact this.imp id names_take
section
variable {P : Program} {w : World} {K : PySem.W.Frag} {mg : Str → Option Value} {base : Heap} {C : Addr}
abbrev nWay : List Str := ["_law_rows_here", "_law_box", "_law_folders", "_law_found", "_law_row"]
end
end Ts

set_option maxRecDepth 100000
set_option maxHeartbeats 4000000
namespace Ts
open PySem L2
/-! ### what changes a tree -/
theorem Valid.append {pre L : List Row} (h : Valid pre) (k : ∀ i r, L[i]? = some r → Fits (pre ++ L.take i) r) : Valid (pre ++ L) := by
  intro i r hr
  rcases Nat.lt_or_ge i pre.length with hi | hi
  · rw [List.getElem?_append_left hi] at hr
    rw [List.take_append_of_le_length (Nat.le_of_lt hi)]
    exact h i r hr
  · rw [List.getElem?_append_right hi] at hr
    have e : (pre ++ L).take i = pre ++ L.take (i - pre.length) := by
      rw [List.take_append, List.take_of_length_le hi]
    rw [e]
    exact k _ _ hr
/-- where a kept row stood -/
theorem filter_at {p : Row → Bool} : ∀ {rs : List Row} {i : Nat} {r : Row}, (rs.filter p)[i]? = some r → ∃ j, rs[j]? = some r ∧ p r = true ∧ (rs.filter p).take i = (rs.take j).filter p
  | [], _, _, h => by simp at h
  | q :: rs, i, r, h => by
    by_cases e : p q = true
    · rw [List.filter_cons_of_pos e] at h ⊢
      cases i with
      | zero =>
        have : q = r := by simpa using h
        subst this
        exact ⟨0, rfl, e, by simp⟩
      | succ i =>
        obtain ⟨j, h1, h2, h3⟩ := filter_at (rs := rs) (i := i) (r := r) (by simpa using h)
        refine ⟨j + 1, by simpa using h1, h2, ?_⟩
        rw [List.take_succ_cons, List.take_succ_cons, List.filter_cons_of_pos e, h3]
    · rw [List.filter_cons_of_neg e] at h ⊢
      obtain ⟨j, h1, h2, h3⟩ := filter_at (rs := rs) (i := i) (r := r) h
      refine ⟨j + 1, by simpa using h1, h2, ?_⟩
      rw [List.take_succ_cons, List.filter_cons_of_neg e, h3]
theorem Valid.filter {rs : List Row} {p : Row → Bool} (h : Valid rs) (hp : ∀ r ∈ rs, p r = true → ∀ q ∈ rs, q.nm = r.fo → p q = true) : Valid (rs.filter p) := by
  intro i r hr
  obtain ⟨j, h1, h2, h3⟩ := filter_at hr
  rw [h3]
  have f := h j r h1
  refine ⟨f.shape, f.top, fun hm => ?_, ?_, f.kind, f.price⟩
  · obtain ⟨q, hq, e⟩ := List.mem_map.mp hm
    exact f.new (List.mem_map.mpr ⟨q, (List.mem_filter.mp hq).1, e⟩)
  · rcases f.home with e | ⟨q, hq, e1, e2⟩
    · exact .inl e
    · exact .inr ⟨q, List.mem_filter.mpr ⟨hq, hp r (List.mem_of_getElem? h1) h2 q (List.mem_of_mem_take hq) e1⟩, e1, e2⟩
/-- what lies beneath z, z with it -/
def under (rs : List Row) (z : Str) (r : Row) : Bool := decide (z ∈ wayOf rs r.nm)
theorem under_self {rs : List Row} (h : Valid rs) {z : Str} {r : Row} (hr : r ∈ rs) (e : r.nm = z) : under rs z r = true := by
  unfold under
  rw [← e]
  exact decide_eq_true (way_self h (List.mem_map.mpr ⟨r, hr, rfl⟩))
theorem under_iff {rs : List Row} (h : Valid rs) {z : Str} (hz : z ≠ ("top" : Str)) {r : Row} (hr : r ∈ rs) : under rs z r = (decide (r.nm = z) || isIn rs z r) := by
  by_cases e : r.nm = z
  · rw [under_self h hr e, decide_eq_true e, Bool.true_or]
  · rw [decide_eq_false e, Bool.false_or]
    unfold isIn under
    rw [decide_eq_true e, decide_eq_false hz, Bool.true_and, Bool.false_or]
theorem gone_iff {rs : List Row} (h : Valid rs) {z : Str} (hz : z ≠ ("top" : Str)) {r : Row} (hr : r ∈ rs) : decide (r.nm ∈ z :: belowL rs z) = under rs z r := by
  rw [under_iff h hz hr]
  by_cases e : r.nm = z
  · rw [decide_eq_true e, Bool.true_or]
    exact decide_eq_true (by rw [e]; exact List.mem_cons_self ..)
  · rw [decide_eq_false e, Bool.false_or]
    by_cases i : isIn rs z r = true
    · rw [i]
      exact decide_eq_true (List.mem_cons_of_mem _ (List.mem_map.mpr ⟨r, List.mem_filter.mpr ⟨hr, i⟩, rfl⟩))
    · rw [Bool.not_eq_true] at i
      rw [i]
      refine decide_eq_false fun hm => ?_
      rcases List.mem_cons.mp hm with q | q
      · exact e q
      · obtain ⟨r2, h2, e2⟩ := List.mem_map.mp q
        obtain ⟨h3, h4⟩ := List.mem_filter.mp h2
        unfold isIn at h4 i
        rw [e2] at h4
        rw [h4] at i
        cases i
/-- a row whose folder lies beneath z does so, too -/
theorem under_up {rs : List Row} (h : Valid rs) {z : Str} {r q : Row} (hr : r ∈ rs) (hq : q ∈ rs) (e : q.nm = r.fo) (hu : under rs z q = true) : under rs z r = true := by
  unfold under at hu ⊢
  rw [way_step h hr, ← e]
  exact decide_eq_true (List.mem_append_left _ (of_decide_eq_true hu))
def lessL (rs : List Row) (z : Str) : List Row := rs.filter fun r => !under rs z r
theorem less_valid {rs : List Row} (h : Valid rs) (z : Str) : Valid (lessL rs z) :=
  h.filter fun r hr hp q hq e => by
    cases hu : under rs z q with
    | false => rfl
    | true => rw [under_up h hr hq e hu] at hp; cases hp
/-- the rows behind a move -/
def movedL (rs : List Row) (m : Row) (fo : Str) : List Row := lessL rs m.nm ++ ({ m with fo := fo } :: rs.filter (isIn rs m.nm))
theorem moved_valid {rs : List Row} (h : Valid rs) {m : Row} (hm : m ∈ rs) {fo : Str} (hf : fo = ("top" : Str) ∨ ∃ q ∈ rs, q.nm = fo ∧ q.ki = ("folder" : Str) ∧ under rs m.nm q = false) : Valid (movedL rs m fo) := by
  have mt : m.nm ≠ ("top" : Str) := fun e => top_not h (by rw [← e]; exact List.mem_map.mpr ⟨m, hm, rfl⟩)
  obtain ⟨k, hk, ek⟩ := List.mem_iff_getElem.mp hm
  have fm := h k m (by rw [← ek]; exact List.getElem?_eq_getElem hk)
  have v1 : Valid (lessL rs m.nm ++ [{ m with fo := fo }]) := by
    refine (less_valid h m.nm).snoc ⟨fm.shape, fm.top, fun hx => ?_, ?_, fm.kind, fm.price⟩
    · obtain ⟨q, hq, e⟩ := List.mem_map.mp hx
      obtain ⟨q1, q2⟩ := List.mem_filter.mp hq
      rw [under_self h q1 e] at q2
      cases q2
    · rcases hf with e | ⟨q, hq, e1, e2, e3⟩
      · exact .inl e
      · exact .inr ⟨q, List.mem_filter.mpr ⟨hq, by rw [e3]; rfl⟩, e1, e2⟩
  have e : movedL rs m fo = (lessL rs m.nm ++ [{ m with fo := fo }]) ++ rs.filter (isIn rs m.nm) := by unfold movedL; simp
  rw [e]
  refine v1.append fun i r hr => ?_
  obtain ⟨j, h1, h2, h3⟩ := filter_at hr
  have f := h j r h1
  have hrm := List.mem_of_getElem? h1
  have ur : under rs m.nm r = true := by rw [under_iff h mt hrm, h2, Bool.or_true]
  have nz : r.nm ≠ m.nm := fun e => by unfold isIn at h2; simp [e] at h2
  rw [h3]
  refine ⟨f.shape, f.top, fun hx => ?_, ?_, f.kind, f.price⟩
  · rw [List.map_append, List.map_append] at hx
    rcases List.mem_append.mp hx with hx | hx
    · rcases List.mem_append.mp hx with hx | hx
      · obtain ⟨q, hq, e⟩ := List.mem_map.mp hx
        obtain ⟨q1, q2⟩ := List.mem_filter.mp hq
        have : under rs m.nm q = true := by unfold under at ur ⊢; rw [e]; exact ur
        rw [this] at q2
        cases q2
      · simp at hx
        exact nz hx
    · obtain ⟨q, hq, e⟩ := List.mem_map.mp hx
      exact f.new (List.mem_map.mpr ⟨q, (List.mem_filter.mp hq).1, e⟩)
  · rcases f.home with e | ⟨q, hq, e1, e2⟩
    · exfalso
      unfold isIn at h2
      rw [decide_eq_true nz, decide_eq_false mt, Bool.true_and, Bool.false_or, way_step h hrm, e, way_top h] at h2
      simp at h2
      exact nz h2.symm
    · by_cases eq1 : q.nm = m.nm
      · have : q = m := by
          have a := rowOf_at h (i := k) (r := m) (by rw [← ek]; exact List.getElem?_eq_getElem hk)
          obtain ⟨k2, hk2, ek2⟩ := List.mem_iff_getElem.mp (List.mem_of_mem_take hq)
          have b := rowOf_at h (i := k2) (r := q) (by rw [← ek2]; exact List.getElem?_eq_getElem hk2)
          rw [eq1, a] at b
          exact (Option.some.inj b).symm
        subst this
        exact .inr ⟨{ q with fo := fo }, by simp, e1, e2⟩
      · refine .inr ⟨q, List.mem_append_right _ (List.mem_filter.mpr ⟨hq, ?_⟩), e1, e2⟩
        have hqm := List.mem_of_mem_take hq
        have : under rs m.nm q = true := by
          unfold under at ur ⊢
          rw [way_step h hrm, ← e1] at ur
          have := of_decide_eq_true ur
          rcases List.mem_append.mp this with x | x
          · exact decide_eq_true x
          · exact absurd (List.mem_singleton.mp x).symm nz
        rw [under_iff h mt hqm, decide_eq_false eq1, Bool.false_or] at this
        exact this
theorem names_inj {rs : List Row} (h : Valid rs) {q m : Row} (hq : q ∈ rs) (hm : m ∈ rs) (e : q.nm = m.nm) : q = m := by
  obtain ⟨k, hk, ek⟩ := List.mem_iff_getElem.mp hm
  obtain ⟨k2, hk2, ek2⟩ := List.mem_iff_getElem.mp hq
  have a := rowOf_at h (i := k) (r := m) (by rw [← ek]; exact List.getElem?_eq_getElem hk)
  have b := rowOf_at h (i := k2) (r := q) (by rw [← ek2]; exact List.getElem?_eq_getElem hk2)
  rw [e, a] at b
  exact (Option.some.inj b).symm
/-- of all beneath z, z stands first -/
theorem under_split {rs : List Row} (h : Valid rs) {m : Row} (hm : m ∈ rs) : rs.filter (under rs m.nm) = m :: rs.filter (isIn rs m.nm) := by
  have mt : m.nm ≠ ("top" : Str) := fun e => top_not h (by rw [← e]; exact List.mem_map.mpr ⟨m, hm, rfl⟩)
  obtain ⟨k, hk, ek⟩ := List.mem_iff_getElem.mp hm
  have hkm : rs[k]? = some m := by rw [← ek]; exact List.getElem?_eq_getElem hk
  have e0 : rs = rs.take k ++ m :: rs.drop (k + 1) := by
    rw [← ek, List.getElem_cons_drop, List.take_append_drop]
  have a1 : (rs.take k).filter (under rs m.nm) = [] := by
    rw [List.filter_eq_nil_iff]
    intro q hq hu
    have hqn : q.nm ∈ names (rs.take k) := List.mem_map.mpr ⟨q, hq, rfl⟩
    exact (h k m hkm).new (way_pre h k hqn (of_decide_eq_true hu))
  have a2 : (rs.take k).filter (isIn rs m.nm) = [] := by
    rw [List.filter_eq_nil_iff]
    intro q hq hu
    have hqr := List.mem_of_mem_take hq
    have : under rs m.nm q = true := by rw [under_iff h mt hqr, hu, Bool.or_true]
    exact (List.filter_eq_nil_iff.mp a1) q hq this
  have b1 : under rs m.nm m = true := under_self h hm rfl
  have b2 : isIn rs m.nm m = false := by unfold isIn; simp
  have c1 : (rs.drop (k + 1)).filter (under rs m.nm) = (rs.drop (k + 1)).filter (isIn rs m.nm) := by
    refine List.filter_congr fun q hq => ?_
    have hqr := List.mem_of_mem_drop hq
    rw [under_iff h mt hqr]
    have : ¬ q.nm = m.nm := fun e => by
      have e2 := names_inj h hqr hm e
      rw [e2] at hq
      obtain ⟨j, hj, ej⟩ := List.mem_iff_getElem.mp hq
      rw [List.getElem_drop] at ej
      rw [List.length_drop] at hj
      have f := h (k + 1 + j) m (by rw [← ej]; exact List.getElem?_eq_getElem _)
      exact f.new (List.mem_map.mpr ⟨m, List.mem_take_iff_getElem.mpr ⟨k, by omega, ek⟩, rfl⟩)
    rw [decide_eq_false this, Bool.false_or]
  have l : ∀ p : Row → Bool, rs.filter p = (rs.take k).filter p ++ (m :: rs.drop (k + 1)).filter p := fun p => by
    rw [← List.filter_append, ← e0]
  rw [l (under rs m.nm), l (isIn rs m.nm), a1, a2, List.filter_cons_of_pos b1, List.filter_cons_of_neg (by rw [b2]; simp), c1]
  rfl
end Ts

set_option maxRecDepth 100000
set_option maxHeartbeats 4000000
namespace Ts
open PySem L2
/-! ### what a meaning says of a box -/
/-- the default, turned as often as boxes on the way are turned -/
def turned (d : Bool) (ts : List Str) : List Str → Bool
  | [] => d
  | x :: l => turned (if x ∈ ts then !d else d) ts l
theorem turned_snoc (ts : List Str) (x : Str) : ∀ (l : List Str) (d : Bool), turned d ts (l ++ [x]) = if x ∈ ts then !(turned d ts l) else turned d ts l
  | [], d => rfl
  | y :: l, d => turned_snoc ts x l _
theorem turned_odd (ts : List Str) : ∀ (l : List Str) (d : Bool), turned d ts l = (d != decide ((l.filter fun x => decide (x ∈ ts)).length % 2 = 1))
  | [], d => by cases d <;> rfl
  | y :: l, d => by
    show turned (if y ∈ ts then !d else d) ts l = _
    rw [turned_odd ts l]
    by_cases h : y ∈ ts
    · rw [if_pos h, List.filter_cons_of_pos (by simpa using h), List.length_cons]
      rcases Nat.mod_two_eq_zero_or_one (l.filter fun x => decide (x ∈ ts)).length with e | e
      · rw [decide_eq_false (by omega), decide_eq_true (by omega)]; cases d <;> rfl
      · rw [decide_eq_true (by omega), decide_eq_false (by omega)]; cases d <;> rfl
    · rw [if_neg h, List.filter_cons_of_neg (by simpa using h)]
def valOf (rs : List Row) (d : Bool) (ts : List Str) (z : Str) : Bool := turned d ts (wayOf rs z)
theorem val_top {rs : List Row} (h : Valid rs) (d : Bool) (ts : List Str) : valOf rs d ts ("top" : Str) = d := by
  unfold valOf; rw [way_top h]; rfl
theorem val_step {rs : List Row} (h : Valid rs) (d : Bool) (ts : List Str) {r : Row} (hr : r ∈ rs) : valOf rs d ts r.nm = (valOf rs d ts r.fo != decide (r.nm ∈ ts)) := by
  unfold valOf
  rw [way_step h hr, turned_snoc]
  by_cases e : r.nm ∈ ts
  · rw [if_pos e, decide_eq_true e]; cases turned d ts (wayOf rs r.fo) <;> rfl
  · rw [if_neg e, decide_eq_false e]; cases turned d ts (wayOf rs r.fo) <;> rfl
theorem below_top {rs : List Row} (h : Valid rs) : belowL rs ("top" : Str) = names rs := by
  unfold belowL names
  have : rs.filter (isIn rs ("top" : Str)) = rs := by
    rw [List.filter_eq_self]
    intro r hr
    have : r.nm ≠ ("top" : Str) := fun e => top_not h (by rw [← e]; exact List.mem_map.mpr ⟨r, hr, rfl⟩)
    unfold isIn
    rw [decide_eq_true this, decide_eq_true rfl]; rfl
  rw [this]
/-- the values of all places, the top ahead -/
def kvM (rs : List Row) (d : Bool) (ts : List Str) (l : List Row) : List (Key × V) := (.inr ("top" : Str), .bl d) :: kvF (fun r => .bl (valOf rs d ts r.nm)) l
theorem valV_kvM {rs : List Row} (h : Valid rs) (d : Bool) (ts : List Str) {l : List Row} {z : Str} (hz : z = ("top" : Str) ∨ (z ≠ ("top" : Str) ∧ z ∈ names l)) : valV (kvM rs d ts l) (.inr z : Key) = some (.bl (valOf rs d ts z)) := by
  rcases hz with rfl | ⟨hn, hz⟩
  · show valV ((.inr ("top" : Str), .bl d) :: kvF (fun r => .bl (valOf rs d ts r.nm)) l) (.inr ("top" : Str) : Key) = _
    rw [valV_pos rfl, val_top h]
  · show valV ((.inr ("top" : Str), .bl d) :: kvF (fun r => .bl (valOf rs d ts r.nm)) l) (.inr z : Key) = _
    rw [valV_neg (fun q => hn (Sum.inr.inj q).symm), valV_kvF]
    obtain ⟨r, e, _, e2⟩ := rowOf_some hz
    rw [show (l.find? fun r => decide (r.nm = z)) = some r from e]
    show some (V.bl (valOf rs d ts r.nm)) = _
    rw [e2]
theorem kvM_more {rs : List Row} (h : Valid rs) (d : Bool) (ts : List Str) {i : Nat} {r : Row} (hr : rs[i]? = some r) : putK (kvM rs d ts (rs.take i)) (.inr r.nm) (.bl (valOf rs d ts r.nm)) = kvM rs d ts (rs.take (i + 1)) := by
  have f := h i r hr
  rw [putK_new _ (by
    show (valV ((.inr ("top" : Str), .bl d) :: kvF (fun r => .bl (valOf rs d ts r.nm)) (rs.take i)) (.inr r.nm : Key)) = none
    rw [valV_neg (fun q => f.top (Sum.inr.inj q).symm), valV_kvF, find_none f.new]; rfl), take_more hr]
  unfold kvM kvF
  rw [List.map_append]
  rfl
def spValues (C : Addr) : Sp := fun vs H Q _ => ∃ (t u : Addr) (d : Bool) (ts : List Str) (rs : List Row), vs = [.ref t, .bl d, .ref u] ∧ TreeAt C H t rs ∧ H u = some (.tup (ts.map V.str)) ∧
  ∀ D H', H D = none → Same H H' → H' D = some (.dK (kvM rs d ts rs)) → Q (.ref D) H'
section
variable {P : Program} {w : World} {K : PySem.W.Frag} {mg : Str → Option Value} {base : Heap} {C : Addr}
abbrev nValues : List Str := ["tree", "default", "turns", "values", "box"]
theorem sc_values_of : FnScope nValues ["tree", "default", "turns"] (defScope s_values_of) := ⟨rfl, rfl, rfl, by decide +kernel, rfl, by decide +kernel, by decide +kernel⟩
theorem ok_values_of (D : DefAt K mg "values_of" s_values_of ["tree", "default", "turns"]) (TC : TxC K mg) (T : TxT K mg C)
    (mB : MethAt K C "below" "Tree.below" s_Tree_below ["self", "box"]) (GB : FnOk P w K mg base CX0 5 mB.f mB.fd ["self", "box"] (spListOf C belowL))
    (mF : MethAt K C "folder" "Tree.folder" s_Tree_folder ["self", "box"]) (GF : FnOk P w K mg base CX0 4 mF.f mF.fd ["self", "box"] (spGet C fun r => .str r.fo)) : FnOk P w K mg base CX0 6 D.f D.fd ["tree", "default", "turns"] (spValues C) := by
  obtain ⟨t1, gT⟩ := TC.top
  refine D.F.ok sc_values_of (fun vs H Q E h => ?_) (fun cdv A outer s H vs Q E hr h => ?_)
  · obtain ⟨t, u, d, ts, rs, rfl, _⟩ := h
    rfl
  · obtain ⟨t, u, d, ts, rs, rfl, ht, hu', hq⟩ := h
    have hu := hu_of hr
    have hr3 : Room 4 _ := hr.mono (by decide)
    refine ⟨_, pss_cons (ps_set (i := 3) sc_values_of.nd rfl (.inl rfl) (pe_disp (pps_cons (pe_glob (by rfl) gT (v := .str ("top" : Str)) ⟨_, rfl⟩) (pv 1) pps_nil) (by rfl) (by rfl) (fun z => by cases z) (by decide)))
      (pss_cons (ps_for PassesOwn.never rfl (pi_list (pe_meth (pv 0) T.cl mB.m GB hr mB.b .nil pass0 (pa_cons (pe_glob (by rfl) gT (v := .str ("top" : Str)) ⟨_, rfl⟩) pa_nil))) (pg_name (i := 4) sc_values_of.nd rfl (.inl rfl))
        (pss_one (ps_dput hu (pv 3) (pv 4) (pe_cmpR op_ne (pe_dget hu (pv 3) (pe_meth (pv 0) T.cl mF.m GF hr3 mF.b .nil pass0 (pa_cons (pv 4) pa_nil)) (fun _ _ => rfl)) (pe_cmpR op_in_seq (pv 4) (pv 2) (by rfl)) (nomark _)) rfl)))
      (pss_one (ps_ret (pv 3)))), ?_⟩
    have hv := ht.val
    have l100 := ht.len
    obtain ⟨dx, q, f, k, p, qs, h1, h2, h3, h4, h5, h6⟩ := id ht.ex
    have noB : (tf q f k p).lookup ("below" : Str) = none := tf_no _ _ _ _ (by decide +kernel) (by decide +kernel) (by decide +kernel) (by decide +kernel)
    have noF : (tf q f k p).lookup ("folder" : Str) = none := tf_no _ _ _ _ (by decide +kernel) (by decide +kernel) (by decide +kernel) (by decide +kernel)
    refine fun wd hwd => ⟨_, rfl, upd_same, [(.inr ("top" : Str), .bl d)], rfl, (by show 1 ≤ 15; decide), ?_⟩
    have sA : Same H (upd (upd H wd (.dK [])) wd (.dK (mergeK [] [(.inr ("top" : Str), .bl d)]))) := fun b o e => by
      rw [upd_ne (ne_of_none e hwd), upd_ne (ne_of_none e hwd)]; exact e
    have eA : (upd (upd H wd (.dK [])) wd (.dK (mergeK [] [(.inr ("top" : Str), .bl d)]))) wd = some (.dK (kvM rs d ts [])) := upd_same
    generalize upd (upd H wd (.dK [])) wd (.dK (mergeK [] [(.inr ("top" : Str), .bl d)])) = H1 at sA eA
    refine ⟨_, rfl, t, dx, _, rfl, sA _ _ h1, noB, t, ("top" : Str), rs, rfl, ht.same sA, .inl rfl, fun bl H2 hbl s2 e2 => ?_⟩
    rw [below_top hv] at e2
    have sB := sA.trans s2
    have nw : ∀ {b : Addr} {o : HO}, H b = some o → b ≠ wd := fun {b o} e => ne_of_none e hwd
    have nbw : bl ≠ wd := fun e => by rw [← e, hbl] at eA; cases eA
    refine ⟨bl, rfl, ⟨_, SqL.of e2⟩, ?_⟩
    refine for_list (K := K) (a := bl) (xs := (names rs).map V.str) (fun i σ H' => ∃ v : Option V, σ = [some (.ref t), some (.bl d), some (.ref u), some (.ref wd), v] ∧ SB wd H2 H' ∧ H' wd = some (.dK (kvM rs d ts (rs.take i)))) ⟨_, rfl, SB.refl _ _, s2 _ _ eA⟩ (fun i σ H' _ ⟨_, _, sb, _⟩ => SqL.of (sb _ _ nbw e2)) ?_ ?_
    · rintro i x σ H3 hx ⟨v, rfl, sb, hw⟩
      unfold names at hx
      rw [List.getElem?_map, List.getElem?_map] at hx
      obtain ⟨n1, hn1, rfl⟩ := Option.map_eq_some_iff.mp hx
      obtain ⟨r, hr', rfl⟩ := Option.map_eq_some_iff.mp hn1
      have hrm := List.mem_of_getElem? hr'
      have ro := rowOf_at hv hr'
      have s3 : SB wd H H3 := (SB.of sB).trans sb
      have t3 : TreeAt C H3 t rs := by
        refine ⟨⟨dx, q, f, k, p, qs, s3 _ _ (nw h1) h1, s3 _ _ (nw h2) h2, ⟨h3.len, fun j b w hb hw => s3 _ _ (nw (h3.at_ j b w hb hw)) (h3.at_ j b w hb hw)⟩, s3 _ _ (nw h4) h4, s3 _ _ (nw h5) h5, s3 _ _ (nw h6) h6⟩, hv, l100⟩
      have fo : r.fo = ("top" : Str) ∨ (r.fo ≠ ("top" : Str) ∧ r.fo ∈ names (rs.take i)) := by
        by_cases e : r.fo = ("top" : Str)
        · exact .inl e
        · exact .inr ⟨e, (hv.fo hr').resolve_left e⟩
      have dg := DGet.k (k := Sum.inr r.fo) hw
      rw [valV_kvM hv d ts fo] at dg
      refine ⟨_, rfl, _, rfl, t, dx, _, rfl, s3 _ _ (nw h1) h1, noF, _, rfl, t, r.nm, rs, r, rfl, t3, ro, wd, _, rfl, dg, _, rfl, _, rfl, u, _, rfl, .inr (sqT (s3 _ _ (nw hu') hu')), rfl, flat_strs _, rfl, ?_⟩
      refine ⟨_, rfl, _, rfl, wd, _, rfl, DPut.k (k := Sum.inr r.nm) hw (small1000 (by unfold kvM kvF; rw [List.length_cons, List.length_map, List.length_take]; omega)), ?_⟩
      refine ⟨_, rfl, fun b o nb e => by rw [upd_ne nb]; exact sb b o nb e, ?_⟩
      rw [upd_same, ← kvM_more hv d ts hr', val_step hv d ts hrm]
      have e : (if false = true then !inV (.str r.nm) (ts.map V.str) else inV (.str r.nm) (ts.map V.str)) = decide (r.nm ∈ ts) := by
        rw [if_neg Bool.false_ne_true, inV_strs]
      rw [e]
      congr 3
      cases valOf rs d ts r.fo <;> cases decide (r.nm ∈ ts) <;> rfl
    · rintro σ H3 ⟨v, rfl, sb, hw⟩
      unfold names at hw
      rw [List.length_map, List.length_map, List.take_length] at hw
      exact ⟨_, rfl, hq wd H3 hwd (fun b o e => (SB.of sB).trans sb b o (nw e) e) hw⟩
end
end Ts

set_option maxRecDepth 100000
set_option maxHeartbeats 4000000
namespace Ts
open PySem L2
def Free (rs : List Row) (x : Str) : Prop := ∃ r, rowOf rs x = some r ∧ r.pr ≠ none
theorem Free.mem {rs : List Row} {x : Str} (h : Free rs x) : x ∈ names rs := by
  obtain ⟨r, e, _⟩ := h
  have e' : rs.find? (fun r => decide (r.nm = x)) = some r := e
  have e2 := List.find?_some e'
  exact List.mem_map.mpr ⟨r, List.mem_of_find?_eq_some e', of_decide_eq_true e2⟩
/-- a list or a tuple, the program's own ones too -/
def SqX (K : PySem.W.Frag) (H : Hp) (a : Addr) (xs : List V) : Prop := SqL K H a xs ∨ SqT K H a xs
theorem SqX.eq {K : PySem.W.Frag} {H H' : Hp} {a : Addr} {xs : List V} (h : SqX K H a xs) (e : H' a = H a) : SqX K H' a xs := by
  unfold SqX SqL SqT Rd at h ⊢
  rw [e]
  exact h
theorem SqX.keep {K : PySem.W.Frag} {H H' : Hp} {a : Addr} {xs : List V} (h : SqX K H a xs) (s : ∀ o, (∀ C dx fs, o ≠ HO.ins C dx fs) → H a = some o → H' a = some o) : SqX K H' a xs := by
  rcases h with ((h | ⟨o, h⟩) | h) | ((h | ⟨o, h⟩) | h)
  · exact .inl (.inl (.inl (s _ (fun _ _ _ z => by cases z) h)))
  · exact .inl (.inl (.inr ⟨o, s _ (fun _ _ _ z => by cases z) h⟩))
  · exact .inl (.inr h)
  · exact .inr (.inl (.inl (s _ (fun _ _ _ z => by cases z) h)))
  · exact .inr (.inl (.inr ⟨o, s _ (fun _ _ _ z => by cases z) h⟩))
  · exact .inr (.inr h)
theorem SqX.same {K : PySem.W.Frag} {H H' : Hp} {a : Addr} {xs : List V} (h : SqX K H a xs) (s : Same H H') : SqX K H' a xs := h.keep fun o _ e => s _ _ e
theorem SqX.sbm {K : PySem.W.Frag} {H H' : Hp} {a m C dx : Addr} {fs : List (Str × V)} {xs : List V} (h : SqX K H a xs) (hm : H m = some (.ins C dx fs)) (s : SB m H H') : SqX K H' a xs :=
  h.keep fun o no e => s _ _ (fun q => by rw [q, hm] at e; exact no _ _ _ (Option.some.inj e).symm) e
/-- x itself, a list or a tuple, in slot i -/
def iSeqX (K : PySem.W.Frag) (i : Nat) : TI := fun σ H R => ∃ (a : Addr) (xs : List V), σ[i]? = some (some (.ref a)) ∧ SqX K H a xs ∧ ∀ J, Walk J xs.length (fun H' => H' a = H a) (YAt xs) → R J H
theorem pi_seqX {X : Cx} {e tg : Expr} {i : Nat} (he : PE X e (tVar i)) : PI X tg e (iSeqX X.K i) := by
  refine ⟨fun pins s σ H R I h => ?_⟩
  obtain ⟨a, xs, e1, hq, k⟩ := h
  have sub : ∀ {H' : Hp}, H' a = H a → (SqL X.K H a xs → SqL X.K H' a xs) ∧ (SqT X.K H a xs → SqT X.K H' a xs) := fun {H'} e => by
    unfold SqL SqT Rd
    rw [e]
    exact ⟨id, id⟩
  rcases hq with hq | hq
  · exact (pi_list he).run pins s σ H R I ⟨_, e1, a, rfl, ⟨_, hq⟩, k _ (walk_list.mono (fun H' e => (sub e).1 hq) fun _ _ _ _ _ _ y => y)⟩
  · exact (pi_tup he).run pins s σ H R I ⟨_, e1, a, rfl, ⟨_, hq⟩, k _ (walk_tup.mono (fun H' e => (sub e).2 hq) fun _ _ _ _ _ _ y => y)⟩
def spCheckTurns (K : PySem.W.Frag) (C : Addr) : Sp := fun vs H Q _ => ∃ (t u : Addr) (xs : List Str) (rs : List Row), vs = [.ref t, .ref u] ∧ TreeAt C H t rs ∧ SqX K H u (xs.map V.str) ∧ (∀ x ∈ xs, Free rs x) ∧ Q .non H
def mf (t u k : Addr) (d : Bool) : List (Str × V) := putF "known" (.ref k) (putF "turns" (.ref u) (putF "default" (.bl d) (putF "tree" (.ref t) [])))
/-- the turned boxes, in the tree's order -/
def turnsL (rs : List Row) (xs : List Str) : List Str := (names rs).filter fun z => decide (z ∈ xs)
theorem turnsL_norm (rs : List Row) (xs : List Str) : turnsL rs xs = turnsL rs (turnsL rs xs) := by
  unfold turnsL
  refine List.filter_congr fun z hz => ?_
  by_cases e : z ∈ xs
  · simp [e, hz]
  · simp [e]
structure MeanAt (C CM : Addr) (H : Hp) (m t : Addr) (rs : List Row) (d : Bool) (ts : List Str) : Prop where
  ex : ∃ (dx u k : Addr), H m = some (.ins CM dx (mf t u k d)) ∧ H u = some (.tup (ts.map V.str)) ∧ H k = some (.dK (kvM rs d ts rs))
  tree : TreeAt C H t rs
  norm : ts = turnsL rs ts
theorem MeanAt.sub {C CM : Addr} {H : Hp} {m t : Addr} {rs : List Row} {d : Bool} {ts : List Str} (h : MeanAt C CM H m t rs d ts) : ∀ x ∈ ts, x ∈ names rs := fun x hx => by
  rw [h.norm] at hx
  exact (List.mem_filter.mp hx).1
theorem MeanAt.len {C CM : Addr} {H : Hp} {m t : Addr} {rs : List Row} {d : Bool} {ts : List Str} (h : MeanAt C CM H m t rs d ts) : ts.length ≤ 100 := by
  rw [h.norm]
  unfold turnsL names
  have h1 := List.length_filter_le (fun z => decide (z ∈ ts)) (rs.map (·.nm))
  have h2 := h.tree.len
  rw [List.length_map] at h1
  omega
theorem MeanAt.same {C CM : Addr} {H H' : Hp} {m t : Addr} {rs : List Row} {d : Bool} {ts : List Str} (h : MeanAt C CM H m t rs d ts) (s : Same H H') : MeanAt C CM H' m t rs d ts := by
  obtain ⟨dx, u, k, h1, h2, h3⟩ := h.ex
  exact ⟨⟨dx, u, k, s _ _ h1, s _ _ h2, s _ _ h3⟩, h.tree.same s, h.norm⟩
structure TxM (K : PySem.W.Frag) (mg : Str → Option Value) (CM : Addr) : Prop where
  cl : Cls K CM
  nt : NoAttr K CM "tree"
  nd : NoAttr K CM "default"
  nu : NoAttr K CM "turns"
  nk : NoAttr K CM "known"
  g : mg "Meaning" = some (.ref CM)
def spMeaningInit (K : PySem.W.Frag) (C CM : Addr) : Sp := fun vs H Q _ => ∃ (m dx t h : Addr) (d : Bool) (xs : List Str) (rs : List Row), vs = [.ref m, .ref t, .bl d, .ref h] ∧ H m = some (.ins CM dx []) ∧ TreeAt C H t rs ∧ SqX K H h (xs.map V.str) ∧ (∀ x ∈ xs, Free rs x) ∧
  ∀ H', SB m H H' → MeanAt C CM H' m t rs d (turnsL rs xs) → Q .non H'
section
variable {P : Program} {w : World} {K : PySem.W.Frag} {mg : Str → Option Value} {base : Heap} {C CM : Addr}
abbrev nCheckTurns : List Str := ["tree", "turns", "box"]
theorem sc_check_turns : FnScope nCheckTurns ["tree", "turns"] (defScope s_check_turns) := ⟨rfl, rfl, rfl, by decide +kernel, rfl, by decide +kernel, by decide +kernel⟩
theorem ok_check_turns (D : DefAt K mg "check_turns" s_check_turns ["tree", "turns"]) (Db : DefAt K mg "check_box" s_check_box ["tree", "thing"]) (Gb : FnOk P w K mg base CX0 3 Db.f Db.fd ["tree", "thing"] (spBox C)) (T : TxT K mg C)
    (mP : MethAt K C "price" "Tree.price" s_Tree_price ["self", "box"]) (GP : FnOk P w K mg base CX0 4 mP.f mP.fd ["self", "box"] (spGet C fun r => prV r.pr)) : FnOk P w K mg base CX0 5 D.f D.fd ["tree", "turns"] (spCheckTurns K C) := by
  refine D.F.ok sc_check_turns (fun vs H Q E h => ?_) (fun cdv A outer s H vs Q E hr h => ?_)
  · obtain ⟨t, u, xs, rs, rfl, _⟩ := h
    rfl
  · obtain ⟨t, u, xs, rs, rfl, ht, hx, hfree, hq⟩ := h
    have hr2 : Room 3 _ := hr.mono (by decide)
    obtain ⟨dx, q, f, k, p, qs, h1, h2, h3, h4, h5, h6⟩ := id ht.ex
    have noP : (tf q f k p).lookup ("price" : Str) = none := tf_no _ _ _ _ (by decide +kernel) (by decide +kernel) (by decide +kernel) (by decide +kernel)
    refine ⟨_, pss_cons (ps_for PassesOwn.never rfl (pi_seqX (i := 1) (pv 1)) (pg_name (i := 2) sc_check_turns.nd rfl (.inl rfl))
        (pss_one (ps_expr (pe_call Gb hr2 rfl Db.g Db.F.kp Db.b .nil pass0 (pa_cons (pv 0) (pa_cons (pv 2) pa_nil))))))
      (pss_one (ps_for PassesOwn.never rfl (pi_seqX (i := 1) (pv 1)) (pg_name (i := 2) sc_check_turns.nd rfl (.inl rfl))
        (pss_one (ps_if (pt_cmpR op_isN (pe_meth (pv 0) T.cl mP.m GP hr mP.b .nil pass0 (pa_cons (pv 2) pa_nil)) pe_non (nomark _)) (pss_one ps_never) pss_nil)))), ?_⟩
    have at_ : ∀ {i : Nat} {x : V}, (xs.map V.str)[i]? = some x → ∃ z, x = .str z ∧ Free rs z := fun {i x} hx => by
      rw [List.getElem?_map] at hx
      obtain ⟨z, hz, rfl⟩ := Option.map_eq_some_iff.mp hx
      exact ⟨z, rfl, hfree z (List.mem_of_getElem? hz)⟩
    refine ⟨u, _, rfl, hx, fun J W => ?_⟩
    refine for_it W (fun i σ H' => ∃ v : Option V, σ = [some (.ref t), some (.ref u), v] ∧ H' = H) ⟨none, rfl, rfl⟩ (fun i σ H' _ ⟨_, _, e⟩ => by rw [e]) ?_ ?_
    · rintro i x σ H2 H3 hi ⟨v, rfl, rfl⟩ ⟨rfl, hxi⟩
      obtain ⟨z, rfl, hz⟩ := at_ hxi
      exact ⟨_, rfl, _, rfl, t, z, rs, rfl, ht, hz.mem, _, rfl, rfl⟩
    rintro σ H2 ⟨v, rfl, rfl⟩
    refine ⟨u, _, rfl, hx, fun J W => ?_⟩
    refine for_it W (fun i σ H' => ∃ v : Option V, σ = [some (.ref t), some (.ref u), v] ∧ H' = H2) ⟨v, rfl, rfl⟩ (fun i σ H' _ ⟨_, _, e⟩ => by rw [e]) ?_ ?_
    · rintro i x σ H3 H4 hi ⟨v, rfl, rfl⟩ ⟨rfl, hxi⟩
      obtain ⟨z, rfl, r, hr', hp⟩ := at_ hxi
      refine ⟨_, rfl, t, dx, _, rfl, h1, noP, _, rfl, t, z, rs, r, rfl, ht, hr', ?_⟩
      have e2 : decide ((fun r : Row => prV r.pr) r = V.non) = false := by
        cases e : r.pr with
        | none => exact absurd e hp
        | some i => show decide (prV r.pr = V.non) = false; rw [e]; exact decide_eq_false (fun h => by cases h)
      refine ⟨rfl, _, rfl, ?_⟩
      rw [e2]
      exact iteF ⟨_, rfl, rfl⟩
    · rintro σ H3 ⟨v, rfl, rfl⟩
      exact hq
end
end Ts

set_option maxRecDepth 100000
set_option maxHeartbeats 4000000
namespace Ts
open PySem L2
theorem mtd_ : ¬ (("tree" : Str) = "default") := by decide +kernel
theorem mtu_ : ¬ (("tree" : Str) = "turns") := by decide +kernel
theorem mtk_ : ¬ (("tree" : Str) = "known") := by decide +kernel
theorem mdu_ : ¬ (("default" : Str) = "turns") := by decide +kernel
theorem mdk_ : ¬ (("default" : Str) = "known") := by decide +kernel
theorem muk_ : ¬ (("turns" : Str) = "known") := by decide +kernel
theorem mf_t (t u k : Addr) (d : Bool) : (mf t u k d).lookup ("tree" : Str) = some (.ref t) := by
  unfold mf
  rw [lookup_putF, if_neg mtk_, lookup_putF, if_neg mtu_, lookup_putF, if_neg mtd_, lookup_putF, if_pos rfl]
theorem mf_d (t u k : Addr) (d : Bool) : (mf t u k d).lookup ("default" : Str) = some (.bl d) := by
  unfold mf
  rw [lookup_putF, if_neg mdk_, lookup_putF, if_neg mdu_, lookup_putF, if_pos rfl]
theorem mf_u (t u k : Addr) (d : Bool) : (mf t u k d).lookup ("turns" : Str) = some (.ref u) := by
  unfold mf
  rw [lookup_putF, if_neg muk_, lookup_putF, if_pos rfl]
theorem mf_k (t u k : Addr) (d : Bool) : (mf t u k d).lookup ("known" : Str) = some (.ref k) := by
  unfold mf
  rw [lookup_putF, if_pos rfl]
theorem mf_no (t u k : Addr) (d : Bool) {m : Str} (h1 : ¬ m = "tree") (h2 : ¬ m = "default") (h3 : ¬ m = "turns") (h4 : ¬ m = "known") : (mf t u k d).lookup m = none := by
  unfold mf
  rw [lookup_putF, if_neg h4, lookup_putF, if_neg h3, lookup_putF, if_neg h2, lookup_putF, if_neg h1]
  rfl
theorem turns_more {rs : List Row} {i : Nat} {r : Row} (h : rs[i]? = some r) (xs : List Str) : (names (rs.take (i + 1))).filter (fun z => decide (z ∈ xs)) = (names (rs.take i)).filter (fun z => decide (z ∈ xs)) ++ (if decide (r.nm ∈ xs) = true then [r.nm] else []) := by
  unfold names
  rw [take_more h, List.map_append, List.filter_append]
  by_cases e : r.nm ∈ xs
  · simp [e]
  · simp [e]
theorem TreeAt.sbm {C CM : Addr} {H H' : Hp} {t m dx : Addr} {rs : List Row} (h : TreeAt C H t rs) (hm : H m = some (.ins CM dx [])) (s : SB m H H') : TreeAt C H' t rs := by
  obtain ⟨tx, q, f, k, p, qs, h1, h2, h3, h4, h5, h6⟩ := h.ex
  have w : ∀ {b : Addr} {o : HO}, H b = some o → o ≠ .ins CM dx [] → H' b = some o := fun {b o} e1 no => s b o (fun eb => by rw [eb, hm] at e1; exact no (Option.some.inj e1).symm) e1
  refine ⟨⟨tx, q, f, k, p, qs, w h1 (fun e => ?_), w h2 (fun h => by cases h), ⟨h3.len, fun i b r hb hr => w (h3.at_ i b r hb hr) (fun h => by cases h)⟩, w h4 (fun h => by cases h), w h5 (fun h => by cases h), w h6 (fun h => by cases h)⟩, h.val, h.len⟩
  injection e with _ _ e3
  have e4 := tf_p q f k p
  rw [e3] at e4
  cases e4
/-- a def with defaults that lets nothing out -/
theorem okD {w : World} {P : Program} {K : PySem.W.Frag} {base : Heap} {mg : Str → Option Value} {qual x : Str} {fd : FuncData} {f : Addr} {ar : Arguments} {bo : List Stmt} {sc : Scope} {kws : List (Str × V)} {dvs : List V} {ps N : List Str} {n : Nat} {sp : Sp} (F : FunD K x qual ar bo sc dvs kws f fd) (S : FnScope N ps sc)
    (ln : ∀ vs H Q E, sp vs H Q E → vs.length = ps.length) (hb : ∀ (cdv : Value) (A : Around) (outer : List Env) (s : Shared) (H : Hp) (vs : List V) (Q : VK) (E : XK), Room n (A.deeper (PyProof.Rows.envOfC qual sc s.heap.objs.size f cdv)) → sp vs H Q E → ∃ t, PSs (cxOf CX0 P w K mg base N qual sc f cdv A outer s H E).nox bo t ∧ t { nx := fun _ H' => Q .non H', rt := Q } (start N vs) H) :
    FnOk P w K mg base CX0 (n + 1) f fd ps sp := by
  refine F.ok S ln fun cdv A outer s H vs Q E r hsp => ?_
  obtain ⟨t, h, q⟩ := hb cdv A outer s H vs Q E r hsp
  exact ⟨t, h.nox, q⟩
section
variable {P : Program} {w : World} {K : PySem.W.Frag} {mg : Str → Option Value} {base : Heap} {C CM : Addr}
abbrev nMInit : List Str := ["self", "tree", "default", "turns", "box"]
theorem sc_M_init : FnScope nMInit ["self", "tree", "default", "turns"] (defScope s_Meaning_init) := ⟨rfl, rfl, rfl, by decide +kernel, rfl, by decide +kernel, by decide +kernel⟩
theorem ok_M_init {f : Addr} {fd : FuncData} {dvs : List V} (F : FunD K "__init__" "Meaning.__init__" (defArgs s_Meaning_init) (defBody s_Meaning_init) (defScope s_Meaning_init) dvs [] f fd) (B : TxB mg) (TC : TxC K mg) (T : TxT K mg C) (M : TxM K mg CM)
    (Dc : DefAt K mg "check_turns" s_check_turns ["tree", "turns"]) (Gc : FnOk P w K mg base CX0 5 Dc.f Dc.fd ["tree", "turns"] (spCheckTurns K C))
    (Dv : DefAt K mg "values_of" s_values_of ["tree", "default", "turns"]) (Gv : FnOk P w K mg base CX0 6 Dv.f Dv.fd ["tree", "default", "turns"] (spValues C))
    (mB : MethAt K C "below" "Tree.below" s_Tree_below ["self", "box"]) (GB : FnOk P w K mg base CX0 5 mB.f mB.fd ["self", "box"] (spListOf C belowL)) :
    FnOk P w K mg base CX0 7 f fd ["self", "tree", "default", "turns"] (spMeaningInit K C CM) := by
  obtain ⟨t1, gT⟩ := TC.top
  refine okD F sc_M_init (fun vs H Q E h => ?_) (fun cdv A outer s H vs Q E hr h => ?_)
  · obtain ⟨m, dx, t, h, d, xs, rs, rfl, _⟩ := h
    rfl
  · obtain ⟨m, dx, t, h, d, xs, rs, rfl, hm, ht, hx, hfree, hq⟩ := h
    have hr4 : Room 5 _ := hr.mono (by decide)
    refine ⟨_, pss_cons (ps_if (pt_not (pt_val (pe_callB call_isi (by rfl) B.isinstance (by decide +kernel) (pa_cons (pv 2) (pa_cons (pe_bltn (by rfl) B.bool (by decide +kernel) (v := .ty "bool") rfl) pa_nil))))) (pss_one ps_never) pss_nil)
      (pss_cons (ps_expr (pe_call Gc hr4 rfl Dc.g Dc.F.kp Dc.b .nil pass0 (pa_cons (pv 1) (pa_cons (pv 3) pa_nil))))
      (pss_cons (ps_fld (pv 0) (pv 1) rfl)
      (pss_cons (ps_fld (pv 0) (pv 2) rfl)
      (pss_cons (ps_fld (pv 0) (pe_callTy call_tuple_of (by rfl) B.tuple (by decide +kernel) (pa_cons (pe_lc (own := [("box", 4)]) (g := gName 4) (tt := tTest (tOp (rIn K false) (tVar 4) (tVar 3))) (te := tVar 4) rfl sc_M_init.nd (pi_list (pe_meth (pv 1) T.cl mB.m GB hr4 mB.b .nil pass0 (pa_cons (pe_glob (by rfl) gT (v := .str ("top" : Str)) ⟨_, rfl⟩) pa_nil))) (blkOk_by (N := nMInit) (sc := defScope s_Meaning_init) (by decide +kernel))
          (fun _ _ _ _ _ => pg_name (i := 4) sc_M_init.nd rfl (Or.inl rfl)) (fun _ _ _ _ _ => by exact pts_one (pt_cmpR op_in_seq (pv 4) (pv 3) (by rfl))) (fun _ _ _ _ _ => pv 4)) pa_nil)) rfl)
      (pss_one (ps_fld (pv 0) (pe_call Gv hr rfl Dv.g Dv.F.kp Dv.b .nil pass0 (pa_cons (pv 1) (pa_cons (pv 2) (pa_cons (pe_fld (pv 0) rfl) pa_nil)))) rfl)))))), ?_⟩
    have hv := ht.val
    have l100 := ht.len
    obtain ⟨tx, q, f, k, p, qs, h1, _⟩ := id ht.ex
    have noB : (tf q f k p).lookup ("below" : Str) = none := tf_no _ _ _ _ (by decide +kernel) (by decide +kernel) (by decide +kernel) (by decide +kernel)
    refine ⟨_, rfl, _, _, _, _, true, rfl, .ty "bool", .base (.bl d), kit_ty (by decide +kernel), _, rfl, iteF ?_⟩
    refine ⟨_, rfl, _, rfl, t, h, xs, rs, rfl, ht, hx, hfree, ?_⟩
    refine ⟨_, rfl, _, rfl, m, CM, dx, _, rfl, hm, M.cl, M.nt, (by show 0 < 1000; decide), ?_⟩
    refine ⟨_, rfl, _, rfl, m, CM, dx, _, rfl, upd_same, M.cl, M.nd, (Nat.lt_of_le_of_lt (putF_len _ _ _) (by decide)), ?_⟩
    obtain ⟨Hb, Eb⟩ : ∃ Hx, Hx = upd (upd H m (.ins CM dx (putF "tree" (.ref t) []))) m (.ins CM dx (putF "default" (.bl d) (putF "tree" (.ref t) []))) := ⟨_, rfl⟩
    have bm : Hb m = some (.ins CM dx (putF "default" (.bl d) (putF "tree" (.ref t) []))) := by rw [Eb]; exact upd_same
    have sb : SB m H Hb := fun b o nb e => by rw [Eb, upd_ne nb, upd_ne nb]; exact e
    rw [← Eb]
    clear Eb
    have tb := ht.sbm hm sb
    have hxb : SqX K Hb h (xs.map V.str) := hx.sbm hm sb
    have htm : Hb t = some (.ins C tx (tf q f k p)) := by
      refine sb _ _ (fun e => ?_) h1
      rw [e, hm] at h1
      have e3 := Option.some.inj h1
      injection e3 with _ _ e3
      have e4 := tf_p q f k p
      rw [← e3] at e4
      cases e4
    refine ⟨_, rfl, t, tx, _, rfl, htm, noB, t, ("top" : Str), rs, rfl, tb, .inl rfl, fun bl H2 hbl s2 e2 => ?_⟩
    rw [below_top hv] at e2
    refine ⟨bl, rfl, ⟨_, SqL.of e2⟩, fun D hD => ?_⟩
    have hx2 := hxb.same s2
    refine lc_list (K := K) (a := bl) (xs := (names rs).map V.str) (fun i H' => Same H2 H' ∧ H' D = some (.lst (((names (rs.take i)).filter (fun z => decide (z ∈ xs))).map V.str))) ⟨Same.new hD, upd_same⟩ (fun i H' _ m => m.1.seq (SqL.of e2)) ?_ ?_
    · rintro i x H3 hxi ⟨s3, hD3⟩
      unfold names at hxi
      rw [List.getElem?_map, List.getElem?_map] at hxi
      obtain ⟨n1, hn1, rfl⟩ := Option.map_eq_some_iff.mp hxi
      obtain ⟨r, hr', rfl⟩ := Option.map_eq_some_iff.mp hn1
      have sz : (((names (rs.take i)).filter (fun z => decide (z ∈ xs))).map V.str).length < sizeLine := small1000 (by
        rw [List.length_map]
        have h1 := List.length_filter_le (fun z => decide (z ∈ xs)) (names (rs.take i))
        unfold names at h1 ⊢
        rw [List.length_map, List.length_take] at h1
        omega)
      refine ⟨rfl, _, rfl, _, rfl, h, _, rfl, (hx2.same s3), rfl, flat_strs _, _, rfl, ?_⟩
      have e : (if false = true then !inV (.str r.nm) (xs.map V.str) else inV (.str r.nm) (xs.map V.str)) = decide (r.nm ∈ xs) := by
        rw [if_neg Bool.false_ne_true, inV_strs]
      rw [e]
      refine ite2 (fun hc => ?_) (fun hc => ?_)
      · refine ⟨_, rfl, _, hD3, sz, fun b o eb => ?_, ?_⟩
        · rw [upd_ne (fun y => by rw [y, hD] at eb; cases eb)]
          exact s3 _ _ eb
        · rw [upd_same, turns_more hr', if_pos hc, List.map_append]; rfl
      · refine ⟨s3, ?_⟩
        rw [turns_more hr', if_neg hc, List.append_nil]
        exact hD3
    rintro H3 ⟨s3, hD3⟩
    rw [show ((names rs).map V.str).length = rs.length from by unfold names; rw [List.length_map, List.length_map], List.take_length] at hD3
    refine ⟨D, _, rfl, .inl ⟨SqL.of hD3, fun u hu => ?_⟩⟩
    have s4 := (s2.trans s3).trans (Same.new (o := .tup ((turnsL rs xs).map V.str)) hu)
    have e4 : (upd H3 u (.tup ((turnsL rs xs).map V.str))) u = some (.tup ((turnsL rs xs).map V.str)) := upd_same
    have e4' : (upd H3 u (.tup (((names rs).filter (fun z => decide (z ∈ xs))).map V.str))) = upd H3 u (.tup ((turnsL rs xs).map V.str)) := rfl
    rw [e4']
    have num : u ≠ m := fun e => by rw [e, (s2.trans s3) _ _ bm] at hu; cases hu
    generalize upd H3 u (.tup ((turnsL rs xs).map V.str)) = H4 at s4 e4
    refine ⟨_, rfl, m, CM, dx, _, rfl, s4 _ _ bm, M.cl, M.nu, (Nat.lt_of_le_of_lt (Nat.le_trans (putF_len _ _ _) (Nat.succ_le_succ (putF_len _ _ _))) (by decide)), ?_⟩
    obtain ⟨H5, E5⟩ : ∃ Hx, Hx = upd H4 m (.ins CM dx (putF "turns" (.ref u) (putF "default" (.bl d) (putF "tree" (.ref t) [])))) := ⟨_, rfl⟩
    have m5 : H5 m = some (.ins CM dx (putF "turns" (.ref u) (putF "default" (.bl d) (putF "tree" (.ref t) [])))) := by rw [E5]; exact upd_same
    have sb5 : SB m H H5 := fun b o nb e => by rw [E5, upd_ne nb]; exact s4 _ _ (sb b o nb e)
    have u5 : H5 u = some (.tup ((turnsL rs xs).map V.str)) := by rw [E5, upd_ne num]; exact e4
    rw [← E5]
    clear E5
    refine ⟨_, rfl, _, rfl, _, rfl, m, CM, dx, _, _, rfl, m5, M.cl, M.nu, (by rw [lookup_putF, if_pos rfl]), t, u, d, turnsL rs xs, rs, rfl, ht.sbm hm sb5, u5, fun kd H6 hkd s6 e6 => ?_⟩
    refine ⟨_, rfl, m, CM, dx, _, rfl, s6 _ _ m5, M.cl, M.nk, (Nat.lt_of_le_of_lt (Nat.le_trans (putF_len _ _ _) (Nat.succ_le_succ (Nat.le_trans (putF_len _ _ _) (Nat.succ_le_succ (putF_len _ _ _))))) (by decide)), ?_⟩
    have sb7 : SB m H (upd H6 m (.ins CM dx (mf t u kd d))) := fun b o nb e => by rw [upd_ne nb]; exact s6 _ _ (sb5 b o nb e)
    have nkm : kd ≠ m := fun e => by rw [e, m5] at hkd; cases hkd
    exact hq _ sb7 ⟨⟨dx, u, kd, upd_same, by rw [upd_ne num]; exact s6 _ _ u5, by rw [upd_ne nkm]; exact e6⟩, ht.sbm hm sb7, turnsL_norm rs xs⟩
end
end Ts

set_option maxRecDepth 100000
set_option maxHeartbeats 4000000
namespace Ts
open PySem L2
def spMValue (C CM : Addr) : Sp := fun vs H Q _ => ∃ (m t : Addr) (z : Str) (rs : List Row) (d : Bool) (ts : List Str), vs = [.ref m, .str z] ∧ MeanAt C CM H m t rs d ts ∧ (z = ("top" : Str) ∨ z ∈ names rs) ∧ Q (.bl (valOf rs d ts z)) H
def spMLen (C CM : Addr) : Sp := fun vs H Q _ => ∃ (m t : Addr) (rs : List Row) (d : Bool) (ts : List Str), vs = [.ref m] ∧ MeanAt C CM H m t rs d ts ∧ ts.length ≤ 1000 ∧ Q (.int ts.length) H
/-- what the turned boxes cost -/
def costOf (rs : List Row) (ts : List Str) : List Int := ts.map fun z => (((rowOf rs z).bind (·.pr)).getD 0)
def spMPrice (C CM : Addr) : Sp := fun vs H Q _ => ∃ (m t : Addr) (rs : List Row) (d : Bool) (ts : List Str), vs = [.ref m] ∧ MeanAt C CM H m t rs d ts ∧ ts.length ≤ 1000 ∧ (∀ z ∈ ts, Free rs z) ∧ ∀ H', Same H H' → Q (.int (costOf rs ts).sum) H'
section
variable {P : Program} {w : World} {K : PySem.W.Frag} {mg : Str → Option Value} {base : Heap} {C CM : Addr}
theorem sc_M_len : FnScope ["self"] ["self"] (defScope s_Meaning_len) := ⟨rfl, rfl, rfl, by decide +kernel, rfl, by decide +kernel, by decide +kernel⟩
theorem ok_M_len {f : Addr} {fd : FuncData} (F : Fun K "__len__" "Meaning.__len__" s_Meaning_len f fd) (B : TxB mg) (M : TxM K mg CM) : FnOk P w K mg base CX0 2 f fd ["self"] (spMLen C CM) := by
  refine F.ok sc_M_len (fun vs H Q E h => ?_) (fun cdv A outer s H vs Q E hr h => ?_)
  · obtain ⟨m, t, rs, d, ts, rfl, _⟩ := h
    rfl
  · obtain ⟨m, t, rs, d, ts, rfl, hm, hl, hq⟩ := h
    obtain ⟨dx, u, k, h1, h2, h3⟩ := hm.ex
    refine ⟨_, pss_one (ps_ret (pe_callB call_len_seq (by rfl) B.len PySem.boot_len (pa_cons (pe_fld (pv 0) rfl) pa_nil))), ?_⟩
    refine ⟨_, rfl, m, CM, dx, _, _, rfl, h1, M.cl, M.nu, mf_u _ _ _ _, u, _, rfl, .inr (sqT h2), ?_⟩
    rw [List.length_map]
    exact hq
end
end Ts

set_option maxRecDepth 100000
set_option maxHeartbeats 4000000
namespace Ts
open PySem L2
/-! ### lists of texts as data -/
theorem strs_dpAll {K : PySem.W.Frag} {H : Hp} : ∀ l : List Str, DpAll K H (l.map V.str) (l.map PyData.str)
  | [] => .nil
  | x :: l => .cons (.str x) (strs_dpAll l)
theorem strs_dp {K : PySem.W.Frag} {H : Hp} {a : Addr} {l : List Str} (h : H a = some (.lst (l.map V.str))) : Dp K H (.ref a) (.list (l.map PyData.str)) := .lst (SqL.of h) (strs_dpAll l)
theorem strs_eqv : ∀ a b : List Str, PyData.eqvAll (a.map PyData.str) (b.map PyData.str) = decide (a = b)
  | [], [] => by simp [PyData.eqvAll]
  | [], _ :: _ => by simp [PyData.eqvAll]
  | _ :: _, [] => by simp [PyData.eqvAll]
  | x :: a, y :: b => by
    simp only [List.map_cons, PyData.eqvAll, PyData.eqv, str_beq, strs_eqv a b]
    by_cases h1 : x = y <;> by_cases h2 : a = b <;> simp [h1, h2]
theorem strs_same (l : List Str) : PyData.eqv (.list (l.map PyData.str)) (.list (l.map PyData.str)) = true := by
  simp only [PyData.eqv]
  rw [strs_eqv]
  exact decide_eq_true rfl
theorem strs_lay : ∀ l : List Str, (∀ x ∈ l, PyData.strOk x = true) → PyData.canLayAll0 (l.map PyData.str) = true
  | [], _ => by simp [PyData.canLayAll0]
  | x :: l, h => by
    simp only [List.map_cons, PyData.canLayAll0, PyData.canLay0, h x (List.mem_cons_self ..), strs_lay l (fun q hq => h q (List.mem_cons_of_mem _ hq)), Bool.and_self]
theorem strs_depth : ∀ l : List Str, PyData.depthAll (l.map PyData.str) = 0
  | [] => by simp [PyData.depthAll]
  | x :: l => by simp only [List.map_cons, PyData.depthAll, PyData.depth, strs_depth l]; rfl
theorem shaped_strs {l : List Str} (h : ∀ x ∈ l, PyData.strOk x = true) : SeqAt.shaped (.list (l.map PyData.str)) = true := by
  unfold SeqAt.shaped
  rw [Bool.and_eq_true]
  refine ⟨by simp only [PyData.canLay0]; exact strs_lay l h, decide_eq_true ?_⟩
  simp only [PyData.depth, strs_depth]
  omega
theorem names_ok {rs : List Row} (h : Valid rs) : ∀ x ∈ names rs, PyData.strOk x = true := fun x hx => by
  obtain ⟨r, hr, rfl⟩ := List.mem_map.mp hx
  exact (h.ok r hr).n
theorem inside_ok {rs : List Row} (h : Valid rs) (z : Str) : ∀ x ∈ insideL rs z, PyData.strOk x = true := fun x hx => by
  obtain ⟨r, hr, rfl⟩ := List.mem_map.mp hx
  exact (h.ok r (List.mem_filter.mp hr).1).n
theorem below_ok {rs : List Row} (h : Valid rs) (z : Str) : ∀ x ∈ belowL rs z, PyData.strOk x = true := fun x hx => by
  obtain ⟨r, hr, rfl⟩ := List.mem_map.mp hx
  exact (h.ok r (List.mem_filter.mp hr).1).n
theorem lst_same {rs : List Row} : PyData.eqv (.list (rs.map rowD)) (.list (rs.map rowD)) = true := by
  simp only [PyData.eqv]
  rw [rows_eqv]
  exact decide_eq_true rfl
def told (r : Row) : PyData := .tuple [.str r.fo, .str r.ki, prD r.pr]
theorem told_same (r : Row) : PyData.eqv (told r) (told r) = true := by
  simp [told, PyData.eqv, PyData.eqvAll, prD_eqv]
theorem told_shaped {r : Row} (h : RowOk r) : SeqAt.shaped (told r) = true := by
  obtain ⟨h1, h2, h3⟩ := h
  obtain ⟨n, f, k, p⟩ := r
  unfold SeqAt.shaped
  cases p <;> simp_all [told, prD, PyData.canLay0, PyData.canLayAll0, PyData.depth, PyData.depthAll]
end Ts

set_option maxRecDepth 100000
set_option maxHeartbeats 4000000
namespace Ts
open PySem L2
theorem shaped_strsT {l : List Str} (h : ∀ x ∈ l, PyData.strOk x = true) : SeqAt.shaped (.tuple (l.map PyData.str)) = true := by
  unfold SeqAt.shaped
  rw [Bool.and_eq_true]
  refine ⟨by simp only [PyData.canLay0]; exact strs_lay l h, decide_eq_true ?_⟩
  simp only [PyData.depth, strs_depth]
  omega
theorem nfM {K : PySem.W.Frag} {C : Addr} : PySem.W.notFirst K C (.ref C) = true := by simp [PySem.W.notFirst]
theorem MeanAt.ok {C CM : Addr} {H : Hp} {m t : Addr} {rs : List Row} {d : Bool} {ts : List Str} (h : MeanAt C CM H m t rs d ts) : ∀ x ∈ ts, PyData.strOk x = true := fun x hx => names_ok h.tree.val x (h.sub x hx)
def spMEq (K : PySem.W.Frag) (C CM : Addr) : Sp := fun vs H Q _ => ∃ (m t : Addr) (x : V) (rs : List Row) (d : Bool) (ts : List Str), vs = [.ref m, x] ∧ MeanAt C CM H m t rs d ts ∧
  ((∃ (m2 t2 : Addr) (rs2 : List Row) (d2 : Bool) (ts2 : List Str), x = .ref m2 ∧ MeanAt C CM H m2 t2 rs2 d2 ts2 ∧ Q (.bl (decide (rs = rs2) && (decide (d = d2) && decide (ts = ts2)))) H) ∨ (Other K H x (.ref CM) ∧ Q (.bl false) H))
def spMContains (K : PySem.W.Frag) (C CM : Addr) : Sp := fun vs H Q _ => ∃ (m t : Addr) (x : V) (rs : List Row) (d : Bool) (ts : List Str), vs = [.ref m, x] ∧ MeanAt C CM H m t rs d ts ∧
  ((∃ z : Str, x = .str z ∧ Q (.bl (decide (z = ("top" : Str) ∨ z ∈ names rs) && valOf rs d ts z)) H) ∨ (Other K H x (.type "str") ∧ Q (.bl false) H))
section
variable {P : Program} {w : World} {K : PySem.W.Frag} {mg : Str → Option Value} {base : Heap} {C CM : Addr}
theorem sc_M_eq : FnScope ["self", "other"] ["self", "other"] (defScope s_Meaning_eq) := ⟨rfl, rfl, rfl, by decide +kernel, rfl, by decide +kernel, by decide +kernel⟩
theorem ok_M_eq {f : Addr} {fd : FuncData} (F : Fun K "__eq__" "Meaning.__eq__" s_Meaning_eq f fd) (B : TxB mg) (M : TxM K mg CM) (I : C8.InsC K CM)
    (mE : MethAt K C "__eq__" "Tree.__eq__" s_Tree_eq ["self", "other"]) (GE : FnOk P w K mg base CX0 2 mE.f mE.fd ["self", "other"] (spEqT K C)) : FnOk P w K mg base CX0 3 f fd ["self", "other"] (spMEq K C CM) := by
  refine F.ok sc_M_eq (fun vs H Q E h => ?_) (fun cdv A outer s H vs Q E hr h => ?_)
  · obtain ⟨m, t, x, rs, d, ts, rfl, _⟩ := h
    rfl
  · obtain ⟨m, t, x, rs, d, ts, rfl, hm, h⟩ := h
    obtain ⟨dx, u, k, h1, h2, h3⟩ := hm.ex
    refine ⟨_, pss_one (ps_ret (pe_and (pe_callB call_isi (by rfl) B.isinstance (by decide +kernel) (pa_cons (pv 1) (pa_cons (pe_glob (by rfl) M.g (v := .ref CM) rfl) pa_nil)))
      (pe_and (pe_cmpR (op_eqC GE mE.m hr mE.b pass0) (pe_fld (pv 0) rfl) (pe_fld (pv 1) rfl) (nomark _))
      (pe_and (pe_cmpR op_eq (pe_fld (pv 0) rfl) (pe_fld (pv 1) rfl) (nomark _))
      (pe_one (pe_cmpR (op_eqD (by have := hr.units; exact this)) (pe_fld (pv 0) rfl) (pe_fld (pv 1) rfl) (nomark _))))))), ?_⟩
    rcases h with ⟨m2, t2, rs2, d2, ts2, rfl, hm2, hq⟩ | ⟨⟨ty, hty, hk⟩, hq⟩
    · obtain ⟨dx', u', k', g1, g2, g3⟩ := hm2.ex
      obtain ⟨tx, _, _, _, _, _, t1, _⟩ := id hm.tree.ex
      obtain ⟨tx2, _, _, _, _, _, t3, _⟩ := id hm2.tree.ex
      refine ⟨_, rfl, _, _, _, _, true, rfl, .own CM, .base (.ins g1 I.cl I.ha I.hn I.htk I.hm), I.me, _, rfl, iteT ?_⟩
      refine ⟨_, rfl, m, CM, dx, _, _, rfl, h1, M.cl, M.nt, mf_t _ _ _ _, _, rfl, m2, CM, dx', _, _, rfl, g1, M.cl, M.nt, mf_t _ _ _ _, t, tx, _, .ref C, rfl, t1, .ins t3, nfM, t, .ref t2, rs, rfl, hm.tree, .inl ⟨t2, rs2, rfl, hm2.tree, ?_⟩⟩
      refine ⟨_, rfl, _, rfl, ?_⟩
      refine ite2 (fun hc => ?_) (fun hc => ?_)
      · have e1 : decide (rs = rs2) = true := hc
        rw [e1, Bool.true_and] at hq
        refine ⟨_, rfl, m, CM, dx, _, _, rfl, h1, M.cl, M.nd, mf_d _ _ _ _, _, rfl, m2, CM, dx', _, _, rfl, g1, M.cl, M.nd, mf_d _ _ _ _, rfl, _, rfl, ?_⟩
        have e2 : decide (V.bl d = V.bl d2) = decide (d = d2) := by cases d <;> cases d2 <;> rfl
        rw [e2]
        refine ite2 (fun hd => ?_) (fun hd => ?_)
        · rw [hd, Bool.true_and] at hq
          refine ⟨_, rfl, m, CM, dx, _, _, rfl, h1, M.cl, M.nu, mf_u _ _ _ _, _, rfl, m2, CM, dx', _, _, rfl, g1, M.cl, M.nu, mf_u _ _ _ _, _, _, .tup (sqT h2) (strs_dpAll ts), .tup (sqT g2) (strs_dpAll ts2), shaped_strsT hm.ok, shaped_strsT hm2.ok, ?_⟩
          have e3 : PyData.eqv (.tuple (ts.map PyData.str)) (.tuple (ts2.map PyData.str)) = decide (ts = ts2) := by
            simp only [PyData.eqv]
            exact strs_eqv ts ts2
          rw [e3]
          exact hq
        · have e3 : decide (d = d2) = false := by simpa using hd
          rw [e3, Bool.false_and] at hq
          exact hq
      · have e1 : decide (rs = rs2) = false := by simpa using hc
        rw [e1, Bool.false_and] at hq
        exact hq
    · exact ⟨_, rfl, _, _, _, _, false, rfl, .own CM, hty, hk, _, rfl, iteF hq⟩
theorem sc_M_contains : FnScope ["self", "x"] ["self", "x"] (defScope s_Meaning_contains) := ⟨rfl, rfl, rfl, by decide +kernel, rfl, by decide +kernel, by decide +kernel⟩
theorem ok_M_contains {f : Addr} {fd : FuncData} (F : Fun K "__contains__" "Meaning.__contains__" s_Meaning_contains f fd) (B : TxB mg) (M : TxM K mg CM) : FnOk P w K mg base CX0 2 f fd ["self", "x"] (spMContains K C CM) := by
  refine F.ok sc_M_contains (fun vs H Q E h => ?_) (fun cdv A outer s H vs Q E hr h => ?_)
  · obtain ⟨m, t, x, rs, d, ts, rfl, _⟩ := h
    rfl
  · obtain ⟨m, t, x, rs, d, ts, rfl, hm, h⟩ := h
    have hu := hu_of hr
    obtain ⟨dx, u, k, h1, h2, h3⟩ := hm.ex
    refine ⟨_, pss_one (ps_ret (pe_and (pe_callB call_isi (by rfl) B.isinstance (by decide +kernel) (pa_cons (pv 1) (pa_cons (pe_bltn (by rfl) B.str (by decide +kernel) (v := .ty "str") rfl) pa_nil))) (pe_one (pe_dget2 hu (pe_fld (pv 0) rfl) (pv 1) pe_bl (by constructor <;> intros <;> rfl))))), ?_⟩
    rcases h with ⟨z, rfl, hq⟩ | ⟨⟨ty, hty, hk⟩, hq⟩
    · refine ⟨_, rfl, _, _, _, _, true, rfl, .ty "str", .base (.str z), kit_ty (by decide +kernel), _, rfl, iteT ?_⟩
      have dg := DGet.k (k := Sum.inr z) h3
      refine ⟨_, rfl, m, CM, dx, _, _, rfl, h1, M.cl, M.nk, mf_k _ _ _ _, k, rfl, .inl ⟨_, .inl h3⟩, _, rfl, _, dg, ?_⟩
      by_cases e : z = ("top" : Str) ∨ z ∈ names rs
      · rw [valV_kvM hm.tree.val d ts (by
          by_cases e1 : z = ("top" : Str)
          · exact .inl e1
          · exact .inr ⟨e1, e.resolve_left e1⟩)]
        rw [decide_eq_true e, Bool.true_and] at hq
        exact hq
      · have en : valV (kvM rs d ts rs) (.inr z : Key) = none := by
          show valV ((.inr ("top" : Str), .bl d) :: kvF (fun r => .bl (valOf rs d ts r.nm)) rs) (.inr z : Key) = none
          rw [valV_neg (fun q => e (.inl (Sum.inr.inj q).symm)), valV_kvF, find_none (fun h => e (.inr h))]; rfl
        rw [en]
        rw [decide_eq_false e, Bool.false_and] at hq
        exact hq
    · exact ⟨_, rfl, _, _, _, _, false, rfl, .ty "str", hty, hk, _, rfl, iteF hq⟩
end
end Ts

set_option maxRecDepth 100000
set_option maxHeartbeats 4000000
namespace Ts
open PySem L2
/-! ### iter(tuple), and a walk over an object whose `__iter__` hands it on -/
/-- at it an iterator over the tuple at l, at its start -/
def ItT (l it : Addr) : HO := .ext fun h => h.IsTupleIter it l 0
theorem itT_ok {P : Program} {w : World} {H : Hp} {h : Heap} {l it : Addr} (e : h.IsTupleIter it l 0) : ObjOk P w H h it (ItT l it) := by
  obtain ⟨o, ho, hc, hd⟩ := id e
  exact ⟨e, ⟨o, ho⟩, fun g1 g2 q kk => by obtain ⟨o2, ho2, r2⟩ := q; exact ⟨o2, kk _ ho2, r2⟩⟩
def rIterT (K : PySem.W.Frag) (n : Nat) : List V → Hp → VK → Prop := fun xs H Q => ∃ (l : Addr) (zs : List V), xs = [.ref l] ∧ SqT K H l zs ∧ ∀ it, H it = Option.none → n ≤ it → Q (.ref it) (upd H it (ItT l it))
section
variable {X : Cx}
theorem call_iterT : CallR X (.builtin "iter") (rIterT X.K X.s_0.heap.objs.size) := by
  intro pins s σ H xs us Q I r hh
  obtain ⟨l, zs, rfl, hsq, hQ⟩ := hh
  obtain ⟨u, rfl, ru⟩ := vals1 r
  cases ru
  obtain ⟨its, rv, pl, hz⟩ := I.tuple hsq
  have ht : s.heap.IsTuple l its.toArray := pl
  refine Calls.call_function_entry (by decide +kernel) (by decide +kernel) PySem.W.kdk_entry_iter (PySem.W.kdk_args_iter _) ?_; unfold Builtin.«iter»
  refine wpAny_bind (m := someArgs "iter" 1 2 _) (wpAny_of_eq (a := [Value.ref l]) (by first | rfl | kernel_rfl!) ?_); show wpAny _ _ (pyIter (.ref l) >>= _) _ _ _
  refine wpAny_bind (wpAny_pyIter_tuple ht (wpAny_pure ⟨_, rfl, ?_⟩))
  exact ⟨.ref s.heap.objs.size, _, I.laid (t' := s.toks) (fun b u e => Heap.get?_push_of_some _ e) (Nat.le_refl _) (itT_ok ⟨_, Heap.get?_push_size _ rfl, rfl, rfl⟩), rfl, hQ _ (I.hok.fresh (Nat.le_refl _)) I.sz⟩
end
/-- a def that may say how young its answer is: sp knows the size of the memory at the call -/
def FnY (P : Program) (w : World) (K : PySem.W.Frag) (mg : Str → Option Value) (base : Heap) (CX : CXT) (k : Nat) (f : Addr) (ps : List Str) (sp : Nat → Sp) : Prop :=
  (∀ n vs H Q E, sp n vs H Q E → vs.length = ps.length) ∧ ∀ (A : Around) (outer : List Env) (s : Shared) (H : Hp) (us : List Value) (vs : List V) (Q : VK) (E : XK), Room k A → Env0 P w K mg base A outer s H → Vals vs us → sp s.heap.objs.size vs H Q E →
    codeAny (model P w) A (.call (.ref f) ⟨us, []⟩) (CR CX outer P w H s Q E) s
theorem fn_young {CX : CXT} {P : Program} {w : World} {K : PySem.W.Frag} {mg : Str → Option Value} {base : Heap} {k : Nat} {f : Addr} {fd : FuncData} {x qual : Str} {st : Stmt} {N ps : List Str} {sp : Nat → Sp} (F : Fun K x qual st f fd) (S : FnScope N ps (defScope st)) (bd : Binds K fd ps [])
    (len : ∀ n vs H Q E, sp n vs H Q E → vs.length = ps.length)
    (body : ∀ (cdv : Value) (A : Around) (outer : List Env) (s : Shared) (H : Hp) (vs : List V) (Q : VK) (E : XK), Room k (A.deeper (PyProof.Rows.envOfC qual (defScope st) s.heap.objs.size f cdv)) → sp s.heap.objs.size vs H Q E →
      ∃ t, PSs (cxOf CX P w K mg base N qual (defScope st) f cdv A outer s H E) (defBody st) t ∧ t { nx := fun _ H' => Q .non H', rt := Q } (start N vs) H) : FnY P w K mg base CX (k + 1) f ps sp := by
  refine ⟨len, fun A outer s H us vs Q E rm en rv want => ?_⟩
  obtain ⟨oc, od, kV, doc, pm, an, cdv, ct, osl, rfl, look, code⟩ := F.ex
  have lv := len _ _ _ _ _ want
  have KI : K.In s.heap := en.mod.kin.keeps fun b o hb => (en.bs b o hb).1
  have nolim : s.heap.NoLimit := en.mod.nolimit.keeps fun b o hb => (en.bs b o hb).1
  have kinds : ∀ z ∈ ps.zip us, (defScope st).names.lookup z.1 = some .local ∨ ((defScope st).names.lookup z.1 = some .cell ∧ ((cellsFrom (s.heap.objs.size + 1) (defScope st).names []).lookup z.1).isSome = true) := fun ⟨n, v⟩ hz => by
    rcases S.par n (List.of_mem_zip hz).1 with z1 | z1
    · exact .inl z1
    · exact .inr ⟨z1, PySem.W.cellsFrom_some _ _ _ (.inl z1)⟩
  have bt := bd s us KI (by rw [List.append_nil, ← rv.length]; exact lv)
  rw [List.append_nil] at bt
  refine codeAny_call_function rm.depth (KI _ _ look) rfl S.co S.gen rfl (PySem.W.codeRec_of KI code) (bt _ _ _ _ ?_)
  refine wpAny_newFunctionEnv_cells S.kind kinds fun e2 he2 s1 y => ?_
  subst he2
  refine ⟨nolim.keeps y.toInCall.keep, codeAny_func ?_⟩
  obtain ⟨t, tm, tq⟩ := body cdv A outer s H vs Q E (rm.deeper _) want
  have J : Inv (cxOf CX P w K mg base N qual (defScope st) f cdv A outer s H E) [] (start N vs) H s1 := inv_start S rm.hd en lv rv y
  refine wpAny_mono (tm.run [] s1 (start N vs) H _ J tq) (fun fl s2 hs => ?_) fun e3 s2 hs => hs
  have close : ∀ {σ2 : St} {H2 : Hp} {v : V} {u : Value}, Inv (cxOf CX P w K mg base N qual (defScope st) f cdv A outer s H E) [] σ2 H2 s2 → RelV v u → Q v H2 → CE outer P w H s Q u s2 := fun {σ2 H2 v u} J2 r2 q2 => ⟨v, H2, J2.os, J2.bare, J2.base, J2.hok, r2, q2⟩
  cases fl with
  | ret u => obtain ⟨v, σ2, H2, J2, r2, q2⟩ := hs; exact close J2 r2 q2
  | next => obtain ⟨σ2, H2, J2, q2⟩ := hs; exact close (v := V.non) (u := Value.none) J2 rfl q2
  | brk => obtain ⟨_, _, _, q2⟩ := hs; exact False.elim q2
  | cont => obtain ⟨_, _, _, q2⟩ := hs; exact False.elim q2
/-- what such an `__iter__` promises: an iterator over a tuple -/
def spIterT (K : PySem.W.Frag) (C : Addr) (fld : Str) : Nat → Sp := fun n vs H Q _ => ∃ (a dx l : Addr) (fs : List (Str × V)) (zs : List V), vs = [.ref a] ∧ H a = some (.ins C dx fs) ∧ fs.lookup fld = some (.ref l) ∧ SqT K H l zs ∧ ∀ it, H it = Option.none → n ≤ it → Q (.ref it) (upd H it (ItT l it))
def iOwnT (K : PySem.W.Frag) (C : Addr) (fld : Str) (t : TE) : TI := fun σ H R => t σ H fun x H1 => ∃ (a dx l : Addr) (fs : List (Str × V)), x = .ref a ∧ H1 a = some (.ins C dx fs) ∧ fs.lookup fld = some (.ref l) ∧ (∃ zs, SqT K H1 l zs) ∧ R (Itt K l) H1
theorem itT_at {X : Cx} {pins : List (Addr × Obj)} {σ : L2.St} {H : Hp} {s : Shared} {l it : Addr} (I : Inv X pins σ H s) (e : H it = some (ItT l it)) : s.heap.IsTupleIter it l 0 := (I.hok it _ e).1
section
variable {X : Cx} {tg e : Expr} {t : TE} {C f : Addr} {fld : Str} {k : Nat} {ps : List Str}
theorem pi_ownT (he : PE X e t) (F : FnY X.prog X.w X.K X.mg X.base CX0 k f ps (spIterT X.K C fld)) (m : Meth X.K C "__iter__" f) (hr : Room k X.A) : PI X tg e (iOwnT X.K C fld t) := by
  refine ⟨fun pins s σ H R I h => ?_⟩
  refine thn (he.run pins s σ H _ I h) fun v s1 ⟨x, H1, I1, r1, a, dx, l, fs, ex, ha, hf, ⟨zs, hz⟩, q⟩ => ?_
  subst ex
  cases r1
  obtain ⟨mA, J, _⟩ := ins_get I1.hok ha
  obtain ⟨od, J, _⟩ := J.look
  obtain ⟨mm, hF⟩ := I1.fr
  refine PySem.W.owit_iter hF I1.ok.mod.kin J m.at_ m.fn ?_
  refine wpAny_call (codeAny_mono (F.2 X.A X.stack s1 H1 [.ref a] [.ref a] (fun v H2 => ∃ it, v = .ref it ∧ H1 it = Option.none ∧ s1.heap.objs.size ≤ it ∧ H2 = upd H1 it (ItT l it)) E0 hr I1.env0 (.cons (show RelV (.ref a) (.ref a) from rfl) .nil) ⟨a, dx, l, fs, zs, rfl, ha, hf, hz, fun it h0 hn => ⟨it, rfl, h0, hn, rfl⟩⟩) fun r s' hq => ?_)
  cases r with
  | error e => exact hq.elim
  | ok fl =>
    cases fl with
    | next => exact hq.elim
    | brk => exact hq.elim
    | cont => exact hq.elim
    | ret u =>
      obtain ⟨v2, H2, I2, r2, it, ev, h0, hn, eH⟩ := I1.after hq
      subst ev
      subst eH
      cases r2
      have ti := itT_at I2 upd_same
      have I3 : Inv X pins σ (ItX.dropH (upd H1 it (ItT l it)) it) s' := ItX.inv_drop I2 (φ := fun h => h.IsTupleIter it l 0) upd_same
      have fp := ItX.inv_fp I2 upd_same (Nat.le_trans I1.sz hn)
      rw [ItX.dropH_upd h0] at I3 fp
      have fin : PIE X pins σ tg R (.ref it) s' := ⟨it, [it], _, _, H1, rfl, I3, turn_tuple l it, ti, fun b hb => by
        have eb : b = it := by simpa using hb
        rw [eb]; exact fp, q⟩
      exact wpAny_specialOf (name := "__next__") ti.typeIs PySem.F.slot_tuple_iterator_next.lookup fin
end
end Ts

set_option maxRecDepth 100000
set_option maxHeartbeats 4000000
namespace Ts
open PySem L2
/-! ### what a newcomer is worth -/
theorem wayOf_last (rs : List Row) (q : Row) : wayOf (rs ++ [q]) q.nm = wayOf rs q.fo ++ [q.nm] := by
  unfold wayOf
  rw [List.reverse_append]
  show (if q.nm = q.nm then wayR rs.reverse q.fo ++ [q.nm] else wayR rs.reverse q.nm) = _
  rw [if_pos rfl]
theorem wayOf_skip (rs : List Row) (q : Row) {z : Str} (h : q.nm ≠ z) : wayOf (rs ++ [q]) z = wayOf rs z := by
  unfold wayOf
  rw [List.reverse_append]
  show (if q.nm = z then wayR rs.reverse q.fo ++ [z] else wayR rs.reverse z) = _
  rw [if_neg h]
theorem turned_congr {ts us : List Str} : ∀ (l : List Str) (d : Bool), (∀ x ∈ l, x ∈ ts ↔ x ∈ us) → turned d ts l = turned d us l
  | [], _, _ => rfl
  | x :: l, d, h => by
    show turned (if x ∈ ts then !d else d) ts l = turned (if x ∈ us then !d else d) us l
    have e : (if x ∈ ts then !d else d) = (if x ∈ us then !d else d) := by
      by_cases hx : x ∈ ts
      · rw [if_pos hx, if_pos ((h x (List.mem_cons_self ..)).mp hx)]
      · rw [if_neg hx, if_neg fun q => hx ((h x (List.mem_cons_self ..)).mpr q)]
    rw [e]
    exact turned_congr l _ fun y hy => h y (List.mem_cons_of_mem _ hy)
theorem valOf_congr {rs : List Row} {d : Bool} {ts us : List Str} {z : Str} (h : ∀ x ∈ names rs, x ∈ ts ↔ x ∈ us) : valOf rs d ts z = valOf rs d us z :=
  turned_congr _ _ fun x hx => h x (way_mem hx)
theorem mem_turnsL {rs : List Row} {xs : List Str} {x : Str} : x ∈ turnsL rs xs ↔ x ∈ names rs ∧ x ∈ xs := by
  unfold turnsL
  rw [List.mem_filter, decide_eq_true_eq]
theorem names_app (rs qs : List Row) : names (rs ++ qs) = names rs ++ names qs := List.map_append
theorem val_newc {rs : List Row} {q : Row} (d : Bool) {ts : List Str} (h : q.nm ∉ ts) : valOf (rs ++ [q]) d (turnsL (rs ++ [q]) ts) q.nm = valOf rs d ts q.fo := by
  unfold valOf
  rw [wayOf_last, turned_snoc, if_neg fun e => h (mem_turnsL.mp e).2]
  refine turned_congr _ _ fun x hx => ?_
  rw [mem_turnsL, names_app]
  exact ⟨fun e => e.2, fun e => ⟨List.mem_append.mpr (.inl (way_mem hx)), e⟩⟩
theorem filter_of_sub {l : List Str} : ∀ {s : List Str}, s.Sublist l → l.Nodup → l.filter (fun z => decide (z ∈ s)) = s := by
  intro s h
  induction h with
  | slnil => intro _; rfl
  | cons a h ih =>
    intro nd
    rw [List.nodup_cons] at nd
    rw [List.filter_cons_of_neg (by
      rw [decide_eq_true_eq]
      exact fun e => nd.1 (h.subset e))]
    exact ih nd.2
  | cons_cons a h ih =>
    rename_i l1 l2
    intro nd
    rw [List.nodup_cons] at nd
    rw [List.filter_cons_of_pos (by rw [decide_eq_true_eq]; exact List.mem_cons_self ..)]
    have e : l2.filter (fun z => decide (z ∈ a :: l1)) = l2.filter (fun z => decide (z ∈ l1)) := by
      refine List.filter_congr fun z hz => ?_
      have ne : z ≠ a := fun e => nd.1 (e ▸ hz)
      simp [ne]
    rw [e, ih nd.2]
theorem Valid.nodup {rs : List Row} (h : Valid rs) : (names rs).Nodup := by
  unfold names
  rw [List.nodup_iff_pairwise_ne, List.pairwise_iff_getElem]
  intro i j hi hj hij e
  rw [List.length_map] at hi hj
  rw [List.getElem_map, List.getElem_map] at e
  refine (h j rs[j] (List.getElem?_eq_getElem hj)).new (List.mem_map.mpr ⟨rs[i], ?_, e⟩)
  exact List.mem_take_iff_getElem.mpr ⟨i, by omega, rfl⟩
theorem turnsL_sub {rs : List Row} (h : Valid rs) {ts : List Str} (s : ts.Sublist (names rs)) : turnsL rs ts = ts := filter_of_sub s h.nodup
theorem turnsL_congr {rs : List Row} {xs ys : List Str} (h : ∀ x, x ∈ xs ↔ x ∈ ys) : turnsL rs xs = turnsL rs ys := by
  unfold turnsL
  refine List.filter_congr fun z _ => ?_
  rw [decide_eq_decide]
  exact h z
/-! ### a dict of values, as data -/
def kvD (b : Str × Bool) : PyData := .tuple [.str b.1, .bool b.2]
/-- the items of the values -/
def itemsM (rs : List Row) (d : Bool) (ts : List Str) : List (Str × Bool) := (("top" : Str), d) :: rs.map fun r => (r.nm, valOf rs d ts r.nm)
theorem kvM_items (rs : List Row) (d : Bool) (ts : List Str) : kvM rs d ts rs = (itemsM rs d ts).map fun q => ((.inr q.1 : Key), V.bl q.2) := by
  unfold kvM itemsM kvF
  rw [List.map_cons, List.map_map]
  rfl
theorem items_dp {K : PySem.W.Frag} {H : Hp} : ∀ {qs : List (Str × Bool)} {ts : List Addr}, Paired (fun (t : Addr) (q : Key × V) => H t = some (.tup [kV q.1, q.2])) ts (qs.map fun q => ((.inr q.1 : Key), V.bl q.2)) → DpAll K H (ts.map V.ref) (qs.map kvD)
  | [], [], _ => .nil
  | [], _ :: _, h => by cases h
  | _ :: _, [], h => by cases h
  | q :: qs, t :: ts, h => by
    cases h with
    | cons h1 h2 => exact .cons (.tup (sqT h1) (.cons (.str _) (.cons (.bl _) .nil))) (items_dp h2)
theorem items_lay : ∀ (qs : List (Str × Bool)), (∀ q ∈ qs, PyData.strOk q.1 = true) → PyData.canLayAll0 (qs.map kvD) = true
  | [], _ => by simp [PyData.canLayAll0]
  | q :: qs, h => by
    have h1 := h q (List.mem_cons_self ..)
    simp [List.map_cons, kvD, PyData.canLayAll0, PyData.canLay0, h1, items_lay qs (fun x hx => h x (List.mem_cons_of_mem _ hx))]
theorem items_depth : ∀ (qs : List (Str × Bool)), PyData.depthAll (qs.map kvD) ≤ 1
  | [] => by simp [PyData.depthAll]
  | q :: qs => by
    have ih := items_depth qs
    simp only [List.map_cons, kvD, PyData.depthAll, PyData.depth]
    omega
theorem shaped_items {qs : List (Str × Bool)} (h : ∀ q ∈ qs, PyData.strOk q.1 = true) : SeqAt.shaped (.list (qs.map kvD)) = true := by
  have q := items_depth qs
  unfold SeqAt.shaped
  rw [Bool.and_eq_true]
  refine ⟨by simp only [PyData.canLay0]; exact items_lay qs h, decide_eq_true ?_⟩
  simp only [PyData.depth]
  omega
theorem items_ok {rs : List Row} (h : Valid rs) (d : Bool) (ts : List Str) : ∀ q ∈ itemsM rs d ts, PyData.strOk q.1 = true := by
  intro q hq
  rcases List.mem_cons.mp hq with e | hq
  · rw [e]; exact top_ok
  · obtain ⟨r, hr, rfl⟩ := List.mem_map.mp hq
    exact names_ok h _ (List.mem_map.mpr ⟨r, hr, rfl⟩)
theorem items_same : ∀ (qs : List (Str × Bool)), PyData.eqvAll (qs.map kvD) (qs.map kvD) = true
  | [] => by simp [PyData.eqvAll]
  | q :: qs => by
    simp [List.map_cons, kvD, PyData.eqvAll, PyData.eqv, items_same qs]
section
variable {P : Program} {w : World} {K : PySem.W.Frag} {mg : Str → Option Value} {base : Heap} {C CM : Addr}
theorem sc_M_iter : FnScope ["self"] ["self"] (defScope s_Meaning_iter) := ⟨rfl, rfl, rfl, by decide +kernel, rfl, by decide +kernel, by decide +kernel⟩
theorem ok_M_iter {f : Addr} {fd : FuncData} (F : Fun K "__iter__" "Meaning.__iter__" s_Meaning_iter f fd) (bd : Binds K fd ["self"] []) (hI : mg "iter" = none) (M : TxM K mg CM) : FnY P w K mg base CX0 2 f ["self"] (spIterT K CM "turns") := by
  refine fn_young F sc_M_iter bd (fun n vs H Q E h => ?_) (fun cdv A outer s H vs Q E hr h => ?_)
  · obtain ⟨a, dx, l, fs, zs, rfl, _⟩ := h
    rfl
  · obtain ⟨a, dx, l, fs, zs, rfl, ha, hf, hz, q⟩ := h
    refine ⟨_, pss_one (ps_ret (pe_callB call_iterT (by rfl) hI (by decide +kernel) (pa_cons (pe_fld (pv 0) rfl) pa_nil))), ?_⟩
    exact ⟨_, rfl, a, CM, dx, fs, _, rfl, ha, M.cl, M.nu, hf, l, zs, rfl, hz, q⟩
end
end Ts

set_option maxRecDepth 100000
set_option maxHeartbeats 4000000
namespace Ts
open PySem L2
theorem mk_same {C : Addr} {H H' : Hp} {x dx : Addr} (nx : H x = none) (nd : H dx = none) (sb : SB x (upd (upd H dx (.own x)) x (.ins C dx [])) H') : Same H H' := fun b o e =>
  sb b o (ne_of_none e nx) (by rw [upd_ne (ne_of_none e nx), upd_ne (ne_of_none e nd)]; exact e)
theorem mk_same0 {C : Addr} {H : Hp} {x dx : Addr} (nx : H x = none) (nd : H dx = none) : Same H (upd (upd H dx (.own x)) x (.ins C dx [])) := fun b o e => by
  rw [upd_ne (ne_of_none e nx), upd_ne (ne_of_none e nd)]; exact e
theorem SeqRows.snoc {H : Hp} {as : List Addr} {rs : List Row} {a : Addr} {r : Row} (h : SeqRows H as rs) (ha : H a = some (.tup (rowVs r)) ∨ H a = some (.lst (rowVs r))) : SeqRows H (as ++ [a]) (rs ++ [r]) := by
  refine ⟨by simp [h.len], fun i b q hb hq => ?_⟩
  rcases Nat.lt_or_ge i as.length with hi | hi
  · rw [List.getElem?_append_left hi] at hb
    rw [List.getElem?_append_left (h.len ▸ hi)] at hq
    exact h.at_ i b q hb hq
  · rw [List.getElem?_append_right hi] at hb
    rw [List.getElem?_append_right (h.len ▸ hi)] at hq
    have e0 : i - as.length = 0 := by
      have := (List.getElem?_eq_some_iff.mp hb).1
      simp at this
      omega
    have e1 : i - rs.length = 0 := by rw [← h.len]; exact e0
    rw [e0] at hb
    rw [e1] at hq
    simp at hb hq
    subst hb; subst hq
    exact ha
theorem SeqRows.append {H : Hp} : ∀ {bs : List Addr} {qs : List Row} {as : List Addr} {rs : List Row}, SeqRows H as rs → SeqRows H bs qs → SeqRows H (as ++ bs) (rs ++ qs)
  | [], [], as, rs, h, _ => by simpa using h
  | [], _ :: _, _, _, _, h => by have := h.len; simp at this
  | _ :: _, [], _, _, _, h => by have := h.len; simp at this
  | b :: bs, q :: qs, as, rs, h, h2 => by
    have h3 : SeqRows H bs qs := ⟨by simpa using h2.len, fun i a r ha hr => h2.at_ (i + 1) a r (by simpa using ha) (by simpa using hr)⟩
    have := SeqRows.append (h.snoc (h2.at_ 0 b q rfl rfl)) h3
    simpa using this
theorem rows_at {as : List Addr} {rs : List Row} {H : Hp} (h : RowsAt H as rs) {i : Nat} {x : V} (hx : (as.map V.ref)[i]? = some x) : ∃ ra r, x = .ref ra ∧ as[i]? = some ra ∧ rs[i]? = some r ∧ H ra = some (.tup (rowVs r)) := by
  rw [List.getElem?_map] at hx
  obtain ⟨ra, hra, rfl⟩ := Option.map_eq_some_iff.mp hx
  obtain ⟨r, hr'⟩ : ∃ r, rs[i]? = some r := ⟨rs[i]'(by rw [← h.len]; exact (List.getElem?_eq_some_iff.mp hra).1), List.getElem?_eq_getElem _⟩
  exact ⟨ra, r, rfl, hra, hr', h.at_ i ra r hra hr'⟩
theorem filter_more {rs : List Row} {i : Nat} {r : Row} (h : rs[i]? = some r) (p : Row → Bool) : (rs.take (i + 1)).filter p = (rs.take i).filter p ++ (if p r = true then [r] else []) := by
  rw [take_more h, List.filter_append]
  by_cases e : p r = true
  · rw [if_pos e, List.filter_cons_of_pos e]; rfl
  · rw [if_neg e, List.filter_cons_of_neg e]; rfl
/-- a new list that keeps some of the rows: what stands between two turns -/
structure KeepI (H0 H : Hp) (D : Addr) (qs : List Row) : Prop where
  same : Same H0 H
  ex : ∃ as : List Addr, H D = some (.lst (as.map V.ref)) ∧ RowsAt H as qs
theorem KeepI.nil {H : Hp} {D : Addr} (h : H D = none) : KeepI H (upd H D (.lst [])) D [] := ⟨Same.new h, [], upd_same, RowsAt.nil⟩
theorem KeepI.grow {H0 H H' : Hp} {D ra : Addr} {qs : List Row} {r : Row} (h : KeepI H0 H D qs) (hD : H0 D = none) (s : Same H H') (hr : H' ra = some (.tup (rowVs r))) (hl : qs.length ≤ 900) :
    ∃ acc, H' D = some (.lst acc) ∧ acc.length < sizeLine ∧ KeepI H0 (upd H' D (.lst (acc ++ [V.ref ra]))) D (qs ++ [r]) := by
  obtain ⟨as, h1, h2⟩ := h.ex
  have hD' := s _ _ h1
  have kt : ∀ {b : Addr} {xs : List V}, H' b = some (.tup xs) → (upd H' D (.lst (as.map V.ref ++ [V.ref ra]))) b = some (.tup xs) := fun {b xs} e => by
    rw [upd_ne (fun y => by rw [y, hD'] at e; cases e)]; exact e
  refine ⟨as.map V.ref, hD', small1000 (by rw [List.length_map, h2.len]; omega), fun b o e => ?_, as ++ [ra], by rw [upd_same, List.map_append]; rfl, RowsAt.snoc ⟨h2.len, fun j b q hb hq => kt (s _ _ (h2.at_ j b q hb hq))⟩ (kt hr)⟩
  rw [upd_ne (fun y => by rw [y, hD] at e; cases e)]
  exact s _ _ (h.same _ _ e)
theorem KeepI.on {H0 H H' : Hp} {D : Addr} {qs : List Row} (h : KeepI H0 H D qs) (s : Same H H') : KeepI H0 H' D qs := by
  obtain ⟨as, h1, h2⟩ := h.ex
  exact ⟨h.same.trans s, as, s _ _ h1, h2.same s⟩
def spMore (C : Addr) : Sp := fun vs H Q _ => ∃ (t a : Addr) (rs : List Row) (r : Row), vs = [.ref t, .ref a] ∧ TreeAt C H t rs ∧ Seq H a (rowVs r) ∧ Fits rs r ∧ rs.length + 1 ≤ 100 ∧ ∀ x H', Same H H' → TreeAt C H' x (rs ++ [r]) → Q (.ref x) H'
def spLess (C : Addr) : Sp := fun vs H Q _ => ∃ (t : Addr) (z : Str) (rs : List Row), vs = [.ref t, .str z] ∧ TreeAt C H t rs ∧ z ∈ names rs ∧ ∀ x H', Same H H' → TreeAt C H' x (lessL rs z) → Q (.ref x) H'
def spMoved (C : Addr) : Sp := fun vs H Q _ => ∃ (t : Addr) (m : Row) (fo : Str) (rs : List Row), vs = [.ref t, .str m.nm, .str fo] ∧ TreeAt C H t rs ∧ m ∈ rs ∧ (fo = ("top" : Str) ∨ ∃ q ∈ rs, q.nm = fo ∧ q.ki = ("folder" : Str) ∧ under rs m.nm q = false) ∧ ∀ x H', Same H H' → TreeAt C H' x (movedL rs m fo) → Q (.ref x) H'
section
variable {P : Program} {w : World} {K : PySem.W.Frag} {mg : Str → Option Value} {base : Heap} {C : Addr}
abbrev nTWay : List Str := ["self", "box", "climb"]
theorem sc_Tree_way : FnScope nTWay ["self", "box"] (defScope s_Tree_way) := ⟨rfl, rfl, rfl, by decide +kernel, rfl, by decide +kernel, by decide +kernel⟩
theorem ok_Tree_way {f : Addr} {fd : FuncData} (F : Fun K "way" "Tree.way" s_Tree_way f fd) (Dp : DefAt K mg "check_place" s_check_place ["tree", "thing"]) (Gp : FnOk P w K mg base CX0 4 Dp.f Dp.fd ["tree", "thing"] (spPlace C)) (TC : TxC K mg) (T : TxT K mg C) : FnOk P w K mg base CX0 5 f fd ["self", "box"] (spListOf C wayOf) := by
  obtain ⟨t1, gT⟩ := TC.top
  refine F.ok sc_Tree_way (fun vs H Q E h => ?_) (fun cdv A outer s H vs Q E hr h => ?_)
  · obtain ⟨t, z, rs, rfl, _⟩ := h
    rfl
  · obtain ⟨t, z, rs, rfl, ht, hz, hq⟩ := h
    have hu := hu_of hr
    have hv := ht.val
    obtain ⟨dx, q, f, k, p, qs, h1, h2, h3, h4, h5, h6⟩ := ht.ex
    refine ⟨_, pss_cons (ps_expr (pe_call Gp hr rfl Dp.g Dp.F.kp Dp.b .nil pass0 (pa_cons (pv 0) (pa_cons (pv 1) pa_nil))))
      (pss_cons (ps_set (i := 2) sc_Tree_way.nd rfl (.inl rfl) (pe_lst pa_nil))
      (pss_cons (ps_while PassesOwn.never (pt_cmpR op_ne (pv 1) (pe_glob (by rfl) gT (v := .str ("top" : Str)) ⟨_, rfl⟩) (nomark _))
        (pss_cons (ps_expr (pe_bm PySem.F.plainAttrs_list PySem.F.slot_list_append PySem.F.type_list_append mt_append (pv 2) (pa_cons (pv 1) pa_nil)))
        (pss_one (ps_set (i := 1) sc_Tree_way.nd rfl (.inl rfl) (pe_dget hu (pe_fld (pv 0) rfl) (pv 1) (fun _ _ => rfl))))))
      (pss_one (ps_ret (pe_revL (pv 2)))))), ?_⟩
    refine ⟨_, rfl, _, rfl, t, z, rs, rfl, ht, hz, ?_⟩
    refine ⟨Nat.zero_le _, fun cl hcl => ?_⟩
    refine while_by (fun σ H' => ∃ (z' : Str) (cs : List Str), σ = [some (.ref t), some (.str z'), some (.ref cl)] ∧ (z' = ("top" : Str) ∨ z' ∈ names rs) ∧ Same H H' ∧ H' cl = some (.lst (cs.map V.str)) ∧ wayOf rs z = wayOf rs z' ++ cs.reverse) (muWay rs)
      ⟨z, [], rfl, hz, Same.new hcl, upd_same, by simp⟩ ?_ (fun σ H Q Q' hQ ⟨v, e, sc, k, e2, q⟩ => ⟨v, e, sc, k, e2, hQ _ _ q⟩)
    rintro σ H4 ⟨z', cs, rfl, hz', s4, hc4, ew⟩
    refine ⟨_, rfl, rfl, _, rfl, ?_⟩
    refine ite2 (fun hc => ?_) (fun hc => ?_)
    · have hn : z' ≠ ("top" : Str) := fun e => by rw [e] at hc; simp at hc
      have hin := hz'.resolve_left hn
      obtain ⟨r, e1, hrm, rfl⟩ := rowOf_some hin
      have ws := way_step hv hrm
      have lw := way_len (rs := rs) (z := z)
      have l100 := ht.len
      have lf : cs.length ≤ 100 := by
        have := congrArg List.length ew
        rw [List.length_append, List.length_reverse] at this
        omega
      have tc : t ≠ cl := ne_of_none h1 hcl
      have fc : f ≠ cl := ne_of_none h4 hcl
      refine ⟨_, rfl, .inl ⟨rfl, _, SqL.of hc4⟩, _, rfl, cl, _, _, rfl, rfl, hc4, small1000 (by rw [List.length_map]; omega), ?_⟩
      refine ⟨_, rfl, t, C, dx, _, _, rfl, by rw [upd_ne tc]; exact s4 _ _ h1, T.cl, T.nf, tf_f _ _ _ _, _, rfl, f, .str r.fo, rfl, ?_, ?_⟩
      · have dg := DGet.k (k := Sum.inr r.nm) (show (upd H4 cl (.lst (cs.map V.str ++ [V.str r.nm]))) f = some (.dK (kvF (fun r => .str r.fo) rs)) from by rw [upd_ne fc]; exact s4 _ _ h4)
        rw [valV_kvF, show (rs.find? fun q => decide (q.nm = r.nm)) = some r from e1] at dg
        exact dg
      · refine ⟨⟨r.fo, cs ++ [r.nm], rfl, hv.foAll hrm, fun b o e => ?_, by rw [upd_same, List.map_append]; rfl, ?_⟩, ?_⟩
        · rw [upd_ne (ne_of_none e hcl)]
          exact s4 _ _ e
        · rw [ew, ws]; simp
        · show (wayOf rs r.fo).length < (wayOf rs r.nm).length
          rw [ws]; simp
    · have ht' : z' = ("top" : Str) := Classical.byContradiction fun e => hc (by
        show (!decide (V.str z' = V.str ("top" : Str))) = true
        rw [decide_eq_false (fun q => e (V.str.inj q))]; rfl)
      refine ⟨_, rfl, cl, _, rfl, SqL.of hc4, fun D hD => ?_⟩
      refine hq D _ (s4.free hD) (s4.trans (Same.new hD)) ?_
      rw [upd_same, ew, ht', way_top hv, List.nil_append, List.map_reverse]
end
end Ts

set_option maxRecDepth 100000
set_option maxHeartbeats 4000000
namespace Ts
open PySem L2
/-! ### making trees and meanings, as a caller reads it -/
theorem mean_made {K : PySem.W.Frag} {C CM : Addr} {Q : VK} {H : Hp} {t h : Addr} {d : Bool} {xs : List Str} {rs : List Row} (ht : TreeAt C H t rs) (hx : SqX K H h (xs.map V.str)) (hf : ∀ x ∈ xs, Free rs x)
    (k : ∀ m H', Same H H' → MeanAt C CM H' m t rs d (turnsL rs xs) → Q (.ref m) H') :
    ∀ x dx, H x = none → H dx = none → dx ≠ x → spMeaningInit K C CM (.ref x :: ([.ref t, .bl d, .ref h] ++ [])) (upd (upd H dx (.own x)) x (.ins CM dx [])) (fun v H2 => v = .non ∧ Q (.ref x) H2) E0 :=
  fun x dx nx nd _ => ⟨x, dx, t, h, d, xs, rs, rfl, upd_same, ht.same (mk_same0 nx nd), hx.same (mk_same0 nx nd), hf, fun H' sb m => ⟨rfl, k x H' (mk_same nx nd sb) m⟩⟩
theorem mean_madeD {K : PySem.W.Frag} {C CM : Addr} {Q : VK} {H : Hp} {t h : Addr} {d : Bool} {rs : List Row} (ht : TreeAt C H t rs) (hx : SqT K H h []) 
    (k : ∀ m H', Same H H' → MeanAt C CM H' m t rs d [] → Q (.ref m) H') :
    ∀ x dx, H x = none → H dx = none → dx ≠ x → spMeaningInit K C CM (.ref x :: ([.ref t, .bl d] ++ [.ref h])) (upd (upd H dx (.own x)) x (.ins CM dx [])) (fun v H2 => v = .non ∧ Q (.ref x) H2) E0 :=
  fun x dx nx nd _ => ⟨x, dx, t, h, d, [], rs, rfl, upd_same, ht.same (mk_same0 nx nd), (show SqX K H h [] from .inr hx).same (mk_same0 nx nd), (fun x hx => by cases hx), fun H' sb m => ⟨rfl, k x H' (mk_same nx nd sb) (by
    have e : turnsL rs [] = [] := by unfold turnsL; simp
    rw [e] at m
    exact m)⟩⟩
theorem tree_made {C : Addr} {Q : VK} {H : Hp} {p : Addr} {as : List Addr} {rs : List Row} (hp : Seq H p (as.map V.ref)) (hr : SeqRows H as rs) (hl : rs.length ≤ 100) (hv : Valid rs)
    (k : ∀ t H', Same H H' → TreeAt C H' t rs → Q (.ref t) H') :
    ∀ x dx, H x = none → H dx = none → dx ≠ x → spTreeInit C (.ref x :: ([.ref p] ++ [])) (upd (upd H dx (.own x)) x (.ins C dx [])) (fun v H2 => v = .non ∧ Q (.ref x) H2) E0 :=
  fun x dx nx nd _ => ⟨x, dx, p, as, rs, rfl, upd_same, hp.same (mk_same0 nx nd), hr.same (mk_same0 nx nd), hl, hv, fun H' sb m => ⟨rfl, k x H' (mk_same nx nd sb) m⟩⟩
theorem newz_len : ("newz" : Str).length = 4 := by decide +kernel
theorem newz_low : Low ("newz" : Str) := by unfold Low; decide +kernel
theorem newz_fits {rs : List Row} (hn : ∀ r ∈ rs, r.nm.length ≠ 4) {fo : Str} (hfo : fo = ("top" : Str) ∨ fo ∈ folderNames rs) : Fits rs ⟨"newz", fo, "item", some 1⟩ := by
  refine ⟨⟨.inr newz_len, newz_low⟩, fun e => ?_, fun hm => ?_, hfo.imp id mem_folders, (show ("item" : Str) ∈ kinds3 by decide +kernel), (show (1 : Int) ≤ 1 by decide)⟩
  · have := congrArg Str.length e
    rw [show (Row.nm ⟨"newz", fo, "item", some 1⟩) = ("newz" : Str) from rfl, newz_len, top_len] at this
    exact absurd this (by decide)
  · obtain ⟨r, h1, h2⟩ := List.mem_map.mp hm
    exact hn r h1 (by rw [h2]; exact newz_len)
theorem newz_not {rs : List Row} (hn : ∀ r ∈ rs, r.nm.length ≠ 4) : ("newz" : Str) ∉ names rs := fun hm => by
  obtain ⟨r, h1, h2⟩ := List.mem_map.mp hm
  exact hn r h1 (by rw [h2]; exact newz_len)
theorem rowOf_app {rs qs : List Row} {z : Str} {r : Row} (h : rowOf rs z = some r) : rowOf (rs ++ qs) z = some r := by
  unfold rowOf at h ⊢
  rw [List.find?_append, h]; rfl
theorem Free.app {rs qs : List Row} {z : Str} (h : Free rs z) : Free (rs ++ qs) z := by
  obtain ⟨r, e, hp⟩ := h
  exact ⟨r, rowOf_app e, hp⟩
end Ts

set_option maxRecDepth 100000
set_option maxHeartbeats 4000000
namespace Ts
open PySem L2
/-! ### all but lists is kept -/
def KL (H H' : Hp) : Prop := ∀ b o, H b = some o → (∀ xs, o ≠ .lst xs) → H' b = some o
theorem KL.of {H H' : Hp} (s : Same H H') : KL H H' := fun b o e _ => s b o e
theorem KL.refl (H : Hp) : KL H H := fun _ _ e _ => e
theorem KL.trans {H H1 H2 : Hp} (x : KL H H1) (y : KL H1 H2) : KL H H2 := fun b o e n => y b o (x b o e n) n
theorem KL.upd {H : Hp} {l : Addr} {xs : List V} {o : HO} (h : H l = some (.lst xs)) : KL H (L2.upd H l o) := fun b o e n => by
  rw [upd_ne (fun q => by rw [q, h] at e; exact n _ (Option.some.inj e).symm)]
  exact e
theorem RowsAt.kl {H H' : Hp} {as : List Addr} {rs : List Row} (h : RowsAt H as rs) (s : KL H H') : RowsAt H' as rs := ⟨h.len, fun i a r ha hr => s _ _ (h.at_ i a r ha hr) (fun _ e => nomatch e)⟩
theorem TreeAt.kl {C : Addr} {H H' : Hp} {t : Addr} {rs : List Row} (h : TreeAt C H t rs) (s : KL H H') : TreeAt C H' t rs := by
  obtain ⟨dx, q, f, k, p, qs, h1, h2, h3, h4, h5, h6⟩ := h.ex
  exact ⟨⟨dx, q, f, k, p, qs, s _ _ h1 (fun _ e => nomatch e), s _ _ h2 (fun _ e => nomatch e), h3.kl s, s _ _ h4 (fun _ e => nomatch e), s _ _ h5 (fun _ e => nomatch e), s _ _ h6 (fun _ e => nomatch e)⟩, h.val, h.len⟩
theorem MeanAt.kl {C CM : Addr} {H H' : Hp} {m t : Addr} {rs : List Row} {d : Bool} {ts : List Str} (h : MeanAt C CM H m t rs d ts) (s : KL H H') : MeanAt C CM H' m t rs d ts := by
  obtain ⟨dx, u, k, h1, h2, h3⟩ := h.ex
  exact ⟨⟨dx, u, k, s _ _ h1 (fun _ e => nomatch e), s _ _ h2 (fun _ e => nomatch e), s _ _ h3 (fun _ e => nomatch e)⟩, h.tree.kl s, h.norm⟩
theorem any_falses : ∀ n : Nat, (List.replicate n false).any id = false
  | 0 => rfl
  | n + 1 => by rw [List.replicate_succ, List.any_cons, any_falses n]; rfl
theorem all_trues : ∀ n : Nat, (List.replicate n true).all id = true
  | 0 => rfl
  | n + 1 => by rw [List.replicate_succ, List.all_cons, all_trues n]; rfl
theorem KL.sb {H H' : Hp} {a : Addr} {n : Int} (st : Stm H a n) (s : SB a H H') : KL H H' := fun b o e no => s b o (fun q => by
  obtain ⟨x, y, z, ea, _⟩ := st
  rw [q, ea] at e
  exact no _ (Option.some.inj e).symm) e
theorem RowsL.sbk {H H' : Hp} {a p : Addr} {rs : List Row} {n : Int} (h : RowsL H p rs) (np : p ≠ a) (st : Stm H a n) (s : SB a H H') : RowsL H' p rs := by
  obtain ⟨as, h1, h2⟩ := h.ex
  exact ⟨as, s _ _ np h1, h2.kl (KL.sb st s)⟩
theorem RowsL.upd {H : Hp} {p l : Addr} {xs : List V} {o : HO} {rs : List Row} (h : RowsL H p rs) (np : p ≠ l) (e : H l = some (.lst xs)) : RowsL (L2.upd H l o) p rs := by
  obtain ⟨as, h1, h2⟩ := h.ex
  exact ⟨as, by rw [upd_ne np]; exact h1, h2.kl (KL.upd e)⟩
theorem smb {H H1 H2 : Hp} {a : Addr} (h : Same H H1) (ha : H a = none) (s : SB a H1 H2) : Same H H2 := fun b o e => s b o (ne_of_none e ha) (h b o e)
theorem smu {H H1 : Hp} {a : Addr} {o : HO} (h : Same H H1) (ha : H a = none) : Same H (L2.upd H1 a o) := fun b o e => by
  rw [upd_ne (ne_of_none e ha)]
  exact h b o e
theorem cut_str (ts : List Str) (lo hi : Option Int) : ∃ zs : List Str, cutV (ts.map V.str) lo hi = zs.map V.str ∧ (∀ z ∈ zs, z ∈ ts) ∧ zs.length ≤ ts.length := by
  refine ⟨(ts.drop (HT.sIx (ts.map V.str).length 0 lo)).take (HT.sIx (ts.map V.str).length (ts.map V.str).length hi - HT.sIx (ts.map V.str).length 0 lo), ?_, fun z hz => List.mem_of_mem_drop (List.mem_of_mem_take hz), ?_⟩
  · unfold cutV
    rw [← List.map_drop, ← List.map_take]
  · rw [List.length_take, List.length_drop]; omega
theorem prices_ok : ∀ q ∈ pricesL, PriceOk q := by
  intro q hq
  simp [pricesL] at hq
  rcases hq with rfl | rfl | rfl | rfl | rfl <;> simp [PriceOk]
theorem kinds_ok3 : ∀ k ∈ kindsL, k ∈ kinds3 := by decide +kernel
theorem paired_same {H H' : Hp} (s : Same H H') : ∀ {ts : List Addr} {qs : List (Key × V)}, Paired (fun (t : Addr) (q : Key × V) => H t = some (.tup [kV q.1, q.2])) ts qs → Paired (fun (t : Addr) (q : Key × V) => H' t = some (.tup [kV q.1, q.2])) ts qs
  | _, _, .nil => .nil
  | _, _, .cons h t => .cons (s _ _ h) (paired_same s t)
theorem iteF' {c : Bool} {A B : Prop} (h : c = false) (b : B) : if c = true then A else B := by rw [h]; exact b
theorem kvM_at {rs : List Row} {d : Bool} {ts : List Str} {j : Nat} {k : Key} {v : V} (h : (kvM rs d ts rs)[j]? = some (k, v)) : ∃ z : Str, k = .inr z ∧ (z = ("top" : Str) ∨ z ∈ names rs) := by
  have hm := List.mem_of_getElem? h
  unfold kvM at hm
  rcases List.mem_cons.mp hm with e | hm
  · exact ⟨"top", (Prod.mk.inj e).1, .inl rfl⟩
  · unfold kvF at hm
    obtain ⟨r, hr, e⟩ := List.mem_map.mp hm
    exact ⟨r.nm, (Prod.mk.inj e).1.symm, .inr (List.mem_map.mpr ⟨r, hr, rfl⟩)⟩
theorem valV_kvM' {rs : List Row} (h : Valid rs) (d : Bool) (ts : List Str) {z : Str} (hz : z = ("top" : Str) ∨ z ∈ names rs) : valV (kvM rs d ts rs) (.inr z : Key) = some (.bl (valOf rs d ts z)) :=
  valV_kvM h d ts (by
    by_cases e : z = ("top" : Str)
    · exact .inl e
    · exact .inr ⟨e, hz.resolve_left e⟩)
def spLaw (K : PySem.W.Frag) : Sp := fun vs H Q _ => ∃ (a : Addr) (ns : List Int), vs = [.ref a] ∧ SqL K H a (ns.map V.int) ∧ ns.length ≤ 63 ∧ ∀ H', Q (.bl true) H'
/-- how the class of trees stands to other sorts -/
structure TxN (K : PySem.W.Frag) (C : Addr) : Prop where
  ne : PySem.W.findIn K (.ref C) "__ne__" = some (some (.builtin "object.__ne__"))
  ob : PySem.W.subIn K (.ref C) (.type "object") = some true
theorem nfC {K : PySem.W.Frag} {C : Addr} : PySem.W.notFirst K C (.ref C) = true := by simp [PySem.W.notFirst]
end Ts

set_option maxRecDepth 100000
set_option maxHeartbeats 4000000
namespace Ts
open PySem L2
/-! ### two meanings of one tree -/
/-- the top and the boxes -/
def plc (rs : List Row) : List Str := ("top" : Str) :: names rs
theorem val_all {rs : List Row} (hv : Valid rs) {d d2 : Bool} {ts us : List Str} (h1 : turnsL rs ts = ts) (h2 : turnsL rs us = us) : (∀ z ∈ plc rs, valOf rs d ts z = valOf rs d2 us z) ↔ (d = d2 ∧ ts = us) := by
  constructor
  · intro h
    have hd : d = d2 := by
      have := h ("top" : Str) (List.mem_cons_self ..)
      rw [val_top hv, val_top hv] at this
      exact this
    refine ⟨hd, ?_⟩
    rw [← h1, ← h2]
    unfold turnsL
    refine List.filter_congr fun z hz => ?_
    obtain ⟨r, hr, rfl⟩ := List.mem_map.mp hz
    have e1 := h r.nm (List.mem_cons_of_mem _ hz)
    have e2 := h r.fo (by
      rcases hv.foAll hr with e | e
      · rw [e]; exact List.mem_cons_self ..
      · exact List.mem_cons_of_mem _ e)
    rw [val_step hv d ts hr, val_step hv d2 us hr, e2] at e1
    revert e1
    generalize valOf rs d2 us r.fo = b
    generalize decide (r.nm ∈ ts) = x
    generalize decide (r.nm ∈ us) = y
    cases b <;> cases x <;> cases y <;> simp
  · rintro ⟨rfl, rfl⟩ z _
    rfl
theorem val_norm {rs : List Row} (d : Bool) (us : List Str) (z : Str) : valOf rs d (turnsL rs us) z = valOf rs d us z :=
  valOf_congr fun x hx => by rw [mem_turnsL]; exact ⟨fun e => e.2, fun e => ⟨hx, e⟩⟩
def firstUn (rs : List Row) (d : Bool) (ts : List Str) (d2 : Bool) (us : List Str) : Option Str := (plc rs).find? fun z => decide (valOf rs d ts z ≠ valOf rs d2 us z)
def optS : Option Str → V
  | none => .non
  | some z => .str z
theorem find_at {α : Type} {p : α → Bool} : ∀ {l : List α} {i : Nat} {z : α}, (∀ x ∈ l.take i, p x = false) → l[i]? = some z → p z = true → l.find? p = some z
  | [], i, z, _, h, _ => by simp at h
  | x :: l, 0, z, _, h, hp => by
    have e : x = z := Option.some.inj h
    subst e
    rw [List.find?_cons_of_pos hp]
  | x :: l, i + 1, z, hx, h, hp => by
    have h0 := hx x (by rw [List.take_succ_cons]; exact List.mem_cons_self ..)
    rw [List.find?_cons_of_neg (by rw [h0]; exact Bool.false_ne_true)]
    exact find_at (fun y hy => hx y (by rw [List.take_succ_cons]; exact List.mem_cons_of_mem _ hy)) (by simpa using h) hp
theorem kvM_plc {rs : List Row} {d : Bool} {ts : List Str} {j : Nat} {k : Key} {v : V} (h : (kvM rs d ts rs)[j]? = some (k, v)) : ∃ z : Str, k = .inr z ∧ (plc rs)[j]? = some z := by
  have e : (kvM rs d ts rs).map Prod.fst = (plc rs).map Sum.inr := by
    unfold kvM plc names kvF
    rw [List.map_cons, List.map_cons, List.map_map, List.map_map]
    rfl
  have e2 : ((kvM rs d ts rs).map Prod.fst)[j]? = some k := by rw [List.getElem?_map, h]; rfl
  rw [e, List.getElem?_map] at e2
  obtain ⟨z, hz, e3⟩ := Option.map_eq_some_iff.mp e2
  exact ⟨z, e3.symm, hz⟩
theorem kvM_len (rs : List Row) (d : Bool) (ts : List Str) : (kvM rs d ts rs).length = (plc rs).length := by
  unfold kvM plc names kvF
  simp
theorem mem_plc {rs : List Row} {z : Str} : z ∈ plc rs ↔ z = ("top" : Str) ∨ z ∈ names rs := List.mem_cons
/-! ### two sorted lists of the same texts -/
theorem ltCps_irr : ∀ l : List Nat, PySem.Spec.ltCps l l = false
  | [] => rfl
  | a :: l => by simp [PySem.Spec.ltCps, ltCps_irr l]
theorem ltCps_total : ∀ (a b : List Nat), PySem.Spec.ltCps a b = false → PySem.Spec.ltCps b a = false → a = b
  | [], [], _, _ => rfl
  | [], _ :: _, h, _ => by simp [PySem.Spec.ltCps] at h
  | _ :: _, [], _, h => by simp [PySem.Spec.ltCps] at h
  | x :: a, y :: b, h1, h2 => by
    simp only [PySem.Spec.ltCps, Bool.or_eq_false_iff, decide_eq_false_iff_not, Bool.and_eq_false_iff, beq_eq_false_iff_ne] at h1 h2
    have e : x = y := by omega
    subst e
    rw [ltCps_total a b (h1.2.resolve_left (by simp)) (h2.2.resolve_left (by simp))]
theorem geCps_trans : ∀ (a b c : List Nat), PySem.Spec.ltCps b a = false → PySem.Spec.ltCps c b = false → PySem.Spec.ltCps c a = false
  | [], [], [], _, _ => rfl
  | [], _, _ :: _, _, _ => by simp [PySem.Spec.ltCps]
  | [], _ :: _, [], _, h => by simp [PySem.Spec.ltCps] at h
  | _ :: _, [], _, h, _ => by simp [PySem.Spec.ltCps] at h
  | _ :: _, _ :: _, [], _, h => by simp [PySem.Spec.ltCps] at h
  | x :: a, y :: b, z :: c, h1, h2 => by
    simp only [PySem.Spec.ltCps, Bool.or_eq_false_iff, decide_eq_false_iff_not, Bool.and_eq_false_iff, beq_eq_false_iff_ne] at h1 h2 ⊢
    refine ⟨by omega, ?_⟩
    by_cases e : z = x
    · right
      have e1 : y = x := by omega
      have e2 : z = y := by omega
      exact geCps_trans a b c (h1.2.resolve_left (by simp [e1])) (h2.2.resolve_left (by simp [e2]))
    · left; exact e
theorem pw_of_rising : ∀ (l : List Str) (p : Str), PyProof.Rows.risingS p l = true → (p :: l).Pairwise fun a b => PySem.Spec.ltCps b.cps.toList a.cps.toList = false
  | [], p, _ => by simp
  | x :: l, p, h => by
    have h' : (!PySem.Spec.ltCps x.cps.toList p.cps.toList && PyProof.Rows.risingS x l) = true := h
    rw [Bool.and_eq_true, Bool.not_eq_true'] at h'
    have ih := pw_of_rising l x h'.2
    rw [List.pairwise_cons]
    refine ⟨fun y hy => ?_, ih⟩
    rcases List.mem_cons.mp hy with rfl | hy
    · exact h'.1
    · exact geCps_trans _ _ _ h'.1 (List.rel_of_pairwise_cons ih hy)
theorem pw_of_sorted : ∀ {l : List Str}, PyProof.Rows.sortedS l = true → l.Pairwise fun a b => PySem.Spec.ltCps b.cps.toList a.cps.toList = false
  | [], _ => List.Pairwise.nil
  | x :: l, h => pw_of_rising l x h
theorem str_of_cps {a b : Str} (h : a.cps.toList = b.cps.toList) : a = b := by
  cases a; cases b
  simp only at h
  rw [Str.mk.injEq]
  exact Array.ext' h
theorem sorted_same {xs ys zs ws : List Str} (p1 : xs.Perm zs) (p2 : ys.Perm ws) (s1 : PyProof.Rows.sortedS xs = true) (s2 : PyProof.Rows.sortedS ys = true) : xs = ys ↔ zs.Perm ws := by
  constructor
  · rintro rfl
    exact p1.symm.trans p2
  · intro h
    refine List.Perm.eq_of_pairwise (le := fun a b => PySem.Spec.ltCps b.cps.toList a.cps.toList = false) (fun a b _ _ h1 h2 => str_of_cps (ltCps_total _ _ h2 h1)) (pw_of_sorted s1) (pw_of_sorted s2) ((p1.trans h).trans p2.symm)
/-! ### what newcomers show -/
def newL (rs : List Row) (d : Bool) (ts : List Str) : List Bool := ((("top" : Str) :: folderNames rs).flatMap fun fo => [valOf rs d ts fo, valOf rs d ts fo]) ++ rs.map fun r => valOf rs d ts r.nm
theorem newL_eq {rs : List Row} {d d2 : Bool} {ts us : List Str} : newL rs d ts = newL rs d2 us ↔ ∀ z ∈ plc rs, valOf rs d ts z = valOf rs d2 us z := by
  unfold newL
  constructor
  · intro h
    have hl : ((("top" : Str) :: folderNames rs).flatMap fun fo => [valOf rs d ts fo, valOf rs d ts fo]).length = ((("top" : Str) :: folderNames rs).flatMap fun fo => [valOf rs d2 us fo, valOf rs d2 us fo]).length := by
      simp only [List.length_flatMap]; rfl
    obtain ⟨h1, h2⟩ := List.append_inj h hl
    intro z hz
    rcases mem_plc.mp hz with rfl | hz
    · rw [List.flatMap_cons, List.flatMap_cons] at h1
      have := List.append_inj h1 rfl
      exact (List.cons.inj this.1).1
    · obtain ⟨r, hr, rfl⟩ := List.mem_map.mp hz
      exact List.map_inj_left.mp h2 r hr
  · intro h
    congr 1
    · rw [List.flatMap_def, List.flatMap_def]
      refine congrArg List.flatten (List.map_congr_left fun fo hfo => ?_)
      rw [h fo (by
        rcases List.mem_cons.mp hfo with rfl | hfo
        · exact List.mem_cons_self ..
        · obtain ⟨q, hq, rfl, _⟩ := mem_folders hfo
          exact List.mem_cons_of_mem _ (List.mem_map.mpr ⟨q, hq, rfl⟩))]
    · exact List.map_congr_left fun r hr => h r.nm (List.mem_cons_of_mem _ (List.mem_map.mpr ⟨r, hr, rfl⟩))
theorem bools_dp {K : PySem.W.Frag} {H : Hp} : ∀ l : List Bool, DpAll K H (l.map V.bl) (l.map PyData.bool)
  | [] => .nil
  | x :: l => .cons (.bl x) (bools_dp l)
theorem bools_eqv : ∀ a b : List Bool, PyData.eqvAll (a.map PyData.bool) (b.map PyData.bool) = decide (a = b)
  | [], [] => by simp [PyData.eqvAll]
  | [], _ :: _ => by simp [PyData.eqvAll]
  | _ :: _, [] => by simp [PyData.eqvAll]
  | x :: a, y :: b => by
    simp only [List.map_cons, PyData.eqvAll, PyData.eqv, bools_eqv a b]
    by_cases h : a = b <;> cases x <;> cases y <;> simp [h]
theorem bools_lay : ∀ l : List Bool, PyData.canLayAll0 (l.map PyData.bool) = true
  | [] => by simp [PyData.canLayAll0]
  | x :: l => by simp [PyData.canLayAll0, PyData.canLay0, bools_lay l]
theorem bools_depth : ∀ l : List Bool, PyData.depthAll (l.map PyData.bool) = 0
  | [] => by simp [PyData.depthAll]
  | x :: l => by simp [PyData.depthAll, PyData.depth, bools_depth l]
theorem shaped_bools (l : List Bool) : SeqAt.shaped (.list (l.map PyData.bool)) = true := by
  unfold SeqAt.shaped
  rw [Bool.and_eq_true]
  refine ⟨by simp only [PyData.canLay0]; exact bools_lay l, decide_eq_true ?_⟩
  simp only [PyData.depth, bools_depth]
  omega
end Ts

set_option maxRecDepth 100000
set_option maxHeartbeats 4000000
namespace Ts
open PySem L2
/-! ### an own error class with one field, as it stands -/
structure ErrT (K : PySem.W.Frag) (mg : Str → Option Value) (E : Addr) (nm fn : Str) : Prop where
  O : OexC K E
  X : XfC K E
  nb : PySem.W.findIn K (.ref E) fn = some none
  g : mg nm = some (.ref E)
  te : PySem.W.exmOne K (.ref E) (.ref E) = some true
theorem exm_self {K : PySem.W.Frag} {S : Addr} (h1 : PySem.W.subIn K (.ref S) (.type "BaseException") = some true) (h2 : PySem.W.isClsIn K S = true) (h3 : PySem.W.typeIn K (.ref S) = some (.type "type")) (h4 : PySem.W.subIn K (.ref S) (.ref S) = some true) :
    PySem.W.exmOne K (.ref S) (.ref S) = some true := by
  have e1 : (PySem.W.subIn K (.ref S) (.type "BaseException") == some true) = true := by rw [h1] <;> rfl
  have e2 : ((PySem.W.clsIn K S).isSome && PySem.W.typeIn K (.ref S) == some (.type "type")) = true := by
    have h2' : (PySem.W.clsIn K S).isSome = true := h2
    rw [h2', h3] <;> rfl
  show (if (PySem.W.subIn K (.ref S) (.type "BaseException") == some true) = true then (if ((PySem.W.clsIn K S).isSome && PySem.W.typeIn K (.ref S) == some (.type "type")) = true then PySem.W.subIn K (.ref S) (.ref S) else none) else none) = some true
  rw [if_pos e1, if_pos e2]
  exact h4
/-- an error of the class at S is not what «except D» names -/
theorem exm_other {K : PySem.W.Frag} {S D : Addr} (h1 : PySem.W.subIn K (.ref D) (.type "BaseException") = some true) (h2 : PySem.W.isClsIn K D = true) (h3 : PySem.W.typeIn K (.ref D) = some (.type "type")) (h4 : PySem.W.subIn K (.ref S) (.ref D) = some false) :
    PySem.W.exmOne K (.ref S) (.ref D) = some false := by
  have e1 : (PySem.W.subIn K (.ref D) (.type "BaseException") == some true) = true := by rw [h1] <;> rfl
  have e2 : ((PySem.W.clsIn K D).isSome && PySem.W.typeIn K (.ref D) == some (.type "type")) = true := by
    have h2' : (PySem.W.clsIn K D).isSome = true := h2
    rw [h2', h3] <;> rfl
  show (if (PySem.W.subIn K (.ref D) (.type "BaseException") == some true) = true then (if ((PySem.W.clsIn K D).isSome && PySem.W.typeIn K (.ref D) == some (.type "type")) = true then PySem.W.subIn K (.ref S) (.ref D) else none) else none) = some false
  rw [if_pos e1, if_pos e2]
  exact h4
theorem errAll {K : PySem.W.Frag} {h : Heap} {mg : Str → Option Value} (X : K.In h) (G : h.Ns mainGlobals mg) {E BE f : Addr} {cn fn iq : Str} {st : Stmt} {nm q : Str} {N : Addr} {bs : List Value} {sn : List Str} {sub : List Value} {ab : Bool} {col : Option Bool} {dd : Option Addr} {m0 m1 m2 m3 m5 : Option Value}
    {od an : Option Addr} {sl : Array (Option Value)} {oc kV dc pm cd ct : Value}
    (aC : PySem.W.nsIn K mainGlobals cn = some (some (.ref E)))
    (xL : K.lookup E = some (excClassObj nm q E N bs [.ref BE, .type "ValueError", .type "Exception", .type "BaseException", .type "object"] true sn sub ab col dd m0 m1 m2 m3 m5 "ValueError.__new__"))
    (sa : PySem.W.findIn K (.ref E) "__setattr__" = some (some (.builtin "object.__setattr__"))) (ga : PySem.W.findIn K (.ref E) "__getattribute__" = some (some (.builtin "BaseException.__getattribute__"))) (gg : PySem.W.findIn K (.ref E) "__getattr__" = some none) (nb : PySem.W.findIn K (.ref E) fn = some none)
    (a1 : PySem.W.findIn K (.ref E) "__init__" = some (some (.ref f))) (t1 : PySem.W.typeIn K (.ref f) = some (.type "function"))
    (l1 : K.lookup f = some ⟨oc, od, .func (PySem.W.fnOf "__init__" iq (defArgs st) (defBody st) (defScope st) .none kV dc pm an cd ct), sl⟩) (c1 : PySem.W.codeIn K cd iq = true) (k1 : PySem.W.keepIn K (.ref f) = true)
    (kC : PySem.W.keepIn K (.ref E) = true) (eC : PySem.W.subIn K (.ref E) (.type "BaseException") = some true) (tC : PySem.W.typeIn K (.ref E) = some (.type "type")) (hC : PySem.W.hasDictIn K E = true) (iC : PySem.W.isClsIn K E = true) (sC : PySem.W.subIn K (.ref E) (.ref E) = some true) :
    ErrT K mg E cn fn ∧ ∃ (f : Addr) (fd : FuncData), PySem.W.findIn K (.ref E) "__init__" = some (some (.ref f)) ∧ PySem.W.typeIn K (.ref f) = some (.type "function") ∧ Fun K "__init__" iq st f fd :=
  ⟨⟨⟨⟨nm, q, N, bs, _, sn, sub, ab, col, dd, m0, m1, m2, m3, m5, xL, rfl⟩, sa, eC, tC, kC⟩, ⟨ga, gg, eC, hC⟩, nb, PySem.W.mg_of X G aC, exm_self eC iC tC sC⟩, f, _, a1, t1, fun_mk l1 c1 k1⟩
end Ts

set_option maxRecDepth 100000
set_option maxHeartbeats 4000000
namespace Ts
open PySem L2
/-! ### an own error with one field that its own __init__ stores -/
def spErr1 (CC : Addr) (fn : Str) : Sp := fun vs H Q _ => ∃ (a : Addr) (x : V), vs = [.ref a, x] ∧ H a = some (exo a CC none) ∧ ∀ d, H d = none → d ≠ a → Q .non (upd (upd H d (exd d [(fn, x)])) a (exo a CC (some d)))
section
variable {CC : Addr}
/-- what stands behind a raise: the error's own dict, new -/
theorem rd_err1 {fn : Str} {H1 : Hp} {x : V} {Q : XK} (k : ∀ d, H1 d = none → Q (.ref CC) (some d) (upd H1 d (.xd [(fn, x)]))) : ([x] : List V).length ≤ 1000 ∧ ∀ a, H1 a = none → spErr1 CC fn (.ref a :: ([x] ++ [])) (upd H1 a (exo a CC none)) (fun v H2 => v = .non ∧ ∃ (d : Addr) (fs : List (Str × V)), H2 a = some (exo a CC (some d)) ∧ H2 d = some (exd d fs) ∧ H1 d = none ∧ Q (.ref CC) (some d) (upd (del H2 a) d (.xd fs))) (fun _ _ _ => False) := by
  refine ⟨(by show 1 ≤ 1000; decide), fun a ha => ⟨a, x, rfl, upd_same, fun d hd ne => ⟨rfl, d, [(fn, x)], upd_same, by rw [upd_ne ne]; exact upd_same, by rw [upd_ne ne] at hd; exact hd, ?_⟩⟩⟩
  have hd1 : H1 d = none := by rw [upd_ne ne] at hd; exact hd
  have e : upd (del (upd (upd (upd H1 a (exo a CC none)) d (exd d [(fn, x)])) a (exo a CC (some d))) a) d (.xd [(fn, x)]) = upd H1 d (.xd [(fn, x)]) := by
    funext b
    by_cases q : b = d
    · rw [q, upd_same, upd_same]
    · rw [upd_ne q, upd_ne q]
      unfold del
      by_cases r : b = a
      · rw [if_pos r, r]; exact ha.symm
      · rw [if_neg r, upd_ne r, upd_ne q, upd_ne r]
  rw [e]
  exact k d hd1
end
section
variable {P : Program} {w : World} {K : PySem.W.Frag} {mg : Str → Option Value} {base : Heap}
/-- where nothing is raised, a def that may raise is as one that may not -/
theorem calm {k : Nat} {f : Addr} {fd : FuncData} {ps : List Str} {sp sp' : Sp} (F : FnOk P w K mg base (L2.CX P w) k f fd ps sp) (h : ∀ vs H Q E, sp' vs H Q E → sp vs H Q E0) : FnOk P w K mg base CX0 k f fd ps sp' :=
  ⟨fun vs H Q E q => F.len vs H Q E0 (h _ _ _ _ q), fun A outer s H args us vs Q E hr he hb hv hs => codeAny_mono (F.run A outer s H args us vs Q E0 hr he hb hv (h _ _ _ _ hs)) fun r s' q => by
    cases r with
    | ok f => cases f <;> exact q
    | error e =>
      obtain ⟨_, _, _, _, _, _, _, _, _, _, _, _, z⟩ := q
      exact z.elim⟩
end
end Ts

set_option maxRecDepth 100000
set_option maxHeartbeats 4000000
namespace Ts
open PySem L2
section
variable {P : Program} {w : World} {K : PySem.W.Frag} {mg : Str → Option Value} {base : Heap} {CC : Addr}
theorem sc_Locked_init : FnScope ["self", "box"] ["self", "box"] (defScope s_Locked_init) := ⟨rfl, rfl, rfl, by decide +kernel, rfl, by decide +kernel, by decide +kernel⟩
theorem ok_Locked_init {f : Addr} {fd : FuncData} (F : Fun K "__init__" "Locked.__init__" s_Locked_init f fd) (O : OexC K CC) (nb : PySem.W.findIn K (.ref CC) "box" = some none) : FnOk P w K mg base CX0 2 f fd ["self", "box"] (spErr1 CC "box") := by
  refine F.ok sc_Locked_init (fun vs H Q E h => ?_) (fun cdv A outer s H vs Q E hr h => ?_)
  · obtain ⟨a, x, rfl, _⟩ := h
    rfl
  · obtain ⟨a, x, rfl, ha, hq⟩ := h
    refine ⟨_, pss_one (ps_ost (pv 0) (pv 1)), ?_⟩
    exact ⟨_, rfl, _, rfl, a, CC, rfl, O, nb, .inl ⟨ha, fun d hd ne => hq d hd ne⟩⟩
end
end Ts

set_option maxRecDepth 100000
set_option maxHeartbeats 4000000
namespace Ts
open PySem L2
/-! ### turns that may be locked -/
def lockedB (rs : List Row) (z : Str) : Bool := match rowOf rs z with
  | some r => decide (r.pr = none)
  | none => false
def firstLk (rs : List Row) (xs : List Str) : Option Str := xs.find? (lockedB rs)
theorem lk_free {rs : List Row} {z : Str} (hz : z ∈ names rs) (h : lockedB rs z = false) : Free rs z := by
  obtain ⟨r, e, _, _⟩ := rowOf_some hz
  unfold lockedB at h
  rw [e] at h
  exact ⟨r, e, of_decide_eq_false h⟩
theorem free_lk {rs : List Row} {z : Str} (h : Free rs z) : lockedB rs z = false := by
  obtain ⟨r, e, hp⟩ := h
  unfold lockedB
  rw [e]
  exact decide_eq_false hp
theorem first_free {rs : List Row} {xs : List Str} (h : ∀ x ∈ xs, Free rs x) : firstLk rs xs = none := List.find?_eq_none.mpr fun x hx => by rw [free_lk (h x hx)]; exact Bool.false_ne_true
def spCheckTurnsX (K : PySem.W.Frag) (C CL : Addr) : Sp := fun vs H Q E => ∃ (t u : Addr) (xs : List Str) (rs : List Row), vs = [.ref t, .ref u] ∧ TreeAt C H t rs ∧ SqX K H u (xs.map V.str) ∧ (∀ x ∈ xs, x ∈ names rs) ∧
  (∀ z, firstLk rs xs = some z → ∀ d H', H d = none → Same H H' → H' d = some (.xd [("box", .str z)]) → E (.ref CL) (some d) H') ∧ (firstLk rs xs = none → Q .non H)
def spMeaningInitX (K : PySem.W.Frag) (C CM CL : Addr) : Sp := fun vs H Q E => ∃ (m dx t h : Addr) (d : Bool) (xs : List Str) (rs : List Row), vs = [.ref m, .ref t, .bl d, .ref h] ∧ H m = some (.ins CM dx []) ∧ TreeAt C H t rs ∧ SqX K H h (xs.map V.str) ∧ (∀ x ∈ xs, x ∈ names rs) ∧
  (∀ z, firstLk rs xs = some z → ∀ d H', H d = none → Same H H' → H' d = some (.xd [("box", .str z)]) → E (.ref CL) (some d) H') ∧ (firstLk rs xs = none → ∀ H', SB m H H' → MeanAt C CM H' m t rs d (turnsL rs xs) → Q .non H')
section
variable {P : Program} {w : World} {K : PySem.W.Frag} {mg : Str → Option Value} {base : Heap} {C CM CL : Addr}
theorem ok_check_turnsX {fI : Addr} {fdI : FuncData} (D : DefAt K mg "check_turns" s_check_turns ["tree", "turns"]) (Db : DefAt K mg "check_box" s_check_box ["tree", "thing"]) (Gb : FnOk P w K mg base CX0 3 Db.f Db.fd ["tree", "thing"] (spBox C)) (T : TxT K mg C)
    (mP : MethAt K C "price" "Tree.price" s_Tree_price ["self", "box"]) (GP : FnOk P w K mg base CX0 4 mP.f mP.fd ["self", "box"] (spGet C fun r => prV r.pr))
    (TL : ErrT K mg CL "Locked" "box") (iC : PySem.W.findIn K (.ref CL) "__init__" = some (some (.ref fI))) (tI : PySem.W.typeIn K (.ref fI) = some (.type "function")) (GI : FnOk P w K mg base CX0 2 fI fdI ["self", "box"] (spErr1 CL "box")) (bI : Binds K fdI ["self", "box"] []) :
    FnOk P w K mg base (L2.CX P w) 5 D.f D.fd ["tree", "turns"] (spCheckTurnsX K C CL) := by
  refine D.F.okX sc_check_turns (fun vs H Q E h => ?_) (fun cdv A outer s H vs Q E hr h => ?_)
  · obtain ⟨t, u, xs, rs, rfl, _⟩ := h
    rfl
  · have hr2 : Room 3 _ := hr.mono (by decide)
    refine ⟨_, pss_cons (ps_for PassesOwn.leaving rfl (pi_seqX (i := 1) (pv 1)) (pg_name (i := 2) sc_check_turns.nd rfl (.inl rfl))
        (pss_one (ps_expr (pe_call Gb hr2 rfl Db.g Db.F.kp Db.b .nil pass0 (pa_cons (pv 0) (pa_cons (pv 2) pa_nil))))))
      (pss_one (ps_for PassesOwn.leaving rfl (pi_seqX (i := 1) (pv 1)) (pg_name (i := 2) sc_check_turns.nd rfl (.inl rfl))
        (pss_one (ps_if (pt_cmpR op_isN (pe_meth (pv 0) T.cl mP.m GP hr mP.b .nil pass0 (pa_cons (pv 2) pa_nil)) pe_non (nomark _)) (pss_one (ps_raise rfl (takes_of rfl rfl rfl rfl) (pmk_oex TL.O iC tI GI hr2 bI .nil pass0 rfl TL.g (by exact pa_cons (pv 2) pa_nil)))) pss_nil)))), ?_⟩
    obtain ⟨t, u, xs, rs, rfl, ht, hx, hmem, hE, hq⟩ := h
    obtain ⟨dx, q, f, k, p, qs, h1, h2, h3, h4, h5, h6⟩ := id ht.ex
    have noP : (tf q f k p).lookup ("price" : Str) = none := tf_no _ _ _ _ (by decide +kernel) (by decide +kernel) (by decide +kernel) (by decide +kernel)
    have at_ : ∀ {i : Nat} {x : V}, (xs.map V.str)[i]? = some x → ∃ z, x = .str z ∧ xs[i]? = some z ∧ z ∈ names rs := fun {i x} hx => by
      rw [List.getElem?_map] at hx
      obtain ⟨z, hz, rfl⟩ := Option.map_eq_some_iff.mp hx
      exact ⟨z, rfl, hz, hmem z (List.mem_of_getElem? hz)⟩
    refine ⟨u, _, rfl, hx, fun J W => ?_⟩
    refine for_it W (fun i σ H' => ∃ v : Option V, σ = [some (.ref t), some (.ref u), v] ∧ H' = H) ⟨none, rfl, rfl⟩ (fun i σ H' _ ⟨_, _, e⟩ => by rw [e]) ?_ ?_
    · rintro i x σ H2 H3 hi ⟨v, rfl, rfl⟩ ⟨rfl, hxi⟩
      obtain ⟨z, rfl, _, hz⟩ := at_ hxi
      exact ⟨_, rfl, _, rfl, t, z, rs, rfl, ht, hz, _, rfl, rfl⟩
    rintro σ H2 ⟨v, rfl, rfl⟩
    refine ⟨u, _, rfl, hx, fun J W => ?_⟩
    refine for_it W (fun i σ H' => ∃ v : Option V, σ = [some (.ref t), some (.ref u), v] ∧ H' = H2 ∧ ∀ x ∈ xs.take i, lockedB rs x = false) ⟨v, rfl, rfl, fun x hx => by simp at hx⟩ (fun i σ H' _ ⟨_, _, e, _⟩ => by rw [e]) ?_ ?_
    · rintro i x σ H3 H4 hi ⟨v, rfl, rfl, hall⟩ ⟨rfl, hxi⟩
      obtain ⟨z, rfl, hzi, hz⟩ := at_ hxi
      obtain ⟨r, hr', _, _⟩ := rowOf_some hz
      refine ⟨_, rfl, t, dx, _, rfl, h1, noP, _, rfl, t, z, rs, r, rfl, ht, hr', ?_⟩
      have e2 : decide ((fun r : Row => prV r.pr) r = V.non) = lockedB rs z := by
        unfold lockedB
        rw [hr']
        show decide (prV r.pr = V.non) = decide (r.pr = none)
        cases r.pr <;> rfl
      refine ⟨rfl, _, rfl, ?_⟩
      rw [e2]
      refine ite2 (fun hc => ?_) (fun hc => ?_)
      · have ef : firstLk rs xs = some z := find_at hall hzi hc
        exact ⟨_, rfl, rd_err1 fun d hd => hE z ef d _ hd (Same.new hd) upd_same⟩
      · refine ⟨_, rfl, rfl, fun y hy => ?_⟩
        rw [take_more hzi] at hy
        rcases List.mem_append.mp hy with hy | hy
        · exact hall y hy
        · rw [List.mem_singleton.mp hy]
          simpa using hc
    · rintro σ H3 ⟨v, rfl, rfl, hall⟩
      refine hq (List.find?_eq_none.mpr fun y hy => ?_)
      rw [List.length_map, List.take_length] at hall
      rw [hall y hy]
      exact Bool.false_ne_true
theorem ok_M_initX {f : Addr} {fd : FuncData} {dvs : List V} (F : FunD K "__init__" "Meaning.__init__" (defArgs s_Meaning_init) (defBody s_Meaning_init) (defScope s_Meaning_init) dvs [] f fd) (B : TxB mg) (TC : TxC K mg) (T : TxT K mg C) (M : TxM K mg CM)
    (Dc : DefAt K mg "check_turns" s_check_turns ["tree", "turns"]) (Gc : FnOk P w K mg base (L2.CX P w) 5 Dc.f Dc.fd ["tree", "turns"] (spCheckTurnsX K C CL))
    (Dv : DefAt K mg "values_of" s_values_of ["tree", "default", "turns"]) (Gv : FnOk P w K mg base CX0 6 Dv.f Dv.fd ["tree", "default", "turns"] (spValues C))
    (mB : MethAt K C "below" "Tree.below" s_Tree_below ["self", "box"]) (GB : FnOk P w K mg base CX0 5 mB.f mB.fd ["self", "box"] (spListOf C belowL)) :
    FnOk P w K mg base (L2.CX P w) 7 f fd ["self", "tree", "default", "turns"] (spMeaningInitX K C CM CL) := by
  obtain ⟨t1, gT⟩ := TC.top
  refine F.ok sc_M_init (fun vs H Q E h => ?_) (fun cdv A outer s H vs Q E hr h => ?_)
  · obtain ⟨m, dx, t, h, d, xs, rs, rfl, _⟩ := h
    rfl
  · have hr4 : Room 5 _ := hr.mono (by decide)
    refine ⟨_, pss_cons (ps_if (pt_not (pt_val (pe_callB call_isi (by rfl) B.isinstance (by decide +kernel) (pa_cons (pv 2) (pa_cons (pe_bltn (by rfl) B.bool (by decide +kernel) (v := .ty "bool") rfl) pa_nil))))) (pss_one ps_never) pss_nil)
      (pss_cons (ps_expr (pe_call Gc hr4 rfl Dc.g Dc.F.kp Dc.b .nil (passes_call (takes_of rfl rfl rfl rfl) (fun _ _ _ _ h => h)) (pa_cons (pv 1) (pa_cons (pv 3) pa_nil))))
      (pss_cons (ps_fld (pv 0) (pv 1) rfl)
      (pss_cons (ps_fld (pv 0) (pv 2) rfl)
      (pss_cons (ps_fld (pv 0) (pe_callTy call_tuple_of (by rfl) B.tuple (by decide +kernel) (pa_cons (pe_lc (own := [("box", 4)]) (g := gName 4) (tt := tTest (tOp (rIn K false) (tVar 4) (tVar 3))) (te := tVar 4) rfl sc_M_init.nd (pi_list (pe_meth (pv 1) T.cl mB.m GB hr4 mB.b .nil pass0 (pa_cons (pe_glob (by rfl) gT (v := .str ("top" : Str)) ⟨_, rfl⟩) pa_nil))) (blkOk_by (N := nMInit) (sc := defScope s_Meaning_init) (by decide +kernel))
          (fun _ _ _ _ _ => pg_name (i := 4) sc_M_init.nd rfl (Or.inl rfl)) (fun _ _ _ _ _ => by exact pts_one (pt_cmpR op_in_seq (pv 4) (pv 3) (by rfl))) (fun _ _ _ _ _ => pv 4)) pa_nil)) rfl)
      (pss_one (ps_fld (pv 0) (pe_call Gv hr rfl Dv.g Dv.F.kp Dv.b .nil pass0 (pa_cons (pv 1) (pa_cons (pv 2) (pa_cons (pe_fld (pv 0) rfl) pa_nil)))) rfl)))))), ?_⟩
    obtain ⟨m, dx, t, h, d, xs, rs, rfl, hm, ht, hx, hmem, hE, hq⟩ := h
    have hv := ht.val
    have l100 := ht.len
    obtain ⟨tx, q, f, k, p, qs, h1, _⟩ := id ht.ex
    have noB : (tf q f k p).lookup ("below" : Str) = none := tf_no _ _ _ _ (by decide +kernel) (by decide +kernel) (by decide +kernel) (by decide +kernel)
    refine ⟨_, rfl, _, _, _, _, true, rfl, .ty "bool", .base (.bl d), kit_ty (by decide +kernel), _, rfl, iteF ?_⟩
    refine ⟨_, rfl, _, rfl, t, h, xs, rs, rfl, ht, hx, hmem, hE, fun hn => ?_⟩
    refine ⟨_, rfl, _, rfl, m, CM, dx, _, rfl, hm, M.cl, M.nt, (by show 0 < 1000; decide), ?_⟩
    refine ⟨_, rfl, _, rfl, m, CM, dx, _, rfl, upd_same, M.cl, M.nd, (Nat.lt_of_le_of_lt (putF_len _ _ _) (by decide)), ?_⟩
    obtain ⟨Hb, Eb⟩ : ∃ Hx, Hx = upd (upd H m (.ins CM dx (putF "tree" (.ref t) []))) m (.ins CM dx (putF "default" (.bl d) (putF "tree" (.ref t) []))) := ⟨_, rfl⟩
    have bm : Hb m = some (.ins CM dx (putF "default" (.bl d) (putF "tree" (.ref t) []))) := by rw [Eb]; exact upd_same
    have sb : SB m H Hb := fun b o nb e => by rw [Eb, upd_ne nb, upd_ne nb]; exact e
    rw [← Eb]
    clear Eb
    have tb := ht.sbm hm sb
    have hxb : SqX K Hb h (xs.map V.str) := hx.sbm hm sb
    have htm : Hb t = some (.ins C tx (tf q f k p)) := by
      refine sb _ _ (fun e => ?_) h1
      rw [e, hm] at h1
      have e3 := Option.some.inj h1
      injection e3 with _ _ e3
      have e4 := tf_p q f k p
      rw [← e3] at e4
      cases e4
    refine ⟨_, rfl, t, tx, _, rfl, htm, noB, t, ("top" : Str), rs, rfl, tb, .inl rfl, fun bl H2 hbl s2 e2 => ?_⟩
    rw [below_top hv] at e2
    refine ⟨bl, rfl, ⟨_, SqL.of e2⟩, fun D hD => ?_⟩
    have hx2 := hxb.same s2
    refine lc_list (K := K) (a := bl) (xs := (names rs).map V.str) (fun i H' => Same H2 H' ∧ H' D = some (.lst (((names (rs.take i)).filter (fun z => decide (z ∈ xs))).map V.str))) ⟨Same.new hD, upd_same⟩ (fun i H' _ m => m.1.seq (SqL.of e2)) ?_ ?_
    · rintro i x H3 hxi ⟨s3, hD3⟩
      unfold names at hxi
      rw [List.getElem?_map, List.getElem?_map] at hxi
      obtain ⟨n1, hn1, rfl⟩ := Option.map_eq_some_iff.mp hxi
      obtain ⟨r, hr', rfl⟩ := Option.map_eq_some_iff.mp hn1
      have sz : (((names (rs.take i)).filter (fun z => decide (z ∈ xs))).map V.str).length < sizeLine := small1000 (by
        rw [List.length_map]
        have h1 := List.length_filter_le (fun z => decide (z ∈ xs)) (names (rs.take i))
        unfold names at h1 ⊢
        rw [List.length_map, List.length_take] at h1
        omega)
      refine ⟨rfl, _, rfl, _, rfl, h, _, rfl, (hx2.same s3), rfl, flat_strs _, _, rfl, ?_⟩
      have e : (if false = true then !inV (.str r.nm) (xs.map V.str) else inV (.str r.nm) (xs.map V.str)) = decide (r.nm ∈ xs) := by
        rw [if_neg Bool.false_ne_true, inV_strs]
      rw [e]
      refine ite2 (fun hc => ?_) (fun hc => ?_)
      · refine ⟨_, rfl, _, hD3, sz, fun b o eb => ?_, ?_⟩
        · rw [upd_ne (fun y => by rw [y, hD] at eb; cases eb)]
          exact s3 _ _ eb
        · rw [upd_same, turns_more hr', if_pos hc, List.map_append]; rfl
      · refine ⟨s3, ?_⟩
        rw [turns_more hr', if_neg hc, List.append_nil]
        exact hD3
    rintro H3 ⟨s3, hD3⟩
    rw [show ((names rs).map V.str).length = rs.length from by unfold names; rw [List.length_map, List.length_map], List.take_length] at hD3
    refine ⟨D, _, rfl, .inl ⟨SqL.of hD3, fun u hu => ?_⟩⟩
    have s4 := (s2.trans s3).trans (Same.new (o := .tup ((turnsL rs xs).map V.str)) hu)
    have e4 : (upd H3 u (.tup ((turnsL rs xs).map V.str))) u = some (.tup ((turnsL rs xs).map V.str)) := upd_same
    have e4' : (upd H3 u (.tup (((names rs).filter (fun z => decide (z ∈ xs))).map V.str))) = upd H3 u (.tup ((turnsL rs xs).map V.str)) := rfl
    rw [e4']
    have num : u ≠ m := fun e => by rw [e, (s2.trans s3) _ _ bm] at hu; cases hu
    generalize upd H3 u (.tup ((turnsL rs xs).map V.str)) = H4 at s4 e4
    refine ⟨_, rfl, m, CM, dx, _, rfl, s4 _ _ bm, M.cl, M.nu, (Nat.lt_of_le_of_lt (Nat.le_trans (putF_len _ _ _) (Nat.succ_le_succ (putF_len _ _ _))) (by decide)), ?_⟩
    obtain ⟨H5, E5⟩ : ∃ Hx, Hx = upd H4 m (.ins CM dx (putF "turns" (.ref u) (putF "default" (.bl d) (putF "tree" (.ref t) [])))) := ⟨_, rfl⟩
    have m5 : H5 m = some (.ins CM dx (putF "turns" (.ref u) (putF "default" (.bl d) (putF "tree" (.ref t) [])))) := by rw [E5]; exact upd_same
    have sb5 : SB m H H5 := fun b o nb e => by rw [E5, upd_ne nb]; exact s4 _ _ (sb b o nb e)
    have u5 : H5 u = some (.tup ((turnsL rs xs).map V.str)) := by rw [E5, upd_ne num]; exact e4
    rw [← E5]
    clear E5
    refine ⟨_, rfl, _, rfl, _, rfl, m, CM, dx, _, _, rfl, m5, M.cl, M.nu, (by rw [lookup_putF, if_pos rfl]), t, u, d, turnsL rs xs, rs, rfl, ht.sbm hm sb5, u5, fun kd H6 hkd s6 e6 => ?_⟩
    refine ⟨_, rfl, m, CM, dx, _, rfl, s6 _ _ m5, M.cl, M.nk, (Nat.lt_of_le_of_lt (Nat.le_trans (putF_len _ _ _) (Nat.succ_le_succ (Nat.le_trans (putF_len _ _ _) (Nat.succ_le_succ (putF_len _ _ _))))) (by decide)), ?_⟩
    have sb7 : SB m H (upd H6 m (.ins CM dx (mf t u kd d))) := fun b o nb e => by rw [upd_ne nb]; exact s6 _ _ (sb5 b o nb e)
    have nkm : kd ≠ m := fun e => by rw [e, m5] at hkd; cases hkd
    exact hq hn _ sb7 ⟨⟨dx, u, kd, upd_same, by rw [upd_ne num]; exact s6 _ _ u5, by rw [upd_ne nkm]; exact e6⟩, ht.sbm hm sb7, turnsL_norm rs xs⟩
theorem calm_init {f : Addr} {fd : FuncData} {k : Nat} {ps : List Str} (G : FnOk P w K mg base (L2.CX P w) k f fd ps (spMeaningInitX K C CM CL)) : FnOk P w K mg base CX0 k f fd ps (spMeaningInit K C CM) := calm G fun vs H Q E h => by
  obtain ⟨m, dx, t, h', d, xs, rs, rfl, hm, ht, hx, hf, hq⟩ := h
  exact ⟨m, dx, t, h', d, xs, rs, rfl, hm, ht, hx, fun x hx => (hf x hx).mem, (fun z ez => by rw [first_free hf] at ez; cases ez), fun _ => hq⟩
end
end Ts

set_option maxRecDepth 100000
set_option maxHeartbeats 4000000
namespace Ts
open PySem L2
/-! ### own operators between two objects of one class -/
def rBinC (C : Addr) (sp : Sp) (E : XK) : R2 := fun x y H Q => ∃ (a b dx dy : Addr) (fs gs : List (Str × V)), x = .ref a ∧ y = .ref b ∧ H a = some (.ins C dx fs) ∧ H b = some (.ins C dy gs) ∧ sp [.ref a, .ref b] H (fun v H' => ∃ r : Addr, v = .ref r ∧ Q v H') E
def rInvC (C : Addr) (sp : Sp) (E : XK) : V → Hp → VK → Prop := fun x H Q => ∃ (a dx : Addr) (fs : List (Str × V)), x = .ref a ∧ H a = some (.ins C dx fs) ∧ sp [.ref a] H Q E
section
variable {X : Cx} {k : Nat} {C f : Addr} {fd : FuncData} {ps : List Str} {sp : Sp} {CX : CXT} {E : XK}
theorem op_binC {op : Operator} {nm : Str} (F : FnOk X.prog X.w X.K X.mg X.base CX k f fd ps sp) (m : Meth X.K C nm f) (hn : PySem.dunder op.info.2 = nm) (hc : PySem.W.selfFirst X.K C = true) (hr : Room k X.A) (hb : Binds X.K fd ps []) (hx : Passes CX X E) : OpR X (binaryOp op) (rBinC C sp E) := by
  intro pins s σ H x y v u Q I rx ry hq
  obtain ⟨a, b, dx, dy, fs, gs, rfl, rfl, ha, hb', hsp⟩ := hq
  cases rx
  cases ry
  obtain ⟨mA, J, _⟩ := ins_get I.hok ha
  obtain ⟨od, J, _⟩ := J.look
  obtain ⟨mm, hF⟩ := I.fr
  refine PySem.W.binop_K hF I.ok.mod.kin J (ty_looks I (show RelV (.ref b) (.ref b) from rfl) (.ins hb')) hc (by rw [hn]; exact m.at_) m.fn ?_
  refine wpAny_mono (run_at F hr rfl hb hx I (us := [.ref a, .ref b]) (.cons (show RelV (.ref a) (.ref a) from rfl) (.cons (show RelV (.ref b) (.ref b) from rfl) .nil)) hsp) (fun r s' hq => ?_) fun _ _ x => x
  obtain ⟨z, H', I', rz, q, rfl, hQ⟩ := hq
  cases rz
  exact ⟨.ref q, H', I', rfl, hQ⟩
theorem un_invC (F : FnOk X.prog X.w X.K X.mg X.base CX k f fd ps sp) (m : Meth X.K C "__invert__" f) (hr : Room k X.A) (hb : Binds X.K fd ps []) (hx : Passes CX X E) : UnR X (unaryOp .Invert) (rInvC C sp E) := by
  intro pins s σ H x v Q I rx hq
  obtain ⟨a, dx, fs, rfl, ha, hsp⟩ := hq
  cases rx
  obtain ⟨mA, J, _⟩ := ins_get I.hok ha
  obtain ⟨od, J, _⟩ := J.look
  obtain ⟨mm, hF⟩ := I.fr
  exact PySem.W.ksp_inv hF I.ok.mod.kin J m.at_ m.fn (run_at F hr rfl hb hx I (us := [.ref a]) (.cons (show RelV (.ref a) (.ref a) from rfl) .nil) hsp)
end
end Ts

set_option maxRecDepth 100000
set_option maxHeartbeats 4000000
namespace Ts
open PySem L2
/-! ### meanings by their values -/
/-- the turns that give these values -/
def turnsG (rs : List Row) (v : Str → Bool) : List Str := (rs.filter fun r => decide (v r.nm ≠ v r.fo)).map (·.nm)
theorem row_same {rs : List Row} (hv : Valid rs) {r q : Row} (hr : r ∈ rs) (hq : q ∈ rs) (e : r.nm = q.nm) : r = q := by
  obtain ⟨i, hi, e1⟩ := List.mem_iff_getElem.mp hr
  obtain ⟨j, hj, e2⟩ := List.mem_iff_getElem.mp hq
  have h1 := rowOf_at hv (i := i) (r := r) (by rw [← e1]; exact List.getElem?_eq_getElem hi)
  have h2 := rowOf_at hv (i := j) (r := q) (by rw [← e2]; exact List.getElem?_eq_getElem hj)
  rw [e, h2] at h1
  exact (Option.some.inj h1).symm
theorem mem_turnsG {rs : List Row} (hv : Valid rs) {v : Str → Bool} {r : Row} (hr : r ∈ rs) : r.nm ∈ turnsG rs v ↔ v r.nm ≠ v r.fo := by
  unfold turnsG
  constructor
  · intro h
    obtain ⟨q, hq, e⟩ := List.mem_map.mp h
    rw [List.mem_filter, decide_eq_true_eq] at hq
    rw [row_same hv hr hq.1 e.symm]
    exact hq.2
  · intro h
    exact List.mem_map.mpr ⟨r, List.mem_filter.mpr ⟨hr, decide_eq_true h⟩, rfl⟩
theorem turnsG_sub (rs : List Row) (v : Str → Bool) : (turnsG rs v).Sublist (names rs) := List.Sublist.map _ List.filter_sublist
theorem val_turnsG {rs : List Row} (hv : Valid rs) (v : Str → Bool) : ∀ z ∈ plc rs, valOf rs (v "top") (turnsG rs v) z = v z := by
  have key : ∀ n : Nat, ∀ i, i < n → ∀ r, rs[i]? = some r → valOf rs (v "top") (turnsG rs v) r.nm = v r.nm := by
    intro n
    induction n with
    | zero => intro i hi; omega
    | succ n ih =>
      intro i hi r hr
      have hrm := List.mem_of_getElem? hr
      have hfo : valOf rs (v "top") (turnsG rs v) r.fo = v r.fo := by
        rcases hv.fo hr with e | e
        · rw [e, val_top hv]
        · obtain ⟨q, hq, e2⟩ := List.mem_map.mp e
          obtain ⟨j, hj, e3⟩ := List.mem_take_iff_getElem.mp hq
          rw [← e2]
          exact ih j (by omega) q (by rw [← e3]; exact List.getElem?_eq_getElem _)
      rw [val_step hv _ _ hrm, hfo]
      have e : decide (r.nm ∈ turnsG rs v) = decide (v r.nm ≠ v r.fo) := decide_eq_decide.mpr (mem_turnsG hv hrm)
      rw [e]
      cases v r.fo <;> cases v r.nm <;> rfl
  intro z hz
  rcases mem_plc.mp hz with rfl | hz
  · exact val_top hv _ _
  · obtain ⟨r, hr, rfl⟩ := List.mem_map.mp hz
    obtain ⟨i, hi, e⟩ := List.mem_iff_getElem.mp hr
    exact key (i + 1) i (by omega) r (by rw [← e]; exact List.getElem?_eq_getElem hi)
theorem fo_plc {rs : List Row} (hv : Valid rs) {r : Row} (hr : r ∈ rs) : r.fo ∈ plc rs := mem_plc.mpr (hv.foAll hr)
theorem nm_plc {rs : List Row} {r : Row} (hr : r ∈ rs) : r.nm ∈ plc rs := mem_plc.mpr (.inr (List.mem_map.mpr ⟨r, hr, rfl⟩))
structure MV (C CM : Addr) (H : Hp) (m t : Addr) (rs : List Row) (v : Str → Bool) : Prop where
  ex : ∃ (d : Bool) (ts : List Str), MeanAt C CM H m t rs d ts ∧ ∀ z ∈ plc rs, valOf rs d ts z = v z
  lk : ∀ r ∈ rs, r.pr = none → v r.nm = v r.fo
theorem MV.same {C CM : Addr} {H H' : Hp} {m t : Addr} {rs : List Row} {v : Str → Bool} (h : MV C CM H m t rs v) (s : Same H H') : MV C CM H' m t rs v := by
  obtain ⟨d, ts, hm, hv⟩ := h.ex
  exact ⟨⟨d, ts, hm.same s, hv⟩, h.lk⟩
theorem MV.at_ {C CM : Addr} {H : Hp} {m t : Addr} {rs : List Row} {v : Str → Bool} (h : MV C CM H m t rs v) : ∃ dx fs, H m = some (.ins CM dx fs) := by
  obtain ⟨d, ts, hm, hv⟩ := h.ex
  obtain ⟨dx, u, k, h1, _⟩ := hm.ex
  exact ⟨dx, _, h1⟩
theorem turns_of {rs : List Row} (hv : Valid rs) {d : Bool} {ts : List Str} {v : Str → Bool} (hn : ts = turnsL rs ts) (h : ∀ z ∈ plc rs, valOf rs d ts z = v z) : d = v "top" ∧ ts = turnsG rs v := by
  have h1 : turnsL rs (turnsG rs v) = turnsG rs v := turnsL_sub hv (turnsG_sub rs v)
  refine (val_all hv (d := d) (d2 := v "top") hn.symm h1).mp fun z hz => ?_
  rw [h z hz, val_turnsG hv v z hz]
theorem MV.turns {C CM : Addr} {H : Hp} {m t : Addr} {rs : List Row} {v : Str → Bool} (h : MV C CM H m t rs v) : MeanAt C CM H m t rs (v "top") (turnsG rs v) := by
  obtain ⟨d, ts, hm, hv⟩ := h.ex
  obtain ⟨e1, e2⟩ := turns_of hm.tree.val hm.norm hv
  rw [← e1, ← e2]
  exact hm
theorem MV.free {C CM : Addr} {H : Hp} {m t : Addr} {rs : List Row} {v : Str → Bool} (h : MV C CM H m t rs v) : ∀ z ∈ turnsG rs v, Free rs z := fun z hz => by
  have hv := h.turns.tree.val
  obtain ⟨r, hr, rfl⟩ := List.mem_map.mp hz
  rw [List.mem_filter, decide_eq_true_eq] at hr
  obtain ⟨i, hi, e⟩ := List.mem_iff_getElem.mp hr.1
  exact ⟨r, rowOf_at hv (by rw [← e]; exact List.getElem?_eq_getElem hi), fun q => hr.2 (h.lk r hr.1 q)⟩
theorem MV.valid {C CM : Addr} {H : Hp} {m t : Addr} {rs : List Row} {v : Str → Bool} (h : MV C CM H m t rs v) : Valid rs := h.turns.tree.val
/-- from a meaning -/
theorem MV.of {C CM : Addr} {H : Hp} {m t : Addr} {rs : List Row} {d : Bool} {ts : List Str} (h : MeanAt C CM H m t rs d ts) (hf : ∀ z ∈ ts, Free rs z) : MV C CM H m t rs (valOf rs d ts) := by
  refine ⟨⟨d, ts, h, fun _ _ => rfl⟩, fun r hr q => ?_⟩
  rw [val_step h.tree.val d ts hr]
  have : r.nm ∉ ts := fun hm => by
    obtain ⟨r2, e, hp⟩ := hf _ hm
    obtain ⟨i, hi, e2⟩ := List.mem_iff_getElem.mp hr
    rw [rowOf_at h.tree.val (i := i) (r := r) (by rw [← e2]; exact List.getElem?_eq_getElem hi)] at e
    cases e
    exact hp q
  rw [decide_eq_false this]
  cases valOf rs d ts r.fo <;> rfl
/-- a dict of values -/
def kvG (rs : List Row) (v : Str → Bool) : List (Key × V) := (plc rs).map fun z => ((.inr z : Key), V.bl (v z))
theorem kvM_kvG {rs : List Row} (hv : Valid rs) {d : Bool} {ts : List Str} {v : Str → Bool} (h : ∀ z ∈ plc rs, valOf rs d ts z = v z) : kvM rs d ts rs = kvG rs v := by
  unfold kvM kvG plc names kvF
  rw [List.map_cons, List.map_map]
  congr 1
  · rw [← h _ (mem_plc.mpr (.inl rfl)), val_top hv]
  · refine List.map_congr_left fun r hr => ?_
    show (Sum.inr r.nm, V.bl (valOf rs d ts r.nm)) = (Sum.inr r.nm, V.bl (v r.nm))
    rw [h _ (nm_plc hr)]
theorem valV_list (v : Str → Bool) {z : Str} : ∀ {l : List Str}, z ∈ l → valV (l.map fun z => ((.inr z : Key), V.bl (v z))) (.inr z : Key) = some (.bl (v z))
  | x :: l, hz => by
    rw [List.map_cons]
    by_cases e : x = z
    · subst e; rw [valV_pos rfl]
    · rw [valV_neg (fun q => e (Sum.inr.inj q))]
      exact valV_list v ((List.mem_cons.mp hz).resolve_left fun q => e q.symm)
theorem valV_kvG {rs : List Row} (v : Str → Bool) {z : Str} (hz : z ∈ plc rs) : valV (kvG rs v) (.inr z : Key) = some (.bl (v z)) := valV_list v hz
theorem kvG_at {rs : List Row} {v : Str → Bool} {j : Nat} {k : Key} {x : V} (h : (kvG rs v)[j]? = some (k, x)) : ∃ z : Str, k = .inr z ∧ (plc rs)[j]? = some z := by
  unfold kvG at h
  rw [List.getElem?_map] at h
  obtain ⟨z, hz, e⟩ := Option.map_eq_some_iff.mp h
  exact ⟨z, (Prod.mk.inj e).1.symm, hz⟩
theorem kvG_len (rs : List Row) (v : Str → Bool) : (kvG rs v).length = (plc rs).length := by unfold kvG; rw [List.length_map]
theorem plc_nodup {rs : List Row} (hv : Valid rs) : (plc rs).Nodup := by
  unfold plc
  rw [List.nodup_cons]
  exact ⟨top_not hv, hv.nodup⟩
/-- the values of the first places, one more -/
theorem kvP_more {l : List Str} (nd : l.Nodup) (v : Str → Bool) {i : Nat} {z : Str} (h : l[i]? = some z) : putK ((l.take i).map fun z => ((.inr z : Key), V.bl (v z))) (.inr z) (.bl (v z)) = (l.take (i + 1)).map fun z => ((.inr z : Key), V.bl (v z)) := by
  have hn : z ∉ l.take i := fun hm => by
    obtain ⟨j, hj, e⟩ := List.mem_take_iff_getElem.mp hm
    obtain ⟨hi, e2⟩ := List.getElem?_eq_some_iff.mp h
    have := (List.getElem_inj nd).mp (e.trans e2.symm)
    omega
  have hv : valV ((l.take i).map fun z => ((.inr z : Key), V.bl (v z))) (.inr z : Key) = none := by
    generalize l.take i = m at hn
    induction m with
    | nil => rfl
    | cons x m ih =>
      rw [List.map_cons, valV_neg (fun q => hn (by rw [Sum.inr.inj q]; exact List.mem_cons_self ..))]
      exact ih fun q => hn (List.mem_cons_of_mem _ q)
  rw [putK_new _ hv, take_more h, List.map_append]
  rfl
def eqV (rs : List Row) (v w : Str → Bool) : Bool := (plc rs).all fun z => v z == w z
theorem eqV_true {rs : List Row} {v w : Str → Bool} (h : ∀ z, v z = w z) : eqV rs v w = true := by
  unfold eqV
  rw [List.all_eq_true]
  intro z _
  rw [h z]; simp
theorem eqV_iff {rs : List Row} {v w : Str → Bool} : eqV rs v w = true ↔ ∀ z ∈ plc rs, v z = w z := by
  unfold eqV
  rw [List.all_eq_true]
  exact ⟨fun h z hz => by simpa using h z hz, fun h z hz => by simpa using h z hz⟩
def spBin (C CM : Addr) (f : Bool → Bool → Bool) : Sp := fun vs H Q _ => ∃ (m m2 t t2 : Addr) (rs : List Row) (v w : Str → Bool), vs = [.ref m, .ref m2] ∧ MV C CM H m t rs v ∧ MV C CM H m2 t2 rs w ∧ ∀ m3 H', Same H H' → MV C CM H' m3 t rs (fun z => f (v z) (w z)) → Q (.ref m3) H'
def spInv (C CM : Addr) : Sp := fun vs H Q _ => ∃ (m t : Addr) (rs : List Row) (v : Str → Bool), vs = [.ref m] ∧ MV C CM H m t rs v ∧ ∀ m3 H', Same H H' → MV C CM H' m3 t rs (fun z => !(v z)) → Q (.ref m3) H'
def spWith (C CM : Addr) : Sp := fun vs H Q _ => ∃ (t vd : Addr) (rs : List Row) (v : Str → Bool), vs = [.ref t, .ref vd] ∧ TreeAt C H t rs ∧ H vd = some (.dK (kvG rs v)) ∧ (∀ r ∈ rs, r.pr = none → v r.nm = v r.fo) ∧ ∀ m H', Same H H' → MV C CM H' m t rs v → Q (.ref m) H'
theorem rd_bin {C CM : Addr} {H : Hp} {m m2 t t2 : Addr} {rs : List Row} {v w : Str → Bool} {f : Bool → Bool → Bool} {E : XK} {Q : VK} (h1 : MV C CM H m t rs v) (h2 : MV C CM H m2 t2 rs w) (k : ∀ m3 H', Same H H' → MV C CM H' m3 t rs (fun z => f (v z) (w z)) → Q (.ref m3) H') : rBinC CM (spBin C CM f) E (.ref m) (.ref m2) H Q := by
  obtain ⟨dx, fs, e1⟩ := h1.at_
  obtain ⟨dy, gs, e2⟩ := h2.at_
  exact ⟨m, m2, dx, dy, fs, gs, rfl, rfl, e1, e2, m, m2, t, t2, rs, v, w, rfl, h1, h2, fun m3 H' s mv => ⟨m3, rfl, k m3 H' s mv⟩⟩
theorem rd_inv {C CM : Addr} {H : Hp} {m t : Addr} {rs : List Row} {v : Str → Bool} {E : XK} {Q : VK} (h1 : MV C CM H m t rs v) (k : ∀ m3 H', Same H H' → MV C CM H' m3 t rs (fun z => !(v z)) → Q (.ref m3) H') : rInvC CM (spInv C CM) E (.ref m) H Q := by
  obtain ⟨dx, fs, e1⟩ := h1.at_
  exact ⟨m, dx, fs, rfl, e1, m, t, rs, v, rfl, h1, k⟩
theorem eq_eqV {rs : List Row} (hv : Valid rs) (v w : Str → Bool) : (decide (rs = rs) && (decide (v "top" = w "top") && decide (turnsG rs v = turnsG rs w))) = eqV rs v w := by
  rw [decide_eq_true (rfl : rs = rs), Bool.true_and, Bool.eq_iff_iff, Bool.and_eq_true, decide_eq_true_eq, decide_eq_true_eq, eqV_iff, ← val_all hv (turnsL_sub hv (turnsG_sub rs v)) (turnsL_sub hv (turnsG_sub rs w))]
  exact ⟨fun h z hz => by have := h z hz; rw [val_turnsG hv v z hz, val_turnsG hv w z hz] at this; exact this, fun h z hz => by rw [val_turnsG hv v z hz, val_turnsG hv w z hz]; exact h z hz⟩
theorem rd_eq {K : PySem.W.Frag} {C CM : Addr} {H : Hp} {m m2 t t2 : Addr} {rs : List Row} {v w : Str → Bool} {E : XK} {Q : VK} (h1 : MV C CM H m t rs v) (h2 : MV C CM H m2 t2 rs w) (k : Q (.bl (eqV rs v w)) H) : rEqC K CM (spMEq K C CM) E (.ref m) (.ref m2) H Q := by
  obtain ⟨dx, fs, e1⟩ := h1.at_
  obtain ⟨dy, gs, e2⟩ := h2.at_
  refine ⟨m, dx, fs, .ref CM, rfl, e1, .ins e2, nfM, m, t, _, rs, _, _, rfl, h1.turns, .inl ⟨m2, t2, rs, _, _, rfl, h2.turns, _, rfl, ?_⟩⟩
  rw [eq_eqV h1.valid]
  exact k
theorem rd_ne {K : PySem.W.Frag} {C CM : Addr} {H : Hp} {m m2 t t2 : Addr} {rs : List Row} {v w : Str → Bool} {E : XK} {Q : VK} (h1 : MV C CM H m t rs v) (h2 : MV C CM H m2 t2 rs w) (k : Q (.bl (!eqV rs v w)) H) : rNeC K CM (spMEq K C CM) E (.ref m) (.ref m2) H Q := by
  obtain ⟨dx, fs, e1⟩ := h1.at_
  obtain ⟨dy, gs, e2⟩ := h2.at_
  refine ⟨m, dx, fs, .ref CM, rfl, e1, .ins e2, nfM, m, t, _, rs, _, _, rfl, h1.turns, .inl ⟨m2, t2, rs, _, _, rfl, h2.turns, _, rfl, ?_⟩⟩
  rw [eq_eqV h1.valid]
  exact k
theorem turned_not (ts : List Str) : ∀ (l : List Str) (d : Bool), turned (!d) ts l = !(turned d ts l)
  | [], _ => rfl
  | x :: l, d => by
    show turned (if x ∈ ts then !(!d) else !d) ts l = !(turned (if x ∈ ts then !d else d) ts l)
    rw [← turned_not ts l]
    by_cases h : x ∈ ts
    · rw [if_pos h, if_pos h]
    · rw [if_neg h, if_neg h]
end Ts

set_option maxRecDepth 100000
set_option maxHeartbeats 4000000
namespace Ts
open PySem L2
/-! ### wishes as data -/
abbrev Wsh := List (Str × Bool)
def kvE (es : Wsh) : List (Key × V) := es.map fun e => ((.inr e.1 : Key), V.bl e.2)
def endO (es : Wsh) (z : Str) : Option Bool := (es.find? fun e => decide (e.1 = z)).map (·.2)
theorem kvE_val (z : Str) : ∀ es : Wsh, valV (kvE es) (.inr z : Key) = (endO es z).map V.bl
  | [] => rfl
  | e :: es => by
    have ih := kvE_val z es
    unfold endO at ih ⊢
    show valV (((.inr e.1 : Key), V.bl e.2) :: kvE es) _ = _
    rw [List.find?_cons]
    by_cases q : e.1 = z
    · rw [decide_eq_true q, valV_pos (by rw [q])]; rfl
    · rw [decide_eq_false q, valV_neg (fun x => q (Sum.inr.inj x))]; exact ih
structure EndsOk (rs : List Row) (es : Wsh) : Prop where
  nd : (es.map (·.1)).Nodup
  inp : ∀ e ∈ es, e.1 ∈ plc rs
  len : es.length ≤ 200
def putE (es : Wsh) (z : Str) (b : Bool) : Wsh := if (es.any fun e => decide (e.1 = z)) = true then es.map (fun e => if e.1 = z then (z, b) else e) else es ++ [(z, b)]
theorem kvE_put (es : Wsh) (z : Str) (b : Bool) : putK (kvE es) (.inr z) (.bl b) = kvE (putE es z b) := by
  have ha : ((kvE es).any fun kv => decide (kv.1 = (.inr z : Key))) = es.any fun e => decide (e.1 = z) := by
    unfold kvE
    rw [List.any_map]
    congr 1
    funext e
    show decide ((.inr e.1 : Key) = .inr z) = _
    by_cases q : e.1 = z
    · rw [decide_eq_true q, decide_eq_true (by rw [q])]
    · rw [decide_eq_false q, decide_eq_false (fun x => q (Sum.inr.inj x))]
  unfold putK putE
  rw [ha]
  split
  · unfold kvE
    rw [List.map_map, List.map_map]
    refine List.map_congr_left fun e _ => ?_
    show (if ((.inr e.1 : Key)) = .inr z then ((.inr e.1 : Key), V.bl b) else ((.inr e.1 : Key), V.bl e.2)) = ((.inr (if e.1 = z then (z, b) else e).1 : Key), V.bl (if e.1 = z then (z, b) else e).2)
    by_cases q : e.1 = z
    · rw [if_pos (by rw [q]), if_pos q, q]
    · rw [if_neg (fun x => q (Sum.inr.inj x)), if_neg q]
  · unfold kvE
    rw [List.map_append]; rfl
theorem any_mem {es : Wsh} {z : Str} : (es.any fun e => decide (e.1 = z)) = true ↔ z ∈ es.map (·.1) := by
  rw [List.any_eq_true, List.mem_map]
  exact ⟨fun ⟨e, h1, h2⟩ => ⟨e, h1, of_decide_eq_true h2⟩, fun ⟨e, h1, h2⟩ => ⟨e, h1, decide_eq_true h2⟩⟩
theorem putE_keys (es : Wsh) (z : Str) (b : Bool) : (putE es z b).map (·.1) = if z ∈ es.map (·.1) then es.map (·.1) else es.map (·.1) ++ [z] := by
  unfold putE
  by_cases h : z ∈ es.map (·.1)
  · rw [if_pos (any_mem.mpr h), if_pos h, List.map_map]
    refine List.map_congr_left fun e _ => ?_
    show (if e.1 = z then (z, b) else e).1 = e.1
    by_cases q : e.1 = z
    · rw [if_pos q, q]
    · rw [if_neg q]
  · rw [if_neg (fun q => h (any_mem.mp q)), if_neg h, List.map_append]; rfl
theorem putE_len (es : Wsh) (z : Str) (b : Bool) : (putE es z b).length ≤ es.length + 1 := by
  have h := congrArg List.length (putE_keys es z b)
  rw [List.length_map] at h
  rw [h]
  split
  · rw [List.length_map]; exact Nat.le_succ _
  · rw [List.length_append, List.length_map]; exact Nat.le_refl _
theorem endO_put (es : Wsh) (z : Str) (b : Bool) (y : Str) : endO (putE es z b) y = if y = z then some b else endO es y := by
  have h1 := kvE_val y (putE es z b)
  rw [← kvE_put] at h1
  have inj : ∀ a c : Option Bool, a.map V.bl = c.map V.bl → a = c := fun a c e => by
    cases a <;> cases c <;> simp_all
  refine inj _ _ ?_
  rw [← h1, valV_put]
  by_cases q : y = z
  · rw [if_pos q, if_pos (by rw [q])]; rfl
  · rw [if_neg q, if_neg (fun x => q (Sum.inr.inj x)), kvE_val]
theorem endO_mem {es : Wsh} (nd : (es.map (·.1)).Nodup) {e : Str × Bool} (he : e ∈ es) : endO es e.1 = some e.2 := by
  induction es with
  | nil => cases he
  | cons x l ih =>
    unfold endO at ih ⊢
    rw [List.map_cons, List.nodup_cons] at nd
    rw [List.find?_cons]
    rcases List.mem_cons.mp he with rfl | he
    · rw [decide_eq_true rfl]; rfl
    · rw [decide_eq_false (fun q => nd.1 (by rw [q]; exact List.mem_map.mpr ⟨e, he, rfl⟩))]
      exact ih nd.2 he
theorem endO_some {es : Wsh} {z : Str} {b : Bool} (h : endO es z = some b) : (z, b) ∈ es := by
  unfold endO at h
  obtain ⟨e, he, rfl⟩ := Option.map_eq_some_iff.mp h
  have h1 := List.mem_of_find?_eq_some he
  have h2 : e.1 = z := of_decide_eq_true (List.find?_some (p := fun e : Str × Bool => decide (e.1 = z)) he)
  rw [← h2]; exact h1
theorem putE_ok {rs : List Row} {es : Wsh} (h : EndsOk rs es) (l : es.length ≤ 150) {z : Str} (hz : z ∈ plc rs) (b : Bool) : EndsOk rs (putE es z b) := by
  refine ⟨?_, fun e he => ?_, by have := putE_len es z b; omega⟩
  · rw [putE_keys]
    split
    · exact h.nd
    · rename_i q
      rw [List.nodup_append]
      exact ⟨h.nd, by simp, fun a ha c hc => by rw [List.mem_singleton.mp hc]; exact fun x => q (by rw [← x]; exact ha)⟩
  · have : e.1 ∈ (putE es z b).map (·.1) := List.mem_map.mpr ⟨e, he, rfl⟩
    rw [putE_keys] at this
    split at this
    · obtain ⟨e', h1, h2⟩ := List.mem_map.mp this
      rw [← h2]; exact h.inp _ h1
    · rcases List.mem_append.mp this with h1 | h1
      · obtain ⟨e', h1, h2⟩ := List.mem_map.mp h1
        rw [← h2]; exact h.inp _ h1
      · rw [List.mem_singleton.mp h1]; exact hz
def topE (d : Option Bool) (es : Wsh) : Wsh := match d with
  | none => es
  | some b => putE es "top" b
theorem topE_ok {rs : List Row} {es : Wsh} (h : EndsOk rs es) (l : es.length ≤ 150) (d : Option Bool) : EndsOk rs (topE d es) := by
  cases d with
  | none => exact h
  | some b => exact putE_ok h l (mem_plc.mpr (.inl rfl)) b
/-! ### locked steps upward -/
def lockR (rs : List Row) (z : Str) : Str := ((wayOf rs z).reverse.dropWhile (lockedB rs)).headD "top"
theorem lockR_top {rs : List Row} (hv : Valid rs) : lockR rs "top" = "top" := by
  unfold lockR
  rw [way_top hv]; rfl
theorem lockB_row {rs : List Row} (hv : Valid rs) {r : Row} (hr : r ∈ rs) : lockedB rs r.nm = decide (r.pr = none) := by
  obtain ⟨i, hi, e⟩ := List.mem_iff_getElem.mp hr
  unfold lockedB
  rw [rowOf_at hv (show rs[i]? = some r by rw [← e]; exact List.getElem?_eq_getElem hi)]
theorem lockR_row {rs : List Row} (hv : Valid rs) {r : Row} (hr : r ∈ rs) : lockR rs r.nm = if r.pr = none then lockR rs r.fo else r.nm := by
  unfold lockR
  rw [way_step hv hr, List.reverse_append, List.reverse_singleton, List.singleton_append, List.dropWhile_cons, lockB_row hv hr]
  by_cases q : r.pr = none
  · rw [decide_eq_true q, if_pos rfl, if_pos q]
  · rw [decide_eq_false q, if_neg Bool.false_ne_true, if_neg q]; rfl
def OpenE (rs : List Row) (es : Wsh) : Prop := ∀ e ∈ es, ∀ e' ∈ es, lockR rs e.1 = lockR rs e'.1 → e.2 = e'.2
def feasV (rs : List Row) (es : Wsh) (z : Str) : Bool := ((es.find? fun e => decide (lockR rs e.1 = lockR rs z)).map (·.2)).getD false
def NoLk (rs : List Row) (v : Str → Bool) : Prop := ∀ r ∈ rs, r.pr = none → v r.nm = v r.fo
def Keeps (es : Wsh) (v : Str → Bool) : Prop := ∀ e ∈ es, v e.1 = e.2
theorem feas_nolk {rs : List Row} (hv : Valid rs) (es : Wsh) : NoLk rs (feasV rs es) := fun r hr q => by
  unfold feasV
  rw [lockR_row hv hr, if_pos q]
theorem feas_keeps {rs : List Row} {es : Wsh} (h : OpenE rs es) : Keeps es (feasV rs es) := fun e he => by
  unfold feasV
  cases c : es.find? fun e' => decide (lockR rs e'.1 = lockR rs e.1) with
  | none =>
    have := List.find?_eq_none.mp c e he
    exact absurd (decide_eq_true rfl) this
  | some e' =>
    exact h e' (List.mem_of_find?_eq_some c) e he (of_decide_eq_true (List.find?_some (p := fun e' : Str × Bool => decide (lockR rs e'.1 = lockR rs e.1)) c))
/-! ### prices -/
def prI (r : Row) : Int := r.pr.getD 0
def allI (rs : List Row) : Int := (rs.map prI).sum
def endlessI (rs : List Row) : Int := 1 + allI rs
def stepR (rs : List Row) (r : Row) : Int := r.pr.getD (endlessI rs)
def stepI (rs : List Row) (z : Str) : Int := match rowOf rs z with
  | some r => stepR rs r
  | none => 0
def turnI (rs : List Row) (v : Str → Bool) (r : Row) : Int := if v r.nm = v r.fo then 0 else stepR rs r
def costV (v : Str → Bool) (r : Row) : Int := if v r.nm = v r.fo then 0 else prI r
def priceV (rs : List Row) (v : Str → Bool) : Int := (rs.map (costV v)).sum
def pen (rs : List Row) (es : Wsh) (z : Str) (b : Bool) : Int := if endO es z = some (!b) then endlessI rs else 0
theorem Valid.prI {rs : List Row} (hv : Valid rs) {r : Row} (hr : r ∈ rs) : 0 ≤ prI r := by
  obtain ⟨i, hi, e⟩ := List.mem_iff_getElem.mp hr
  have h := (hv i r (by rw [← e]; exact List.getElem?_eq_getElem hi)).price
  unfold Ts.prI
  cases q : r.pr with
  | none => exact Int.le_refl _
  | some p =>
    rw [q] at h
    have h : 1 ≤ p := h
    show 0 ≤ p
    omega
theorem sum_pos {l : List Int} (h : ∀ x ∈ l, 0 ≤ x) : 0 ≤ l.sum := by
  induction l with
  | nil => exact Int.le_refl _
  | cons a l ih =>
    rw [List.sum_cons]
    have h1 := h a (List.mem_cons_self ..)
    have h2 := ih fun x hx => h x (List.mem_cons_of_mem _ hx)
    omega
theorem sum_le {α : Type} {l : List α} {f g : α → Int} (h : ∀ x ∈ l, f x ≤ g x) : (l.map f).sum ≤ (l.map g).sum := by
  induction l with
  | nil => exact Int.le_refl _
  | cons a l ih =>
    rw [List.map_cons, List.map_cons, List.sum_cons, List.sum_cons]
    have h1 := h a (List.mem_cons_self ..)
    have h2 := ih fun x hx => h x (List.mem_cons_of_mem _ hx)
    omega
theorem sum_mem {α : Type} {l : List α} {f : α → Int} (h : ∀ x ∈ l, 0 ≤ f x) {a : α} (ha : a ∈ l) : f a ≤ (l.map f).sum := by
  induction l with
  | nil => cases ha
  | cons b l ih =>
    rw [List.map_cons, List.sum_cons]
    have h2 : 0 ≤ (l.map f).sum := sum_pos fun x hx => by
      obtain ⟨y, hy, rfl⟩ := List.mem_map.mp hx
      exact h y (List.mem_cons_of_mem _ hy)
    rcases List.mem_cons.mp ha with rfl | ha
    · omega
    · have h1 := h b (List.mem_cons_self ..)
      have h3 := ih (fun x hx => h x (List.mem_cons_of_mem _ hx)) ha
      omega
theorem endless_pos {rs : List Row} (hv : Valid rs) : 1 ≤ endlessI rs := by
  have : 0 ≤ allI rs := sum_pos fun x hx => by
    obtain ⟨r, hr, rfl⟩ := List.mem_map.mp hx
    exact hv.prI hr
  unfold endlessI
  omega
theorem price_all {rs : List Row} (hv : Valid rs) (v : Str → Bool) : priceV rs v ≤ allI rs := sum_le fun r hr => by
  have := hv.prI hr
  unfold costV
  split <;> omega
/-! ### the table -/
abbrev Tab := Str → Bool → Int
def stepT (rs : List Row) (r : Row) (f : Tab) : Tab := fun z b => if z = r.fo then f z b + min (f r.nm b) (f r.nm (!b) + stepR rs r) else f z b
def tabT (rs : List Row) (es : Wsh) : List Row → Tab
  | [] => pen rs es
  | r :: l => stepT rs r (tabT rs es l)
def tabF (rs : List Row) (es : Wsh) : Tab := tabT rs es rs
def pickV (rs : List Row) (f : Tab) (fav : Bool) (b : Str) (v : Bool) : Bool :=
  if f b fav + (if v = fav then 0 else stepI rs b) ≤ f b (!fav) + (if v = !fav then 0 else stepI rs b) then fav else !fav
def favV (rs : List Row) (f : Tab) (fav : Bool) (z : Str) : Bool :=
  (wayOf rs z).foldl (fun v b => pickV rs f fav b v) (if f "top" fav ≤ f "top" (!fav) then fav else !fav)
theorem favV_top {rs : List Row} (hv : Valid rs) (f : Tab) (fav : Bool) : favV rs f fav "top" = if f "top" fav ≤ f "top" (!fav) then fav else !fav := by
  unfold favV
  rw [way_top hv]; rfl
theorem favV_row {rs : List Row} (hv : Valid rs) (f : Tab) (fav : Bool) {r : Row} (hr : r ∈ rs) : favV rs f fav r.nm = pickV rs f fav r.nm (favV rs f fav r.fo) := by
  unfold favV
  rw [way_step hv hr, List.foldl_append]; rfl
theorem stepI_row {rs : List Row} (hv : Valid rs) {r : Row} (hr : r ∈ rs) : stepI rs r.nm = stepR rs r := by
  obtain ⟨i, hi, e⟩ := List.mem_iff_getElem.mp hr
  unfold stepI
  rw [rowOf_at hv (show rs[i]? = some r by rw [← e]; exact List.getElem?_eq_getElem hi)]
theorem sum_one {l : List Str} (nd : l.Nodup) {a : Str} (ha : a ∈ l) (g : Str → Int) (m : Int) : (l.map fun z => if z = a then g z + m else g z).sum = (l.map g).sum + m := by
  induction l with
  | nil => cases ha
  | cons b l ih =>
    rw [List.nodup_cons] at nd
    rw [List.map_cons, List.map_cons, List.sum_cons, List.sum_cons]
    by_cases q : b = a
    · have e : l.map (fun z => if z = a then g z + m else g z) = l.map g := List.map_congr_left fun z hz => if_neg fun x => nd.1 (by rw [q, ← x]; exact hz)
      rw [if_pos q, e]; omega
    · rw [if_neg q, ih nd.2 ((List.mem_cons.mp ha).resolve_left fun x => q x.symm)]; omega
def phi (rs : List Row) (es : Wsh) (v : Str → Bool) (pre suf : List Row) : Int := (pre.map (turnI rs v)).sum + ((plc pre).map fun z => tabT rs es suf z (v z)).sum
/-- all that a choice of values costs, with what it breaks -/
def fullW (rs : List Row) (es : Wsh) (v : Str → Bool) : Int := phi rs es v rs []
theorem valid_pre {pre suf : List Row} (h : Valid (pre ++ suf)) : Valid pre := fun i r hr => by
  have hi := (List.getElem?_eq_some_iff.mp hr).1
  have := h i r (by rw [List.getElem?_append_left hi]; exact hr)
  rw [List.take_append_of_le_length (Nat.le_of_lt hi)] at this
  exact this
theorem fits_at {pre suf : List Row} {r : Row} (h : Valid (pre ++ r :: suf)) : Fits pre r := by
  have := h pre.length r (by simp)
  rw [List.take_append_of_le_length (Nat.le_refl _), List.take_length] at this
  exact this
theorem fo_pre {pre : List Row} {r : Row} (h : Fits pre r) : r.fo ∈ plc pre := by
  rcases h.home with e | ⟨q, hq, e, _⟩
  · exact mem_plc.mpr (.inl e)
  · exact mem_plc.mpr (.inr (List.mem_map.mpr ⟨q, hq, e⟩))
theorem nm_pre {pre : List Row} {r : Row} (h : Fits pre r) : r.nm ∉ plc pre := fun q => by
  rcases mem_plc.mp q with e | e
  · exact h.top e
  · exact h.new e
theorem plc_snoc (pre : List Row) (r : Row) : plc (pre ++ [r]) = plc pre ++ [r.nm] := by
  unfold plc names
  rw [List.map_append]; rfl
/-- what one box adds -/
def gapI (rs : List Row) (f : Tab) (v : Str → Bool) (r : Row) : Int := f r.nm (v r.nm) + turnI rs v r - min (f r.nm (v r.fo)) (f r.nm (!(v r.fo)) + stepR rs r)
theorem phi_step {rs : List Row} {es : Wsh} {v : Str → Bool} {pre suf : List Row} {r : Row} (h : Valid (pre ++ r :: suf)) : phi rs es v (pre ++ [r]) suf = phi rs es v pre (r :: suf) + gapI rs (tabT rs es suf) v r := by
  have hf := fits_at h
  have hp := valid_pre h
  unfold phi gapI
  rw [List.map_append, List.sum_append, plc_snoc, List.map_append, List.sum_append]
  show _ = (List.map (turnI rs v) pre).sum + ((plc pre).map fun z => stepT rs r (tabT rs es suf) z (v z)).sum + _
  have e : ((plc pre).map fun z => stepT rs r (tabT rs es suf) z (v z)) = (plc pre).map fun z => if z = r.fo then tabT rs es suf z (v z) + min (tabT rs es suf r.nm (v r.fo)) (tabT rs es suf r.nm (!(v r.fo)) + stepR rs r) else tabT rs es suf z (v z) := by
    refine List.map_congr_left fun z _ => ?_
    unfold stepT
    by_cases q : z = r.fo
    · rw [if_pos q, if_pos q, q]
    · rw [if_neg q, if_neg q]
  rw [e, sum_one (plc_nodup hp) (fo_pre hf)]
  simp only [List.map_cons, List.map_nil, List.sum_cons, List.sum_nil]
  omega
theorem gap_pos {rs : List Row} {f : Tab} {v : Str → Bool} {r : Row} : 0 ≤ gapI rs f v r := by
  unfold gapI turnI
  by_cases q : v r.nm = v r.fo
  · rw [if_pos q, q]; omega
  · have e : v r.nm = !(v r.fo) := by cases h1 : v r.nm <;> cases h2 : v r.fo <;> simp_all
    rw [if_neg q, e]; omega
theorem phi_le {rs : List Row} {es : Wsh} {v : Str → Bool} : ∀ (suf pre : List Row), Valid (pre ++ suf) → phi rs es v pre suf ≤ phi rs es v (pre ++ suf) []
  | [], pre, _ => by rw [List.append_nil]; exact Int.le_refl _
  | r :: suf, pre, h => by
    have h1 := phi_step (rs := rs) (es := es) (v := v) h
    have h2 := phi_le (rs := rs) (es := es) (v := v) suf (pre ++ [r]) (by rw [List.append_assoc]; exact h)
    rw [List.append_assoc] at h2
    have h3 := gap_pos (rs := rs) (f := tabT rs es suf) (v := v) (r := r)
    have h4 : phi rs es v (pre ++ [r]) suf ≤ phi rs es v (pre ++ r :: suf) [] := h2
    omega
theorem phi_eq {rs : List Row} {es : Wsh} {v : Str → Bool} : ∀ (suf pre : List Row), Valid (pre ++ suf) → (∀ pre' r suf', pre ++ suf = pre' ++ r :: suf' → gapI rs (tabT rs es suf') v r = 0) → phi rs es v pre suf = phi rs es v (pre ++ suf) []
  | [], pre, _, _ => by rw [List.append_nil]
  | r :: suf, pre, h, g => by
    have h1 := phi_step (rs := rs) (es := es) (v := v) h
    have h2 := phi_eq (rs := rs) (es := es) (v := v) suf (pre ++ [r]) (by rw [List.append_assoc]; exact h) (fun p' r' s' e => g p' r' s' (by rw [← e, List.append_assoc]; rfl))
    rw [List.append_assoc] at h2
    have h3 := g pre r suf rfl
    have h4 : phi rs es v (pre ++ [r]) suf = phi rs es v (pre ++ r :: suf) [] := h2
    omega
theorem phi_nil (rs : List Row) (es : Wsh) (v : Str → Bool) : phi rs es v [] rs = tabF rs es "top" (v "top") := by
  unfold phi plc names tabF
  simp
theorem tab_le {rs : List Row} (hv : Valid rs) (es : Wsh) (v : Str → Bool) : tabF rs es "top" (v "top") ≤ fullW rs es v := by
  have := phi_le (rs := rs) (es := es) (v := v) rs [] hv
  rw [phi_nil] at this
  exact this
/-- a box's entries are done when it is added up -/
theorem tab_done {rs : List Row} {es : Wsh} {z : Str} {b : Bool} : ∀ (pre suf : List Row), (∀ r ∈ pre, r.fo ≠ z) → tabT rs es (pre ++ suf) z b = tabT rs es suf z b
  | [], suf, _ => rfl
  | r :: pre, suf, h => by
    show stepT rs r (tabT rs es (pre ++ suf)) z b = _
    unfold stepT
    rw [if_neg (fun q => h r (List.mem_cons_self ..) q.symm)]
    exact tab_done pre suf fun q hq => h q (List.mem_cons_of_mem _ hq)
theorem tab_fix {rs : List Row} (hv : Valid rs) (es : Wsh) {pre suf : List Row} {r : Row} (e : rs = pre ++ r :: suf) (b : Bool) : tabT rs es suf r.nm b = tabF rs es r.nm b := by
  have hv' := hv
  rw [e] at hv'
  have hf := fits_at hv'
  have hp := valid_pre hv'
  have h1 : ∀ q ∈ pre, q.fo ≠ r.nm := fun q hq x => nm_pre hf (by rw [← x]; exact fo_plc hp hq)
  unfold tabF
  rw [show tabT rs es rs = tabT rs es (pre ++ r :: suf) from by rw [← e], tab_done pre _ h1]
  show _ = stepT rs r (tabT rs es suf) r.nm b
  unfold stepT
  rw [if_neg fun q => nm_pre hf (by rw [q]; exact fo_pre hf)]
theorem fav_full {rs : List Row} (hv : Valid rs) (es : Wsh) (fav : Bool) : fullW rs es (favV rs (tabF rs es) fav) = min (tabF rs es "top" false) (tabF rs es "top" true) := by
  have h := phi_eq (rs := rs) (es := es) (v := favV rs (tabF rs es) fav) rs [] hv fun pre r suf e => by
    have e : rs = pre ++ r :: suf := e
    have hr : r ∈ rs := by rw [e]; simp
    unfold gapI turnI
    rw [tab_fix hv es e, tab_fix hv es e, tab_fix hv es e, favV_row hv _ _ hr]
    generalize favV rs (tabF rs es) fav r.fo = w
    unfold pickV
    rw [stepI_row hv hr]
    cases w <;> cases fav <;> simp only [Bool.not_true, Bool.not_false, if_true, Bool.false_eq_true, if_false, Bool.true_eq_false, Int.add_zero] <;> split <;> simp only [Bool.not_true, Bool.not_false, if_true, Bool.false_eq_true, if_false, Bool.true_eq_false, Int.add_zero] <;> omega
  rw [phi_nil] at h
  unfold fullW
  rw [← show phi rs es (favV rs (tabF rs es) fav) ([] ++ rs) [] = phi rs es (favV rs (tabF rs es) fav) rs [] from rfl, ← h, favV_top hv]
  cases fav <;> simp only [Bool.not_true, Bool.not_false] <;> split <;> omega
/-! ### values that keep the wish -/
theorem full_nice {rs : List Row} (hv : Valid rs) {es : Wsh} (nd : (es.map (·.1)).Nodup) {v : Str → Bool} (h1 : NoLk rs v) (h2 : Keeps es v) : fullW rs es v = priceV rs v := by
  unfold fullW phi priceV
  have e1 : rs.map (turnI rs v) = rs.map (costV v) := List.map_congr_left fun r hr => by
    unfold turnI costV stepR prI
    by_cases q : v r.nm = v r.fo
    · rw [if_pos q, if_pos q]
    · rw [if_neg q, if_neg q]
      cases c : r.pr with
      | none => exact absurd (h1 r hr c) q
      | some p => rfl
  have e2 : ((plc rs).map fun z => tabT rs es [] z (v z)) = (plc rs).map fun _ => (0 : Int) := List.map_congr_left fun z _ => by
    show pen rs es z (v z) = 0
    unfold pen
    refine if_neg fun q => ?_
    have := h2 _ (endO_some q)
    have this : v z = !(v z) := this
    cases c : v z <;> rw [c] at this <;> cases this
  rw [e1, e2]
  have : ∀ l : List Str, (l.map fun _ => (0 : Int)).sum = 0 := fun l => by
    induction l with
    | nil => rfl
    | cons a l ih => rw [List.map_cons, List.sum_cons, ih]; rfl
  rw [this]; omega
theorem full_small {rs : List Row} (hv : Valid rs) {es : Wsh} (ok : EndsOk rs es) {v : Str → Bool} (h : fullW rs es v < endlessI rs) : NoLk rs v ∧ Keeps es v := by
  have e0 := endless_pos hv
  have t0 : ∀ r ∈ rs, 0 ≤ turnI rs v r := fun r hr => by
    have := hv.prI hr
    unfold turnI stepR
    split
    · exact Int.le_refl _
    · cases c : r.pr with
      | none => show 0 ≤ endlessI rs; omega
      | some p => unfold Ts.prI at this; rw [c] at this; exact this
  have p0 : ∀ z ∈ plc rs, 0 ≤ tabT rs es [] z (v z) := fun z _ => by
    show 0 ≤ pen rs es z (v z)
    unfold pen
    split <;> omega
  have s1 : 0 ≤ (rs.map (turnI rs v)).sum := sum_pos fun x hx => by
    obtain ⟨r, hr, rfl⟩ := List.mem_map.mp hx
    exact t0 r hr
  have s2 : 0 ≤ ((plc rs).map fun z => tabT rs es [] z (v z)).sum := sum_pos fun x hx => by
    obtain ⟨z, hz, rfl⟩ := List.mem_map.mp hx
    exact p0 z hz
  unfold fullW phi at h
  refine ⟨fun r hr q => ?_, fun e he => ?_⟩
  · refine Classical.byContradiction fun n => ?_
    have := sum_mem t0 hr
    unfold turnI stepR at this
    rw [if_neg n, q] at this
    have this : endlessI rs ≤ (rs.map (turnI rs v)).sum := this
    omega
  · refine Classical.byContradiction fun n => ?_
    have := sum_mem p0 (ok.inp e he)
    have e1 : tabT rs es [] e.1 (v e.1) = endlessI rs := by
      show pen rs es e.1 (v e.1) = _
      unfold pen
      rw [endO_mem ok.nd he]
      refine if_pos ?_
      cases c1 : e.2 <;> cases c2 : v e.1 <;> simp_all
    rw [e1] at this
    omega
def cheapI (rs : List Row) (es : Wsh) : Int := min (tabF rs es "top" false) (tabF rs es "top" true)
theorem cheap_le {rs : List Row} (hv : Valid rs) (es : Wsh) (v : Str → Bool) : cheapI rs es ≤ fullW rs es v := by
  have := tab_le hv es v
  unfold cheapI
  cases c : v "top" <;> rw [c] at this <;> omega
theorem cheap_small {rs : List Row} (hv : Valid rs) {es : Wsh} (ok : EndsOk rs es) (h : OpenE rs es) : cheapI rs es < endlessI rs := by
  have h1 := cheap_le hv es (feasV rs es)
  rw [full_nice hv ok.nd (feas_nolk hv es) (feas_keeps h)] at h1
  have h2 := price_all hv (feasV rs es)
  unfold endlessI
  omega
theorem fav_good {rs : List Row} (hv : Valid rs) {es : Wsh} (ok : EndsOk rs es) (h : OpenE rs es) (fav : Bool) : NoLk rs (favV rs (tabF rs es) fav) ∧ Keeps es (favV rs (tabF rs es) fav) ∧ priceV rs (favV rs (tabF rs es) fav) = cheapI rs es := by
  have e := fav_full hv es fav
  have s := cheap_small hv ok h
  obtain ⟨h1, h2⟩ := full_small hv ok (v := favV rs (tabF rs es) fav) (by rw [e]; exact s)
  exact ⟨h1, h2, by rw [← full_nice hv ok.nd h1 h2, e]; rfl⟩
/-- nothing that keeps the wish is cheaper -/
theorem cheap_least {rs : List Row} (hv : Valid rs) {es : Wsh} (nd : (es.map (·.1)).Nodup) {v : Str → Bool} (h1 : NoLk rs v) (h2 : Keeps es v) : cheapI rs es ≤ priceV rs v := by
  rw [← full_nice hv nd h1 h2]
  exact cheap_le hv es v
end Ts

set_option maxRecDepth 100000
set_option maxHeartbeats 4000000
namespace Ts
open PySem L2
/-- a dict comprehension over any walk -/
theorem dc_walk {J : It} {n : Nat} {G : Hp → Prop} {Y : Nat → Hp → V → Hp → Prop} (wk : Walk J n G Y) {g : TG} {tt : TT} {tk tv : TE} {us : List Nat} {σ : L2.St} {H0 : Hp} {D : Addr} {Qd : Hp → Prop} (I : Nat → Hp → Prop) (start : I 0 (upd H0 D (.dK []))) (stays : ∀ i H, i ≤ n → I i H → G H)
    (turn : ∀ i x H H', i < n → I i H → Y i H x H' → g x (wipe σ us) H' fun σ2 H2 => wipe σ2 us = wipe σ us ∧ tt σ2 H2 fun b H3 => if b = true then tk σ2 H3 fun y H4 => tv σ2 H4 fun z H5 => ∃ kvs k, y = kV k ∧ H5 D = some (.dK kvs) ∧ kvs.length < sizeLine ∧ I (i + 1) (upd H5 D (.dK (putK kvs k z))) else I (i + 1) H3)
    (done : ∀ H, I n H → Qd H) : ∃ W : Nat → Nat → Hp → Prop, (∃ m, W 0 m (upd H0 D (.dK []))) ∧ ∀ i m H, W i m H → (J.stop i H ∧ Qd H) ∨ (J.go i H ∧ ∃ Nx : Hp → Prop, (∀ H', Nx H' → ∃ m', m' < m ∧ W (i + 1) m' H') ∧ ∀ x H', J.yld i H x H' → g x (wipe σ us) H' fun σ2 H2 => wipe σ2 us = wipe σ us ∧ tt σ2 H2 fun b H3 =>
      if b = true then tk σ2 H3 fun y H4 => tv σ2 H4 fun z H5 => ∃ kvs k, y = kV k ∧ H5 D = some (.dK kvs) ∧ kvs.length < sizeLine ∧ Nx (upd H5 D (.dK (putK kvs k z))) else Nx H3) := by
  refine ⟨fun i m H => m = n - i ∧ i ≤ n ∧ I i H, ⟨n, rfl, Nat.zero_le _, start⟩, ?_⟩
  rintro i m H ⟨rfl, hi, here⟩
  have ok := stays i H hi here
  rcases Nat.lt_or_ge i n with lt | ge
  · exact .inr ⟨wk.goes i H lt ok, I (i + 1), fun H' h' => ⟨n - (i + 1), by omega, rfl, lt, h'⟩, fun x H' y => turn i x H H' lt here (wk.yields i H x H' lt ok y)⟩
  · obtain rfl : i = n := Nat.le_antisymm hi ge
    exact .inl ⟨wk.stops H ok, done H here⟩
def spCheckTrees (C CM : Addr) : Sp := fun vs H Q _ => ∃ (m m2 t t2 : Addr) (rs : List Row) (d d2 : Bool) (ts ts2 : List Str), vs = [.ref m, .ref m2] ∧ MeanAt C CM H m t rs d ts ∧ MeanAt C CM H m2 t2 rs d2 ts2 ∧ Q .non H
section
variable {P : Program} {w : World} {K : PySem.W.Frag} {mg : Str → Option Value} {base : Heap} {C CM : Addr}
theorem sc_check_trees : FnScope ["one", "other"] ["one", "other"] (defScope s_check_trees) := ⟨rfl, rfl, rfl, by decide +kernel, rfl, by decide +kernel, by decide +kernel⟩
theorem ok_check_trees (D : DefAt K mg "check_trees" s_check_trees ["one", "other"]) (M : TxM K mg CM) (N : TxN K C)
    (mE : MethAt K C "__eq__" "Tree.__eq__" s_Tree_eq ["self", "other"]) (GE : FnOk P w K mg base CX0 2 mE.f mE.fd ["self", "other"] (spEqT K C)) : FnOk P w K mg base CX0 4 D.f D.fd ["one", "other"] (spCheckTrees C CM) := by
  refine D.F.ok sc_check_trees (fun vs H Q E h => ?_) (fun cdv A outer s H vs Q E hr h => ?_)
  · obtain ⟨m, m2, t, t2, rs, d, d2, ts, ts2, rfl, _⟩ := h
    rfl
  · obtain ⟨m, m2, t, t2, rs, d, d2, ts, ts2, rfl, hm, hm2, hq⟩ := h
    obtain ⟨dx, u, k, h1, h2, h3⟩ := hm.ex
    obtain ⟨dx2, u2, k2, g1, g2, g3⟩ := hm2.ex
    obtain ⟨tdx, _, _, _, _, _, t1, _⟩ := id hm.tree.ex
    obtain ⟨tdx2, _, _, _, _, _, t3, _⟩ := id hm2.tree.ex
    refine ⟨_, pss_one (ps_if (pt_cmpR (op_neC GE mE.m N.ne N.ob hr mE.b pass0) (pe_fld (pv 0) rfl) (pe_fld (pv 1) rfl) (nomark _)) (pss_one ps_never) pss_nil), ?_⟩
    refine ⟨_, rfl, m, CM, dx, _, _, rfl, h1, M.cl, M.nt, mf_t _ _ _ _, _, rfl, m2, CM, dx2, _, _, rfl, g1, M.cl, M.nt, mf_t _ _ _ _, t, tdx, _, .ref C, rfl, t1, .ins t3, nfC, t, _, rs, rfl, hm.tree, .inl ⟨t2, rs, rfl, hm2.tree, _, rfl, _, rfl, ?_⟩⟩
    exact iteF' (by simp) hq
abbrev nWith : List Str := ["tree", "values", "turns", "box"]
theorem sc_with : FnScope nWith ["tree", "values"] (defScope s_with_values) := ⟨rfl, rfl, rfl, by decide +kernel, rfl, by decide +kernel, by decide +kernel⟩
theorem ok_with {fM : Addr} {fdM : FuncData} (D : DefAt K mg "with_values" s_with_values ["tree", "values"]) (TC : TxC K mg) (T : TxT K mg C) (M : TxM K mg CM)
    (MM : Mk K CM fM) (bM : Binds K fdM ["self", "tree", "default", "turns"] []) (GM : FnOk P w K mg base CX0 7 fM fdM ["self", "tree", "default", "turns"] (spMeaningInit K C CM))
    (mB : MethAt K C "below" "Tree.below" s_Tree_below ["self", "box"]) (GB : FnOk P w K mg base CX0 5 mB.f mB.fd ["self", "box"] (spListOf C belowL))
    (mF : MethAt K C "folder" "Tree.folder" s_Tree_folder ["self", "box"]) (GF : FnOk P w K mg base CX0 4 mF.f mF.fd ["self", "box"] (spGet C fun r => .str r.fo)) : FnOk P w K mg base CX0 9 D.f D.fd ["tree", "values"] (spWith C CM) := by
  obtain ⟨t1, gT⟩ := TC.top
  refine D.F.ok sc_with (fun vs H Q E h => ?_) (fun cdv A outer s H vs Q E hr h => ?_)
  · obtain ⟨t, vd, rs, v, rfl, _⟩ := h
    rfl
  · obtain ⟨t, vd, rs, v, rfl, ht, hvd, hlk, hq⟩ := h
    have hu := hu_of hr
    have hr4 : Room 5 _ := hr.mono (by decide)
    have hr3 : Room 4 _ := hr.mono (by decide)
    refine ⟨_, pss_cons (ps_setLc (i := 2) (own := [("box", 3)]) (g := gName 3) (tt := tTest (tOp rNe (tDGet (tVar 1) (tVar 3)) (tDGet (tVar 1) (tMeth C "folder" (spGet C fun r => .str r.fo) [] E0 (tVar 0) (tCons (tVar 3) tNil))))) (te := tVar 3) rfl sc_with.nd rfl rfl (sw_true rfl rfl rfl (by decide +kernel)) (pi_list (pe_meth (pv 0) T.cl mB.m GB hr4 mB.b .nil pass0 (pa_cons (pe_glob (by rfl) gT (v := .str ("top" : Str)) ⟨_, rfl⟩) pa_nil))) (blkOk_by (N := nWith) (sc := defScope s_with_values) (by decide +kernel))
        (fun _ _ _ _ _ => pg_name (i := 3) sc_with.nd rfl (Or.inl rfl)) (fun _ _ _ _ _ => by exact pts_one (pt_cmpR op_ne (pe_dget hu (pv 1) (pv 3) (fun _ _ => rfl)) (pe_dget hu (pv 1) (pe_meth (pv 0) T.cl mF.m GF hr3 mF.b .nil pass0 (pa_cons (pv 3) pa_nil)) (fun _ _ => rfl)) (nomark _))) (fun _ _ _ _ _ => pv 3))
      (pss_one (ps_ret (pe_make MM GM hr rfl M.g bM .nil pass0 (pa_cons (pv 0) (pa_cons (pe_dget hu (pv 1) (pe_glob (by rfl) gT (v := .str ("top" : Str)) ⟨_, rfl⟩) (fun _ _ => rfl)) (pa_cons (pv 2) pa_nil)))))), ?_⟩
    have hv := ht.val
    have l100 := ht.len
    obtain ⟨dx, q, f, k, p, qs, h1, _⟩ := id ht.ex
    have noB : (tf q f k p).lookup ("below" : Str) = none := tf_no _ _ _ _ (by decide +kernel) (by decide +kernel) (by decide +kernel) (by decide +kernel)
    have noF : (tf q f k p).lookup ("folder" : Str) = none := tf_no _ _ _ _ (by decide +kernel) (by decide +kernel) (by decide +kernel) (by decide +kernel)
    refine ⟨_, rfl, t, dx, _, rfl, h1, noB, t, ("top" : Str), rs, rfl, ht, .inl rfl, fun bl H2 hbl s2 e2 => ?_⟩
    rw [below_top hv] at e2
    refine ⟨bl, rfl, ⟨_, SqL.of e2⟩, fun D hD => ?_⟩
    refine lc_list (K := K) (a := bl) (xs := (names rs).map V.str) (fun i H' => Same H2 H' ∧ H' D = some (.lst ((((rs.take i).filter fun r => decide (v r.nm ≠ v r.fo)).map (·.nm)).map V.str))) ⟨Same.new hD, upd_same⟩ (fun i H' _ m => m.1.seq (SqL.of e2)) ?_ ?_
    · rintro i x H3 hxi ⟨s3, hD3⟩
      unfold names at hxi
      rw [List.getElem?_map, List.getElem?_map] at hxi
      obtain ⟨n1, hn1, rfl⟩ := Option.map_eq_some_iff.mp hxi
      obtain ⟨r, hr', rfl⟩ := Option.map_eq_some_iff.mp hn1
      have hrm := List.mem_of_getElem? hr'
      have s23 := s2.trans s3
      have dg := DGet.k (k := Sum.inr r.nm) (s23 _ _ hvd)
      rw [valV_kvG v (nm_plc hrm)] at dg
      have dg2 := DGet.k (k := Sum.inr r.fo) (s23 _ _ hvd)
      rw [valV_kvG v (fo_plc hv hrm)] at dg2
      have szD : (((rs.take i).filter fun r => decide (v r.nm ≠ v r.fo)).map (·.nm)).length ≤ 1000 := by
        rw [List.length_map]
        have h1 := List.length_filter_le (fun r : Row => decide (v r.nm ≠ v r.fo)) (rs.take i)
        rw [List.length_take] at h1
        omega
      refine ⟨rfl, _, rfl, _, rfl, vd, _, rfl, dg, _, rfl, _, rfl, t, dx, _, rfl, s23 _ _ h1, noF, _, rfl, t, r.nm, rs, r, rfl, ht.same s23, rowOf_at hv hr', vd, _, rfl, dg2, rfl, _, rfl, ?_⟩
      have e0 : (!decide (V.bl (v r.nm) = V.bl (v r.fo))) = decide (v r.nm ≠ v r.fo) := by
        cases v r.nm <;> cases v r.fo <;> rfl
      rw [e0]
      refine ite2 (fun hc => ?_) (fun hc => ?_)
      · refine ⟨_, rfl, _, hD3, by rw [List.length_map]; exact small1000 szD, fun b o eb => ?_, ?_⟩
        · rw [upd_ne (fun y => by rw [y, hD] at eb; cases eb)]
          exact s3 _ _ eb
        · rw [upd_same, filter_take hr', if_pos hc, List.map_append]; rfl
      · refine ⟨s3, ?_⟩
        rw [filter_take hr', if_neg hc, List.append_nil]
        exact hD3
    rintro H3 ⟨s3, hD3⟩
    rw [show ((names rs).map V.str).length = rs.length from by unfold names; rw [List.length_map, List.length_map], List.take_length] at hD3
    have s23 := s2.trans s3
    have dgt := DGet.k (k := Sum.inr ("top" : Str)) (s23 _ _ hvd)
    rw [valV_kvG v (mem_plc.mpr (.inl rfl))] at dgt
    refine ⟨_, rfl, _, rfl, vd, _, rfl, dgt, _, rfl, ?_⟩
    have fr : ∀ z ∈ turnsG rs v, Free rs z := fun z hz => by
      obtain ⟨r, hr, rfl⟩ := List.mem_map.mp hz
      rw [List.mem_filter, decide_eq_true_eq] at hr
      obtain ⟨i, hi, e⟩ := List.mem_iff_getElem.mp hr.1
      exact ⟨r, rowOf_at hv (by rw [← e]; exact List.getElem?_eq_getElem hi), fun q => hr.2 (hlk r hr.1 q)⟩
    refine fun m dm nm nd _ => ⟨m, dm, t, D, v "top", turnsG rs v, rs, rfl, upd_same, (ht.same s23).same (mk_same0 nm nd), SqX.same (.inl (SqL.of hD3)) (mk_same0 nm nd), fr, fun H4 sb4 hm => ⟨rfl, ?_⟩⟩
    rw [turnsL_sub hv (turnsG_sub rs v)] at hm
    exact hq m H4 (s23.trans (mk_same nm nd sb4)) ⟨⟨_, _, hm, val_turnsG hv v⟩, hlk⟩
theorem sc_M_xor : FnScope ["self", "other", "box"] ["self", "other"] (defScope s_Meaning_xor) := ⟨rfl, rfl, rfl, by decide +kernel, rfl, by decide +kernel, by decide +kernel⟩
theorem ok_M_xor {f : Addr} {fd : FuncData} (F : Fun K "__xor__" "Meaning.__xor__" s_Meaning_xor f fd) (M : TxM K mg CM) (Dc : DefAt K mg "check_trees" s_check_trees ["one", "other"]) (Gc : FnOk P w K mg base CX0 4 Dc.f Dc.fd ["one", "other"] (spCheckTrees C CM))
    (Dw : DefAt K mg "with_values" s_with_values ["tree", "values"]) (Gw : FnOk P w K mg base CX0 9 Dw.f Dw.fd ["tree", "values"] (spWith C CM)) : FnOk P w K mg base CX0 10 f fd ["self", "other"] (spBin C CM fun a b => a != b) := by
  refine F.ok sc_M_xor (fun vs H Q E h => ?_) (fun cdv A outer s H vs Q E hr h => ?_)
  · obtain ⟨m, m2, t, t2, rs, v, w', rfl, _⟩ := h
    rfl
  · obtain ⟨m, m2, t, t2, rs, v, w', rfl, hm, hm2, hq⟩ := h
    have hu := hu_of hr
    have hr3 : Room 4 _ := hr.mono (by decide)
    have hv := hm.valid
    have hl := hm.turns.tree.len
    obtain ⟨dx, u, k, h1, h2, h3⟩ := hm.turns.ex
    obtain ⟨dx2, u2, k2, g1, g2, g3⟩ := hm2.turns.ex
    rw [kvM_kvG hv (val_turnsG hv v)] at h3
    rw [kvM_kvG hv (val_turnsG hv w')] at g3
    refine ⟨_, pss_cons (ps_expr (pe_call Gc hr3 rfl Dc.g Dc.F.kp Dc.b .nil pass0 (pa_cons (pv 0) (pa_cons (pv 1) pa_nil))))
      (pss_one (ps_ret (pe_call Gw hr rfl Dw.g Dw.F.kp Dw.b .nil pass0 (pa_cons (pe_fld (pv 0) rfl) (pa_cons (pe_lock (pe_dc (own := [("box", 2)]) (g := gName 2) (tt := tYes) (tk := tVar 2) (tv := tOp rNe (tDGet (tFld K (tVar 0) "known") (tVar 2)) (tDGet (tFld K (tVar 1) "known") (tVar 2))) rfl sc_M_xor.nd (pi_keys (pe_fld (pv 0) rfl)) (blkOk_by (N := ["self", "other", "box"]) (sc := defScope s_Meaning_xor) (by decide +kernel))
        (fun _ _ _ _ _ => pg_name (i := 2) sc_M_xor.nd rfl (Or.inl rfl)) (fun _ _ _ _ _ => pts_nil) (fun _ _ _ _ _ => pv 2) (fun _ _ _ _ _ => by exact pe_cmpR op_ne (pe_dget hu (pe_fld (pv 0) rfl) (pv 2) (fun _ _ => rfl)) (pe_dget hu (pe_fld (pv 1) rfl) (pv 2) (fun _ _ => rfl)) (nomark _)))) pa_nil))))), ?_⟩
    refine ⟨_, rfl, _, rfl, m, m2, t, t2, rs, _, _, _, _, rfl, hm.turns, hm2.turns, ?_⟩
    refine ⟨_, rfl, m, CM, dx, _, _, rfl, h1, M.cl, M.nt, mf_t _ _ _ _, ?_⟩
    refine ⟨k, _, h3, trivial, fun od => ?_⟩
    obtain ⟨Hl, El⟩ : ∃ Hx, Hx = upd H k (.frz od (.dK (kvG rs v))) := ⟨_, rfl⟩
    have lk : Hl k = some (.frz od (.dK (kvG rs v))) := by rw [El]; exact upd_same
    have l1 : Hl m = some (.ins CM dx (mf t u k (v "top"))) := by
      rw [El, upd_ne (fun e => by rw [e, h3] at h1; cases h1)]; exact h1
    have l2 : Hl m2 = some (.ins CM dx2 (mf t2 u2 k2 (w' "top"))) := by
      rw [El, upd_ne (fun e => by rw [e, h3] at g1; cases g1)]; exact g1
    have back : ∀ {H' : Hp}, Same Hl H' → Same H (upd H' k (.dK (kvG rs v))) := fun {H'} sl b o e => by
      by_cases q : b = k
      · rw [q, upd_same, ← e, q]; exact h3.symm
      · rw [upd_ne q]; exact sl _ _ (by rw [El, upd_ne q]; exact e)
    have lk2 : ∃ kv, Rd Hl k2 (.dK kv) ∧ kv = kvG rs w' := by
      by_cases q : k2 = k
      · rw [q] at g3
        rw [h3] at g3
        have e3 := HO.dK.inj (Option.some.inj g3)
        exact ⟨_, by rw [q]; exact .inr ⟨od, lk⟩, e3⟩
      · exact ⟨_, .inl (by rw [El, upd_ne q]; exact g3), rfl⟩
    obtain ⟨kv2, rd2, rfl⟩ := lk2
    rw [← El]
    clear El
    refine ⟨_, rfl, m, CM, dx, _, _, rfl, l1, M.cl, M.nk, mf_k _ _ _ _, k, od, rfl, .inl ⟨_, lk, fun D hD => ?_⟩⟩
    have nD : D ≠ k := (ne_of_none lk hD).symm
    have lp : (plc rs).length ≤ 101 := by unfold plc names; rw [List.length_cons, List.length_map]; omega
    refine dc_walk (walk_keys (d := k) (o := od) (kvs := kvG rs v)) (fun i H' => Same Hl H' ∧ H' D = some (.dK (((plc rs).take i).map fun z => ((.inr z : Key), V.bl ((fun a b => a != b) (v z) (w' z)))))) ⟨Same.new hD, upd_same⟩ (fun i H' _ m => m.1 _ _ lk) ?_ ?_
    · rintro i x H5x H5 hi ⟨s5, hD5⟩ ⟨rfl, k', v', hk, rfl⟩
      obtain ⟨z, rfl, hz⟩ := kvG_at hk
      have hzm := List.mem_of_getElem? hz
      have dg1 : DGet H5 k (.str z) (some (.bl (v z))) := .inl ⟨_, .inr z, .inr ⟨od, s5 _ _ lk⟩, rfl, (valV_kvG v hzm).symm⟩
      have dg2 : DGet H5 k2 (.str z) (some (.bl (w' z))) := .inl ⟨_, .inr z, rd2.imp (s5 _ _) (fun ⟨o, e⟩ => ⟨o, s5 _ _ e⟩), rfl, (valV_kvG w' hzm).symm⟩
      refine ⟨rfl, tYes_if ?_⟩
      refine ⟨_, rfl, _, rfl, m, CM, dx, _, _, rfl, s5 _ _ l1, M.cl, M.nk, mf_k _ _ _ _, _, rfl, k, _, rfl, dg1, _, rfl, m2, CM, dx2, _, _, rfl, s5 _ _ l2, M.cl, M.nk, mf_k _ _ _ _, _, rfl, k2, _, rfl, dg2, rfl, ?_⟩
      have e9 : (upd H5 D (.dK (putK (((plc rs).take i).map fun z => ((.inr z : Key), V.bl (v z != w' z))) (.inr z) (.bl (!decide (V.bl (v z) = V.bl (w' z))))))) D = some (.dK (((plc rs).take (i + 1)).map fun z => ((.inr z : Key), V.bl (v z != w' z)))) := by
        rw [upd_same, ← kvP_more (plc_nodup hv) (fun z => v z != w' z) hz]
        cases v z <;> cases w' z <;> rfl
      exact ⟨_, .inr z, rfl, hD5, small1000 (by rw [List.length_map, List.length_take]; omega), fun b o eb => by
          rw [upd_ne (fun y => by rw [y, hD] at eb; cases eb)]
          exact s5 _ _ eb, e9⟩
    rintro H5 ⟨s5, hD5⟩
    rw [kvG_len, List.take_length] at hD5
    refine ⟨s5 _ _ lk, ?_⟩
    have bk := back s5
    refine ⟨t, D, rs, fun z => (fun a b => a != b) (v z) (w' z), rfl, hm.turns.tree.same bk, by rw [upd_ne nD]; exact hD5, fun r hr q => ?_, fun m3 H6 s6 hm3 => hq m3 H6 (bk.trans s6) hm3⟩
    show (fun a b => a != b) (v r.nm) (w' r.nm) = (fun a b => a != b) (v r.fo) (w' r.fo)
    rw [hm.lk r hr q, hm2.lk r hr q]
theorem sc_M_and : FnScope ["self", "other", "box"] ["self", "other"] (defScope s_Meaning_and) := ⟨rfl, rfl, rfl, by decide +kernel, rfl, by decide +kernel, by decide +kernel⟩
theorem ok_M_and {f : Addr} {fd : FuncData} (F : Fun K "__and__" "Meaning.__and__" s_Meaning_and f fd) (M : TxM K mg CM) (Dc : DefAt K mg "check_trees" s_check_trees ["one", "other"]) (Gc : FnOk P w K mg base CX0 4 Dc.f Dc.fd ["one", "other"] (spCheckTrees C CM))
    (Dw : DefAt K mg "with_values" s_with_values ["tree", "values"]) (Gw : FnOk P w K mg base CX0 9 Dw.f Dw.fd ["tree", "values"] (spWith C CM)) : FnOk P w K mg base CX0 10 f fd ["self", "other"] (spBin C CM fun a b => a && b) := by
  refine F.ok sc_M_and (fun vs H Q E h => ?_) (fun cdv A outer s H vs Q E hr h => ?_)
  · obtain ⟨m, m2, t, t2, rs, v, w', rfl, _⟩ := h
    rfl
  · obtain ⟨m, m2, t, t2, rs, v, w', rfl, hm, hm2, hq⟩ := h
    have hu := hu_of hr
    have hr3 : Room 4 _ := hr.mono (by decide)
    have hv := hm.valid
    have hl := hm.turns.tree.len
    obtain ⟨dx, u, k, h1, h2, h3⟩ := hm.turns.ex
    obtain ⟨dx2, u2, k2, g1, g2, g3⟩ := hm2.turns.ex
    rw [kvM_kvG hv (val_turnsG hv v)] at h3
    rw [kvM_kvG hv (val_turnsG hv w')] at g3
    refine ⟨_, pss_cons (ps_expr (pe_call Gc hr3 rfl Dc.g Dc.F.kp Dc.b .nil pass0 (pa_cons (pv 0) (pa_cons (pv 1) pa_nil))))
      (pss_one (ps_ret (pe_call Gw hr rfl Dw.g Dw.F.kp Dw.b .nil pass0 (pa_cons (pe_fld (pv 0) rfl) (pa_cons (pe_lock (pe_dc (own := [("box", 2)]) (g := gName 2) (tt := tYes) (tk := tVar 2) (tv := tAndV (tDGet (tFld K (tVar 0) "known") (tVar 2)) (tDGet (tFld K (tVar 1) "known") (tVar 2))) rfl sc_M_and.nd (pi_keys (pe_fld (pv 0) rfl)) (blkOk_by (N := ["self", "other", "box"]) (sc := defScope s_Meaning_and) (by decide +kernel))
        (fun _ _ _ _ _ => pg_name (i := 2) sc_M_and.nd rfl (Or.inl rfl)) (fun _ _ _ _ _ => pts_nil) (fun _ _ _ _ _ => pv 2) (fun _ _ _ _ _ => by exact pe_and (pe_dget hu (pe_fld (pv 0) rfl) (pv 2) (fun _ _ => rfl)) (pe_one (pe_dget hu (pe_fld (pv 1) rfl) (pv 2) (fun _ _ => rfl)))))) pa_nil))))), ?_⟩
    refine ⟨_, rfl, _, rfl, m, m2, t, t2, rs, _, _, _, _, rfl, hm.turns, hm2.turns, ?_⟩
    refine ⟨_, rfl, m, CM, dx, _, _, rfl, h1, M.cl, M.nt, mf_t _ _ _ _, ?_⟩
    refine ⟨k, _, h3, trivial, fun od => ?_⟩
    obtain ⟨Hl, El⟩ : ∃ Hx, Hx = upd H k (.frz od (.dK (kvG rs v))) := ⟨_, rfl⟩
    have lk : Hl k = some (.frz od (.dK (kvG rs v))) := by rw [El]; exact upd_same
    have l1 : Hl m = some (.ins CM dx (mf t u k (v "top"))) := by
      rw [El, upd_ne (fun e => by rw [e, h3] at h1; cases h1)]; exact h1
    have l2 : Hl m2 = some (.ins CM dx2 (mf t2 u2 k2 (w' "top"))) := by
      rw [El, upd_ne (fun e => by rw [e, h3] at g1; cases g1)]; exact g1
    have back : ∀ {H' : Hp}, Same Hl H' → Same H (upd H' k (.dK (kvG rs v))) := fun {H'} sl b o e => by
      by_cases q : b = k
      · rw [q, upd_same, ← e, q]; exact h3.symm
      · rw [upd_ne q]; exact sl _ _ (by rw [El, upd_ne q]; exact e)
    have lk2 : ∃ kv, Rd Hl k2 (.dK kv) ∧ kv = kvG rs w' := by
      by_cases q : k2 = k
      · rw [q] at g3
        rw [h3] at g3
        have e3 := HO.dK.inj (Option.some.inj g3)
        exact ⟨_, by rw [q]; exact .inr ⟨od, lk⟩, e3⟩
      · exact ⟨_, .inl (by rw [El, upd_ne q]; exact g3), rfl⟩
    obtain ⟨kv2, rd2, rfl⟩ := lk2
    rw [← El]
    clear El
    refine ⟨_, rfl, m, CM, dx, _, _, rfl, l1, M.cl, M.nk, mf_k _ _ _ _, k, od, rfl, .inl ⟨_, lk, fun D hD => ?_⟩⟩
    have nD : D ≠ k := (ne_of_none lk hD).symm
    have lp : (plc rs).length ≤ 101 := by unfold plc names; rw [List.length_cons, List.length_map]; omega
    refine dc_walk (walk_keys (d := k) (o := od) (kvs := kvG rs v)) (fun i H' => Same Hl H' ∧ H' D = some (.dK (((plc rs).take i).map fun z => ((.inr z : Key), V.bl ((fun a b => a && b) (v z) (w' z)))))) ⟨Same.new hD, upd_same⟩ (fun i H' _ m => m.1 _ _ lk) ?_ ?_
    · rintro i x H5x H5 hi ⟨s5, hD5⟩ ⟨rfl, k', v', hk, rfl⟩
      obtain ⟨z, rfl, hz⟩ := kvG_at hk
      have hzm := List.mem_of_getElem? hz
      have dg1 : DGet H5 k (.str z) (some (.bl (v z))) := .inl ⟨_, .inr z, .inr ⟨od, s5 _ _ lk⟩, rfl, (valV_kvG v hzm).symm⟩
      have dg2 : DGet H5 k2 (.str z) (some (.bl (w' z))) := .inl ⟨_, .inr z, rd2.imp (s5 _ _) (fun ⟨o, e⟩ => ⟨o, s5 _ _ e⟩), rfl, (valV_kvG w' hzm).symm⟩
      refine ⟨rfl, tYes_if ⟨_, rfl, _, rfl, m, CM, dx, _, _, rfl, s5 _ _ l1, M.cl, M.nk, mf_k _ _ _ _, _, rfl, k, _, rfl, dg1, _, rfl, ?_⟩⟩
      have e9 : ∀ b : Bool, b = (v z && w' z) → (upd H5 D (.dK (putK (((plc rs).take i).map fun z => ((.inr z : Key), V.bl (v z && w' z))) (.inr z) (.bl b)))) D = some (.dK (((plc rs).take (i + 1)).map fun z => ((.inr z : Key), V.bl (v z && w' z)))) := fun b e => by
        rw [upd_same, e, ← kvP_more (plc_nodup hv) (fun z => v z && w' z) hz]
      refine ite2 (fun hc => ?_) (fun hc => ?_)
      · refine ⟨_, rfl, m2, CM, dx2, _, _, rfl, s5 _ _ l2, M.cl, M.nk, mf_k _ _ _ _, _, rfl, k2, _, rfl, dg2, ?_⟩
        refine ⟨_, .inr z, rfl, hD5, small1000 (by rw [List.length_map, List.length_take]; omega), fun b o eb => by
          rw [upd_ne (fun y => by rw [y, hD] at eb; cases eb)]
          exact s5 _ _ eb, e9 _ (by rw [hc]; rfl)⟩
      · have hc' : v z = false := by simpa using hc
        refine ⟨_, .inr z, rfl, hD5, small1000 (by rw [List.length_map, List.length_take]; omega), fun b o eb => by
          rw [upd_ne (fun y => by rw [y, hD] at eb; cases eb)]
          exact s5 _ _ eb, e9 false (by rw [hc']; rfl)⟩
    rintro H5 ⟨s5, hD5⟩
    rw [kvG_len, List.take_length] at hD5
    refine ⟨s5 _ _ lk, ?_⟩
    have bk := back s5
    refine ⟨t, D, rs, fun z => (fun a b => a && b) (v z) (w' z), rfl, hm.turns.tree.same bk, by rw [upd_ne nD]; exact hD5, fun r hr q => ?_, fun m3 H6 s6 hm3 => hq m3 H6 (bk.trans s6) hm3⟩
    show (fun a b => a && b) (v r.nm) (w' r.nm) = (fun a b => a && b) (v r.fo) (w' r.fo)
    rw [hm.lk r hr q, hm2.lk r hr q]
theorem sc_M_or : FnScope ["self", "other", "box"] ["self", "other"] (defScope s_Meaning_or) := ⟨rfl, rfl, rfl, by decide +kernel, rfl, by decide +kernel, by decide +kernel⟩
theorem ok_M_or {f : Addr} {fd : FuncData} (F : Fun K "__or__" "Meaning.__or__" s_Meaning_or f fd) (M : TxM K mg CM) (Dc : DefAt K mg "check_trees" s_check_trees ["one", "other"]) (Gc : FnOk P w K mg base CX0 4 Dc.f Dc.fd ["one", "other"] (spCheckTrees C CM))
    (Dw : DefAt K mg "with_values" s_with_values ["tree", "values"]) (Gw : FnOk P w K mg base CX0 9 Dw.f Dw.fd ["tree", "values"] (spWith C CM)) : FnOk P w K mg base CX0 10 f fd ["self", "other"] (spBin C CM fun a b => a || b) := by
  refine F.ok sc_M_or (fun vs H Q E h => ?_) (fun cdv A outer s H vs Q E hr h => ?_)
  · obtain ⟨m, m2, t, t2, rs, v, w', rfl, _⟩ := h
    rfl
  · obtain ⟨m, m2, t, t2, rs, v, w', rfl, hm, hm2, hq⟩ := h
    have hu := hu_of hr
    have hr3 : Room 4 _ := hr.mono (by decide)
    have hv := hm.valid
    have hl := hm.turns.tree.len
    obtain ⟨dx, u, k, h1, h2, h3⟩ := hm.turns.ex
    obtain ⟨dx2, u2, k2, g1, g2, g3⟩ := hm2.turns.ex
    rw [kvM_kvG hv (val_turnsG hv v)] at h3
    rw [kvM_kvG hv (val_turnsG hv w')] at g3
    refine ⟨_, pss_cons (ps_expr (pe_call Gc hr3 rfl Dc.g Dc.F.kp Dc.b .nil pass0 (pa_cons (pv 0) (pa_cons (pv 1) pa_nil))))
      (pss_one (ps_ret (pe_call Gw hr rfl Dw.g Dw.F.kp Dw.b .nil pass0 (pa_cons (pe_fld (pv 0) rfl) (pa_cons (pe_lock (pe_dc (own := [("box", 2)]) (g := gName 2) (tt := tYes) (tk := tVar 2) (tv := tOrV (tDGet (tFld K (tVar 0) "known") (tVar 2)) (tDGet (tFld K (tVar 1) "known") (tVar 2))) rfl sc_M_or.nd (pi_keys (pe_fld (pv 0) rfl)) (blkOk_by (N := ["self", "other", "box"]) (sc := defScope s_Meaning_or) (by decide +kernel))
        (fun _ _ _ _ _ => pg_name (i := 2) sc_M_or.nd rfl (Or.inl rfl)) (fun _ _ _ _ _ => pts_nil) (fun _ _ _ _ _ => pv 2) (fun _ _ _ _ _ => by exact pe_or (pe_dget hu (pe_fld (pv 0) rfl) (pv 2) (fun _ _ => rfl)) (pe_one (pe_dget hu (pe_fld (pv 1) rfl) (pv 2) (fun _ _ => rfl)))))) pa_nil))))), ?_⟩
    refine ⟨_, rfl, _, rfl, m, m2, t, t2, rs, _, _, _, _, rfl, hm.turns, hm2.turns, ?_⟩
    refine ⟨_, rfl, m, CM, dx, _, _, rfl, h1, M.cl, M.nt, mf_t _ _ _ _, ?_⟩
    refine ⟨k, _, h3, trivial, fun od => ?_⟩
    obtain ⟨Hl, El⟩ : ∃ Hx, Hx = upd H k (.frz od (.dK (kvG rs v))) := ⟨_, rfl⟩
    have lk : Hl k = some (.frz od (.dK (kvG rs v))) := by rw [El]; exact upd_same
    have l1 : Hl m = some (.ins CM dx (mf t u k (v "top"))) := by
      rw [El, upd_ne (fun e => by rw [e, h3] at h1; cases h1)]; exact h1
    have l2 : Hl m2 = some (.ins CM dx2 (mf t2 u2 k2 (w' "top"))) := by
      rw [El, upd_ne (fun e => by rw [e, h3] at g1; cases g1)]; exact g1
    have back : ∀ {H' : Hp}, Same Hl H' → Same H (upd H' k (.dK (kvG rs v))) := fun {H'} sl b o e => by
      by_cases q : b = k
      · rw [q, upd_same, ← e, q]; exact h3.symm
      · rw [upd_ne q]; exact sl _ _ (by rw [El, upd_ne q]; exact e)
    have lk2 : ∃ kv, Rd Hl k2 (.dK kv) ∧ kv = kvG rs w' := by
      by_cases q : k2 = k
      · rw [q] at g3
        rw [h3] at g3
        have e3 := HO.dK.inj (Option.some.inj g3)
        exact ⟨_, by rw [q]; exact .inr ⟨od, lk⟩, e3⟩
      · exact ⟨_, .inl (by rw [El, upd_ne q]; exact g3), rfl⟩
    obtain ⟨kv2, rd2, rfl⟩ := lk2
    rw [← El]
    clear El
    refine ⟨_, rfl, m, CM, dx, _, _, rfl, l1, M.cl, M.nk, mf_k _ _ _ _, k, od, rfl, .inl ⟨_, lk, fun D hD => ?_⟩⟩
    have nD : D ≠ k := (ne_of_none lk hD).symm
    have lp : (plc rs).length ≤ 101 := by unfold plc names; rw [List.length_cons, List.length_map]; omega
    refine dc_walk (walk_keys (d := k) (o := od) (kvs := kvG rs v)) (fun i H' => Same Hl H' ∧ H' D = some (.dK (((plc rs).take i).map fun z => ((.inr z : Key), V.bl ((fun a b => a || b) (v z) (w' z)))))) ⟨Same.new hD, upd_same⟩ (fun i H' _ m => m.1 _ _ lk) ?_ ?_
    · rintro i x H5x H5 hi ⟨s5, hD5⟩ ⟨rfl, k', v', hk, rfl⟩
      obtain ⟨z, rfl, hz⟩ := kvG_at hk
      have hzm := List.mem_of_getElem? hz
      have dg1 : DGet H5 k (.str z) (some (.bl (v z))) := .inl ⟨_, .inr z, .inr ⟨od, s5 _ _ lk⟩, rfl, (valV_kvG v hzm).symm⟩
      have dg2 : DGet H5 k2 (.str z) (some (.bl (w' z))) := .inl ⟨_, .inr z, rd2.imp (s5 _ _) (fun ⟨o, e⟩ => ⟨o, s5 _ _ e⟩), rfl, (valV_kvG w' hzm).symm⟩
      refine ⟨rfl, tYes_if ⟨_, rfl, _, rfl, m, CM, dx, _, _, rfl, s5 _ _ l1, M.cl, M.nk, mf_k _ _ _ _, _, rfl, k, _, rfl, dg1, _, rfl, ?_⟩⟩
      have e9 : ∀ b : Bool, b = (v z || w' z) → (upd H5 D (.dK (putK (((plc rs).take i).map fun z => ((.inr z : Key), V.bl (v z || w' z))) (.inr z) (.bl b)))) D = some (.dK (((plc rs).take (i + 1)).map fun z => ((.inr z : Key), V.bl (v z || w' z)))) := fun b e => by
        rw [upd_same, e, ← kvP_more (plc_nodup hv) (fun z => v z || w' z) hz]
      refine ite2 (fun hc => ?_) (fun hc => ?_)
      · refine ⟨_, .inr z, rfl, hD5, small1000 (by rw [List.length_map, List.length_take]; omega), fun b o eb => by
          rw [upd_ne (fun y => by rw [y, hD] at eb; cases eb)]
          exact s5 _ _ eb, e9 true (by rw [hc]; rfl)⟩
      · have hc' : v z = false := by simpa using hc
        refine ⟨_, rfl, m2, CM, dx2, _, _, rfl, s5 _ _ l2, M.cl, M.nk, mf_k _ _ _ _, _, rfl, k2, _, rfl, dg2, ?_⟩
        refine ⟨_, .inr z, rfl, hD5, small1000 (by rw [List.length_map, List.length_take]; omega), fun b o eb => by
          rw [upd_ne (fun y => by rw [y, hD] at eb; cases eb)]
          exact s5 _ _ eb, e9 _ (by rw [hc']; rfl)⟩
    rintro H5 ⟨s5, hD5⟩
    rw [kvG_len, List.take_length] at hD5
    refine ⟨s5 _ _ lk, ?_⟩
    have bk := back s5
    refine ⟨t, D, rs, fun z => (fun a b => a || b) (v z) (w' z), rfl, hm.turns.tree.same bk, by rw [upd_ne nD]; exact hD5, fun r hr q => ?_, fun m3 H6 s6 hm3 => hq m3 H6 (bk.trans s6) hm3⟩
    show (fun a b => a || b) (v r.nm) (w' r.nm) = (fun a b => a || b) (v r.fo) (w' r.fo)
    rw [hm.lk r hr q, hm2.lk r hr q]
theorem sc_M_sub : FnScope ["self", "other", "box"] ["self", "other"] (defScope s_Meaning_sub) := ⟨rfl, rfl, rfl, by decide +kernel, rfl, by decide +kernel, by decide +kernel⟩
theorem ok_M_sub {f : Addr} {fd : FuncData} (F : Fun K "__sub__" "Meaning.__sub__" s_Meaning_sub f fd) (M : TxM K mg CM) (Dc : DefAt K mg "check_trees" s_check_trees ["one", "other"]) (Gc : FnOk P w K mg base CX0 4 Dc.f Dc.fd ["one", "other"] (spCheckTrees C CM))
    (Dw : DefAt K mg "with_values" s_with_values ["tree", "values"]) (Gw : FnOk P w K mg base CX0 9 Dw.f Dw.fd ["tree", "values"] (spWith C CM)) : FnOk P w K mg base CX0 10 f fd ["self", "other"] (spBin C CM fun a b => a && !b) := by
  refine F.ok sc_M_sub (fun vs H Q E h => ?_) (fun cdv A outer s H vs Q E hr h => ?_)
  · obtain ⟨m, m2, t, t2, rs, v, w', rfl, _⟩ := h
    rfl
  · obtain ⟨m, m2, t, t2, rs, v, w', rfl, hm, hm2, hq⟩ := h
    have hu := hu_of hr
    have hr3 : Room 4 _ := hr.mono (by decide)
    have hv := hm.valid
    have hl := hm.turns.tree.len
    obtain ⟨dx, u, k, h1, h2, h3⟩ := hm.turns.ex
    obtain ⟨dx2, u2, k2, g1, g2, g3⟩ := hm2.turns.ex
    rw [kvM_kvG hv (val_turnsG hv v)] at h3
    rw [kvM_kvG hv (val_turnsG hv w')] at g3
    refine ⟨_, pss_cons (ps_expr (pe_call Gc hr3 rfl Dc.g Dc.F.kp Dc.b .nil pass0 (pa_cons (pv 0) (pa_cons (pv 1) pa_nil))))
      (pss_one (ps_ret (pe_call Gw hr rfl Dw.g Dw.F.kp Dw.b .nil pass0 (pa_cons (pe_fld (pv 0) rfl) (pa_cons (pe_lock (pe_dc (own := [("box", 2)]) (g := gName 2) (tt := tYes) (tk := tVar 2) (tv := tAndV (tDGet (tFld K (tVar 0) "known") (tVar 2)) (tNotV (tDGet (tFld K (tVar 1) "known") (tVar 2)))) rfl sc_M_sub.nd (pi_keys (pe_fld (pv 0) rfl)) (blkOk_by (N := ["self", "other", "box"]) (sc := defScope s_Meaning_sub) (by decide +kernel))
        (fun _ _ _ _ _ => pg_name (i := 2) sc_M_sub.nd rfl (Or.inl rfl)) (fun _ _ _ _ _ => pts_nil) (fun _ _ _ _ _ => pv 2) (fun _ _ _ _ _ => by exact pe_and (pe_dget hu (pe_fld (pv 0) rfl) (pv 2) (fun _ _ => rfl)) (pe_one (pe_not (pe_dget hu (pe_fld (pv 1) rfl) (pv 2) (fun _ _ => rfl))))))) pa_nil))))), ?_⟩
    refine ⟨_, rfl, _, rfl, m, m2, t, t2, rs, _, _, _, _, rfl, hm.turns, hm2.turns, ?_⟩
    refine ⟨_, rfl, m, CM, dx, _, _, rfl, h1, M.cl, M.nt, mf_t _ _ _ _, ?_⟩
    refine ⟨k, _, h3, trivial, fun od => ?_⟩
    obtain ⟨Hl, El⟩ : ∃ Hx, Hx = upd H k (.frz od (.dK (kvG rs v))) := ⟨_, rfl⟩
    have lk : Hl k = some (.frz od (.dK (kvG rs v))) := by rw [El]; exact upd_same
    have l1 : Hl m = some (.ins CM dx (mf t u k (v "top"))) := by
      rw [El, upd_ne (fun e => by rw [e, h3] at h1; cases h1)]; exact h1
    have l2 : Hl m2 = some (.ins CM dx2 (mf t2 u2 k2 (w' "top"))) := by
      rw [El, upd_ne (fun e => by rw [e, h3] at g1; cases g1)]; exact g1
    have back : ∀ {H' : Hp}, Same Hl H' → Same H (upd H' k (.dK (kvG rs v))) := fun {H'} sl b o e => by
      by_cases q : b = k
      · rw [q, upd_same, ← e, q]; exact h3.symm
      · rw [upd_ne q]; exact sl _ _ (by rw [El, upd_ne q]; exact e)
    have lk2 : ∃ kv, Rd Hl k2 (.dK kv) ∧ kv = kvG rs w' := by
      by_cases q : k2 = k
      · rw [q] at g3
        rw [h3] at g3
        have e3 := HO.dK.inj (Option.some.inj g3)
        exact ⟨_, by rw [q]; exact .inr ⟨od, lk⟩, e3⟩
      · exact ⟨_, .inl (by rw [El, upd_ne q]; exact g3), rfl⟩
    obtain ⟨kv2, rd2, rfl⟩ := lk2
    rw [← El]
    clear El
    refine ⟨_, rfl, m, CM, dx, _, _, rfl, l1, M.cl, M.nk, mf_k _ _ _ _, k, od, rfl, .inl ⟨_, lk, fun D hD => ?_⟩⟩
    have nD : D ≠ k := (ne_of_none lk hD).symm
    have lp : (plc rs).length ≤ 101 := by unfold plc names; rw [List.length_cons, List.length_map]; omega
    refine dc_walk (walk_keys (d := k) (o := od) (kvs := kvG rs v)) (fun i H' => Same Hl H' ∧ H' D = some (.dK (((plc rs).take i).map fun z => ((.inr z : Key), V.bl ((fun a b => a && !b) (v z) (w' z)))))) ⟨Same.new hD, upd_same⟩ (fun i H' _ m => m.1 _ _ lk) ?_ ?_
    · rintro i x H5x H5 hi ⟨s5, hD5⟩ ⟨rfl, k', v', hk, rfl⟩
      obtain ⟨z, rfl, hz⟩ := kvG_at hk
      have hzm := List.mem_of_getElem? hz
      have dg1 : DGet H5 k (.str z) (some (.bl (v z))) := .inl ⟨_, .inr z, .inr ⟨od, s5 _ _ lk⟩, rfl, (valV_kvG v hzm).symm⟩
      have dg2 : DGet H5 k2 (.str z) (some (.bl (w' z))) := .inl ⟨_, .inr z, rd2.imp (s5 _ _) (fun ⟨o, e⟩ => ⟨o, s5 _ _ e⟩), rfl, (valV_kvG w' hzm).symm⟩
      refine ⟨rfl, tYes_if ⟨_, rfl, _, rfl, m, CM, dx, _, _, rfl, s5 _ _ l1, M.cl, M.nk, mf_k _ _ _ _, _, rfl, k, _, rfl, dg1, _, rfl, ?_⟩⟩
      have e9 : ∀ b : Bool, b = (v z && !(w' z)) → (upd H5 D (.dK (putK (((plc rs).take i).map fun z => ((.inr z : Key), V.bl (v z && !(w' z)))) (.inr z) (.bl b)))) D = some (.dK (((plc rs).take (i + 1)).map fun z => ((.inr z : Key), V.bl (v z && !(w' z))))) := fun b e => by
        rw [upd_same, e, ← kvP_more (plc_nodup hv) (fun z => v z && !(w' z)) hz]
      refine ite2 (fun hc => ?_) (fun hc => ?_)
      · refine ⟨_, rfl, m2, CM, dx2, _, _, rfl, s5 _ _ l2, M.cl, M.nk, mf_k _ _ _ _, _, rfl, k2, _, rfl, dg2, _, rfl, ?_⟩
        refine ⟨_, .inr z, rfl, hD5, small1000 (by rw [List.length_map, List.length_take]; omega), fun b o eb => by
          rw [upd_ne (fun y => by rw [y, hD] at eb; cases eb)]
          exact s5 _ _ eb, e9 _ (by rw [hc]; rfl)⟩
      · have hc' : v z = false := by simpa using hc
        refine ⟨_, .inr z, rfl, hD5, small1000 (by rw [List.length_map, List.length_take]; omega), fun b o eb => by
          rw [upd_ne (fun y => by rw [y, hD] at eb; cases eb)]
          exact s5 _ _ eb, e9 false (by rw [hc']; rfl)⟩
    rintro H5 ⟨s5, hD5⟩
    rw [kvG_len, List.take_length] at hD5
    refine ⟨s5 _ _ lk, ?_⟩
    have bk := back s5
    refine ⟨t, D, rs, fun z => (fun a b => a && !b) (v z) (w' z), rfl, hm.turns.tree.same bk, by rw [upd_ne nD]; exact hD5, fun r hr q => ?_, fun m3 H6 s6 hm3 => hq m3 H6 (bk.trans s6) hm3⟩
    show (fun a b => a && !b) (v r.nm) (w' r.nm) = (fun a b => a && !b) (v r.fo) (w' r.fo)
    rw [hm.lk r hr q, hm2.lk r hr q]
theorem sc_M_invert : FnScope ["self"] ["self"] (defScope s_Meaning_invert) := ⟨rfl, rfl, rfl, by decide +kernel, rfl, by decide +kernel, by decide +kernel⟩
theorem ok_M_invert {fM f : Addr} {fdM fd : FuncData} (F : Fun K "__invert__" "Meaning.__invert__" s_Meaning_invert f fd) (M : TxM K mg CM)
    (MM : Mk K CM fM) (bM : Binds K fdM ["self", "tree", "default", "turns"] []) (GM : FnOk P w K mg base CX0 7 fM fdM ["self", "tree", "default", "turns"] (spMeaningInit K C CM)) : FnOk P w K mg base CX0 9 f fd ["self"] (spInv C CM) := by
  refine F.ok sc_M_invert (fun vs H Q E h => ?_) (fun cdv A outer s H vs Q E hr h => ?_)
  · obtain ⟨m, t, rs, v, rfl, _⟩ := h
    rfl
  · obtain ⟨m, t, rs, v, rfl, hm, hq⟩ := h
    have hv := hm.valid
    obtain ⟨dx, u, k, h1, h2, h3⟩ := hm.turns.ex
    refine ⟨_, pss_one (ps_ret (pe_make MM GM hr rfl M.g bM .nil pass0 (pa_cons (pe_fld (pv 0) rfl) (pa_cons (pe_not (pe_fld (pv 0) rfl)) (pa_cons (pe_fld (pv 0) rfl) pa_nil))))), ?_⟩
    refine ⟨_, rfl, m, CM, dx, _, _, rfl, h1, M.cl, M.nt, mf_t _ _ _ _, _, rfl, m, CM, dx, _, _, rfl, h1, M.cl, M.nd, mf_d _ _ _ _, _, rfl, _, rfl, m, CM, dx, _, _, rfl, h1, M.cl, M.nu, mf_u _ _ _ _, ?_⟩
    refine fun m3 dm nm nd _ => ⟨m3, dm, t, u, !(v "top"), turnsG rs v, rs, rfl, upd_same, hm.turns.tree.same (mk_same0 nm nd), SqX.same (.inr (sqT h2)) (mk_same0 nm nd), hm.free, fun H4 sb4 hm4 => ⟨rfl, ?_⟩⟩
    rw [turnsL_sub hv (turnsG_sub rs v)] at hm4
    refine hq m3 H4 (mk_same nm nd sb4) ⟨⟨_, _, hm4, fun z hz => ?_⟩, fun r hr q => ?_⟩
    · show turned (!(v "top")) (turnsG rs v) (wayOf rs z) = !(v z)
      rw [turned_not, ← val_turnsG hv v z hz]
      rfl
    · show (!(v r.nm)) = !(v r.fo)
      rw [hm.lk r hr q]
end
end Ts

set_option maxRecDepth 100000
set_option maxHeartbeats 4000000
namespace Ts
open PySem L2
section
variable {P : Program} {w : World} {K : PySem.W.Frag} {mg : Str → Option Value} {base : Heap} {CC : Addr}
theorem sc_NoBox_init : FnScope ["self", "box"] ["self", "box"] (defScope s_NoBox_init) := ⟨rfl, rfl, rfl, by decide +kernel, rfl, by decide +kernel, by decide +kernel⟩
theorem ok_NoBox_init {f : Addr} {fd : FuncData} (F : Fun K "__init__" "NoBox.__init__" s_NoBox_init f fd) (O : OexC K CC) (nb : PySem.W.findIn K (.ref CC) "box" = some none) : FnOk P w K mg base CX0 2 f fd ["self", "box"] (spErr1 CC "box") := by
  refine F.ok sc_NoBox_init (fun vs H Q E h => ?_) (fun cdv A outer s H vs Q E hr h => ?_)
  · obtain ⟨a, x, rfl, _⟩ := h
    rfl
  · obtain ⟨a, x, rfl, ha, hq⟩ := h
    refine ⟨_, pss_one (ps_ost (pv 0) (pv 1)), ?_⟩
    exact ⟨_, rfl, _, rfl, a, CC, rfl, O, nb, .inl ⟨ha, fun d hd ne => hq d hd ne⟩⟩
end
end Ts

set_option maxRecDepth 100000
set_option maxHeartbeats 4000000
namespace Ts
open PySem L2
/-! ### what is told of the ends -/
theorem iteT' {c : Bool} {A B : Prop} (h : c = true) (a : A) : if c = true then A else B := by rw [h]; exact a
def dfV (d : Option Bool) : V := match d with
  | none => .non
  | some b => .bl b
theorem kvE_at {es : Wsh} {i : Nat} {kv : Key × V} (h : (kvE es)[i]? = some kv) : ∃ e, kv = (.inr e.1, .bl e.2) ∧ es[i]? = some e := by
  unfold kvE at h
  rw [List.getElem?_map] at h
  obtain ⟨e, he, x⟩ := Option.map_eq_some_iff.mp h
  exact ⟨e, x.symm, he⟩
theorem kvE_len (es : Wsh) : (kvE es).length = es.length := List.length_map ..
/-- a dict of truths that is locked is none of a tree's -/
theorem TreeAt.lockE {C : Addr} {H : Hp} {t d : Addr} {rs : List Row} {es : Wsh} {o : HO} (h : TreeAt C H t rs) (hd : H d = some (.dK (kvE es))) (hl : es ≠ []) : TreeAt C (upd H d o) t rs := by
  obtain ⟨dx, q, f, k, p, qs, h1, h2, h3, h4, h5, h6⟩ := h.ex
  have n1 : ∀ {b : Addr} {u : HO}, H b = some u → (∀ m, u ≠ .dK m) → b ≠ d := fun {b u} hb hu q => by
    rw [q, hd] at hb
    exact hu _ (Option.some.inj hb).symm
  have n2 : ∀ {b : Addr} (g : Row → V), H b = some (.dK (kvF g rs)) → (∀ r x, g r ≠ V.bl x) → b ≠ d := fun {b} g hb hg q => by
    rw [q, hd] at hb
    have e := HO.dK.inj (Option.some.inj hb)
    cases es with
    | nil => exact hl rfl
    | cons z L =>
      cases rs with
      | nil => cases e
      | cons r rs =>
        have e2 := congrArg (fun l => l.head?) e
        have e3 := (Prod.mk.inj (Option.some.inj e2)).2
        exact hg r _ e3.symm
  have np : ∀ (r : Row) (x : Bool), prV r.pr ≠ V.bl x := fun r x => by cases r.pr <;> exact fun e => nomatch e
  exact ⟨⟨dx, q, f, k, p, qs, by rw [upd_ne (n1 h1 (fun _ e => nomatch e))]; exact h1, by rw [upd_ne (n1 h2 (fun _ e => nomatch e))]; exact h2, ⟨h3.len, fun i b r hb hr => by rw [upd_ne (n1 (h3.at_ i b r hb hr) (fun _ e => nomatch e))]; exact h3.at_ i b r hb hr⟩, by rw [upd_ne (n2 _ h4 (fun _ _ e => nomatch e))]; exact h4, by rw [upd_ne (n2 _ h5 (fun _ _ e => nomatch e))]; exact h5, by rw [upd_ne (n2 _ h6 np)]; exact h6⟩, h.val, h.len⟩
def spCheckWish (C : Addr) : Sp := fun vs H Q _ => ∃ (t wd : Addr) (rs : List Row) (es : Wsh), vs = [.ref t, .ref wd] ∧ TreeAt C H t rs ∧ H wd = some (.dK (kvE es)) ∧ EndsOk rs es ∧ ∀ H', Same H H' → Q .non H'
def spEndsOf (C : Addr) : Sp := fun vs H Q _ => ∃ (t wd : Addr) (rs : List Row) (es : Wsh) (d : Option Bool), vs = [.ref t, .ref wd, dfV d] ∧ TreeAt C H t rs ∧ H wd = some (.dK (kvE es)) ∧ EndsOk rs es ∧ es.length ≤ 150 ∧
  ∀ D H', H D = none → Same H H' → H' D = some (.dK (kvE (topE d es))) → Q (.ref D) H'
def spAbove (C : Addr) : Sp := fun vs H Q _ => ∃ (t : Addr) (z : Str) (rs : List Row), vs = [.ref t, .str z] ∧ TreeAt C H t rs ∧ z ∈ plc rs ∧ Q (.str (lockR rs z)) H
/-- two ends of unlike values with locked steps alone between -/
def BarE (rs : List Row) (es : Wsh) (x y : Str) : Prop := (x, true) ∈ es ∧ (y, false) ∈ es ∧ lockR rs x = lockR rs y
def spBarred (C CB : Addr) : Sp := fun vs H Q E => ∃ (t ed : Addr) (rs : List Row) (es : Wsh), vs = [.ref t, .ref ed] ∧ TreeAt C H t rs ∧ H ed = some (.dK (kvE es)) ∧ EndsOk rs es ∧
  (OpenE rs es → ∀ H', Same H H' → Q .non H') ∧ ∀ x y, BarE rs es x y → ∀ d H', H d = none → SB ed H H' → H' d = some (.xd [("other", .str y), ("one", .str x)]) → E (.ref CB) (some d) H'
/-- what a wish with a default is barred by -/
def BarW (rs : List Row) (es : Wsh) (d : Option Bool) (x y : Str) : Prop := (x = ("top" : Str) ∧ y = ("top" : Str) ∧ ∃ b, endO es "top" = some b ∧ d = some (!b)) ∨ ((∀ b, endO es "top" = some b → d ≠ some (!b)) ∧ BarE rs (topE d es) x y)
def OkW (rs : List Row) (es : Wsh) (d : Option Bool) : Prop := (∀ b, endO es "top" = some b → d ≠ some (!b)) ∧ OpenE rs (topE d es)
def spOpenEnds (C CB : Addr) : Sp := fun vs H Q E => ∃ (t wd : Addr) (rs : List Row) (es : Wsh) (d : Option Bool), vs = [.ref t, .ref wd, dfV d] ∧ TreeAt C H t rs ∧ H wd = some (.dK (kvE es)) ∧ EndsOk rs es ∧ es.length ≤ 150 ∧
  (OkW rs es d → ∀ D H', H D = none → Same H H' → H' D = some (.dK (kvE (topE d es))) → Q (.ref D) H') ∧ ∀ x y, BarW rs es d x y → ∀ e H', H e = none → Same H H' → H' e = some (.xd [("other", .str y), ("one", .str x)]) → E (.ref CB) (some e) H'
def firstE (rs : List Row) (l : Wsh) (ρ : Str) : Option (Str × Bool) := l.find? fun e => decide (lockR rs e.1 = ρ)
theorem firstE_snoc (rs : List Row) (l : Wsh) (e : Str × Bool) (ρ : Str) : firstE rs (l ++ [e]) ρ = (firstE rs l ρ).or (if lockR rs e.1 = ρ then some e else none) := by
  unfold firstE
  rw [List.find?_append]
  congr 1
  rw [List.find?_cons]
  by_cases q : lockR rs e.1 = ρ
  · rw [decide_eq_true q, if_pos q]
  · rw [decide_eq_false q, if_neg q]; rfl
section
variable {P : Program} {w : World} {K : PySem.W.Frag} {mg : Str → Option Value} {base : Heap} {C CB : Addr}
abbrev nCW : List Str := ["tree", "wish", "place", "value"]
theorem sc_check_wish : FnScope nCW ["tree", "wish"] (defScope s_check_wish) := ⟨rfl, rfl, rfl, by decide +kernel, rfl, by decide +kernel, by decide +kernel⟩
theorem ok_check_wish (D : DefAt K mg "check_wish" s_check_wish ["tree", "wish"]) (B : TxB mg) (Di : DefAt K mg "is_place" s_is_place ["tree", "thing"]) (Gi : FnOk P w K mg base CX0 3 Di.f Di.fd ["tree", "thing"] (spIsPlace C)) : FnOk P w K mg base CX0 4 D.f D.fd ["tree", "wish"] (spCheckWish C) := by
  refine D.F.ok sc_check_wish (fun vs H Q E h => ?_) (fun cdv A outer s H vs Q E hr h => ?_)
  · obtain ⟨t, wd, rs, es, rfl, _⟩ := h
    rfl
  · obtain ⟨t, wd, rs, es, rfl, ht, hd, hok, hq⟩ := h
    refine ⟨_, pss_one (ps_lock (ps_for PassesOwn.never rfl (pi_items (pv 1)) (pg_tup rfl (pgs_cons (pg_name (i := 2) sc_check_wish.nd rfl (.inl rfl)) (pgs_cons (pg_name (i := 3) sc_check_wish.nd rfl (.inl rfl)) pgs_nil)))
        (pss_one (ps_if (PW.pt (pw_or (pt_not (pt_val (pe_call Gi hr rfl Di.g Di.F.kp Di.b .nil pass0 (pa_cons (pv 0) (pa_cons (pv 2) pa_nil))))) (pw_or1 (pt_not (pt_val (pe_callB call_isi (by rfl) B.isinstance (by decide +kernel) (pa_cons (pv 3) (pa_cons (pe_bltn (by rfl) B.bool (by decide +kernel) (v := .ty "bool") rfl) pa_nil)))))))) (pss_one ps_never) pss_nil)))), ?_⟩
    refine ⟨wd, _, hd, trivial, fun od => ?_⟩
    obtain ⟨Hl, El⟩ : ∃ Hx, Hx = upd H wd (.frz od (.dK (kvE es))) := ⟨_, rfl⟩
    have lk : Hl wd = some (.frz od (.dK (kvE es))) := by rw [El]; exact upd_same
    have back : ∀ H', Same Hl H' → Same H (upd H' wd (.dK (kvE es))) := fun H' s b o e => by
      by_cases q : b = wd
      · rw [q, upd_same, ← e, q]; exact hd.symm
      · rw [upd_ne q]; exact s _ _ (by rw [El, upd_ne q]; exact e)
    have tl : es ≠ [] → TreeAt C Hl t rs := fun h => by rw [El]; exact ht.lockE hd h
    rw [← El]
    clear El
    refine ⟨_, rfl, wd, od, _, rfl, lk, ?_⟩
    refine for_it (walk_items (d := wd) (o := od) (kvs := kvE es)) (fun i σ H' => ∃ v1 v2 : Option V, σ = [some (.ref t), some (.ref wd), v1, v2] ∧ Same Hl H') ⟨none, none, rfl, Same.refl _⟩ (fun i σ H' _ ⟨_, _, _, s⟩ => s _ _ lk) ?_ ?_
    · rintro i x σ H2 H3 hi ⟨v1, v2, rfl, s2⟩ ⟨Tq, kx, vx, rfl, hT, rfl, hkx, hvx⟩
      rw [Option.map_eq_some_iff] at hkx hvx
      obtain ⟨⟨k', v'⟩, hk, rfl⟩ := hkx
      obtain ⟨⟨k'', v''⟩, hk2, rfl⟩ := hvx
      rw [hk] at hk2
      cases Option.some.inj hk2
      obtain ⟨e, ee, he⟩ := kvE_at hk
      cases ee
      have hem := List.mem_of_getElem? he
      have sT : Same H2 (upd H2 Tq (.tup [V.str e.1, V.bl e.2])) := Same.new hT
      have eT : (upd H2 Tq (.tup [V.str e.1, V.bl e.2])) Tq = some (.tup [V.str e.1, V.bl e.2]) := upd_same
      show gTup K 2 _ _ _ (upd H2 Tq (.tup [V.str e.1, V.bl e.2])) _
      generalize upd H2 Tq (.tup [V.str e.1, V.bl e.2]) = H4 at sT eT
      have s4 := s2.trans sT
      have ht4 := (tl (fun x => by rw [x] at hem; cases hem)).same s4
      refine ⟨Tq, _, rfl, sqT eT, rfl, _, _, rfl, _, _, rfl, rfl, ?_⟩
      refine ⟨_, rfl, _, rfl, t, e.1, rs, rfl, ht4, _, rfl, ?_⟩
      rw [decide_eq_true (mem_plc.mp (hok.inp e hem))]
      refine iteF ⟨_, rfl, _, _, _, _, true, rfl, .ty "bool", .base (.bl e.2), kit_ty (by decide +kernel), _, rfl, iteF ⟨_, _, rfl, s4⟩⟩
    · rintro σ H2 ⟨v1, v2, rfl, s2⟩
      exact ⟨s2 _ _ lk, hq _ (back _ s2)⟩
abbrev nEO : List Str := ["tree", "wish", "default", "ends"]
theorem sc_ends_of : FnScope nEO ["tree", "wish", "default"] (defScope s_ends_of) := ⟨rfl, rfl, rfl, by decide +kernel, rfl, by decide +kernel, by decide +kernel⟩
theorem ok_ends_of (D : DefAt K mg "ends_of" s_ends_of ["tree", "wish", "default"]) (B : TxB mg) (TC : TxC K mg) (Dw : DefAt K mg "check_wish" s_check_wish ["tree", "wish"]) (Gw : FnOk P w K mg base CX0 4 Dw.f Dw.fd ["tree", "wish"] (spCheckWish C)) : FnOk P w K mg base CX0 5 D.f D.fd ["tree", "wish", "default"] (spEndsOf C) := by
  obtain ⟨t1, gT⟩ := TC.top
  refine D.F.ok sc_ends_of (fun vs H Q E h => ?_) (fun cdv A outer s H vs Q E hr h => ?_)
  · obtain ⟨t, wd, rs, es, d, rfl, _⟩ := h
    rfl
  · obtain ⟨t, wd, rs, es, d, rfl, ht, hd, hok, hl, hq⟩ := h
    have hu := hu_of hr
    refine ⟨_, pss_cons (ps_expr (pe_call Gw hr rfl Dw.g Dw.F.kp Dw.b .nil pass0 (pa_cons (pv 0) (pa_cons (pv 1) pa_nil))))
      (pss_cons (ps_if (PW.pt (pw_and (pt_cmpR op_notN (pv 2) pe_non (nomark _)) (pw_and1 (pt_not (pt_val (pe_callB call_isi (by rfl) B.isinstance (by decide +kernel) (pa_cons (pv 2) (pa_cons (pe_bltn (by rfl) B.bool (by decide +kernel) (v := .ty "bool") rfl) pa_nil)))))))) (pss_one ps_never) pss_nil)
      (pss_cons (ps_set (i := 3) sc_ends_of.nd rfl (.inl rfl) (pe_callTy (T := "dict") call_dictD (by rfl) B.dict (by decide +kernel) (pa_cons (pv 1) pa_nil)))
      (pss_cons (ps_if (pt_cmpR op_notN (pv 2) pe_non (nomark _)) (pss_one (ps_dput hu (pv 3) (pe_glob (by rfl) gT (v := .str ("top" : Str)) ⟨_, rfl⟩) (pv 2) rfl)) pss_nil)
      (pss_one (ps_ret (pv 3)))))), ?_⟩
    refine ⟨_, rfl, _, rfl, t, wd, rs, es, rfl, ht, hd, hok, fun H1 s1 => ?_⟩
    have e1 := s1 _ _ hd
    cases d with
    | none =>
      refine ⟨_, rfl, rfl, _, rfl, iteF' (by rfl) (iteF ?_)⟩
      refine ⟨_, rfl, wd, _, rfl, .inl e1, fun D hD => ?_⟩
      refine ⟨_, rfl, rfl, _, rfl, iteF' (by rfl) ?_⟩
      exact ⟨_, rfl, hq D _ (s1.free hD) (s1.trans (Same.new hD)) upd_same⟩
    | some b =>
      refine ⟨_, rfl, rfl, _, rfl, iteT' (by rfl) ?_⟩
      refine ⟨_, rfl, _, _, _, _, true, rfl, .ty "bool", .base (.bl b), kit_ty (by decide +kernel), _, rfl, iteF ?_⟩
      refine ⟨_, rfl, wd, _, rfl, .inl e1, fun D hD => ?_⟩
      refine ⟨_, rfl, rfl, _, rfl, iteT' (by rfl) ?_⟩
      have nD : H D = none := s1.free hD
      refine ⟨_, rfl, _, rfl, D, _, rfl, DPut.k (k := Sum.inr ("top" : Str)) upd_same (by rw [kvE_len]; exact small1000 (by omega)), ?_⟩
      refine ⟨_, rfl, hq D _ nD (fun y o ey => ?_) ?_⟩
      · rw [upd_ne (ne_of_none ey nD), upd_ne (ne_of_none ey nD)]
        exact s1 _ _ ey
      · rw [upd_same]
        exact congrArg (fun z => some (HO.dK z)) (kvE_put es "top" b)
end
end Ts

set_option maxRecDepth 100000
set_option maxHeartbeats 4000000
namespace Ts
open PySem L2
/-! ### an own error with two fields -/
def spErr2 (CC : Addr) (f1 f2 : Str) : Sp := fun vs H Q _ => ∃ (a : Addr) (x y : V), vs = [.ref a, x, y] ∧ H a = some (exo a CC none) ∧ ∀ d, H d = none → d ≠ a → Q .non (upd (upd (upd H d (exd d [(f1, x)])) a (exo a CC (some d))) d (exd d [(f2, y), (f1, x)]))
theorem rd_err2 {CC : Addr} {f1 f2 : Str} {H1 : Hp} {x y : V} {Q : XK} (k : ∀ d, H1 d = none → Q (.ref CC) (some d) (upd H1 d (.xd [(f2, y), (f1, x)]))) : ([x, y] : List V).length ≤ 1000 ∧ ∀ a, H1 a = none → spErr2 CC f1 f2 (.ref a :: ([x, y] ++ [])) (upd H1 a (exo a CC none)) (fun v H2 => v = .non ∧ ∃ (d : Addr) (fs : List (Str × V)), H2 a = some (exo a CC (some d)) ∧ H2 d = some (exd d fs) ∧ H1 d = none ∧ Q (.ref CC) (some d) (upd (del H2 a) d (.xd fs))) (fun _ _ _ => False) := by
  refine ⟨(by show 2 ≤ 1000; decide), fun a ha => ⟨a, x, y, rfl, upd_same, fun d hd ne => ⟨rfl, d, [(f2, y), (f1, x)], by rw [upd_ne ne.symm]; exact upd_same, upd_same, by rw [upd_ne ne] at hd; exact hd, ?_⟩⟩⟩
  have hd1 : H1 d = none := by rw [upd_ne ne] at hd; exact hd
  have e : upd (del (upd (upd (upd (upd H1 a (exo a CC none)) d (exd d [(f1, x)])) a (exo a CC (some d))) d (exd d [(f2, y), (f1, x)])) a) d (.xd [(f2, y), (f1, x)]) = upd H1 d (.xd [(f2, y), (f1, x)]) := by
    funext b
    by_cases q : b = d
    · rw [q, upd_same, upd_same]
    · rw [upd_ne q, upd_ne q]
      unfold del
      by_cases r : b = a
      · rw [if_pos r, r]; exact ha.symm
      · rw [if_neg r, upd_ne q, upd_ne r, upd_ne q, upd_ne r]
  rw [e]
  exact k d hd1
section
variable {P : Program} {w : World} {K : PySem.W.Frag} {mg : Str → Option Value} {base : Heap} {CC : Addr}
theorem sc_Barred_init : FnScope ["self", "one", "other"] ["self", "one", "other"] (defScope s_Barred_init) := ⟨rfl, rfl, rfl, by decide +kernel, rfl, by decide +kernel, by decide +kernel⟩
theorem ok_Barred_init {f : Addr} {fd : FuncData} (F : Fun K "__init__" "Barred.__init__" s_Barred_init f fd) (O : OexC K CC) (nb : PySem.W.findIn K (.ref CC) "one" = some none) (ni : PySem.W.findIn K (.ref CC) "other" = some none) : FnOk P w K mg base CX0 2 f fd ["self", "one", "other"] (spErr2 CC "one" "other") := by
  refine F.ok sc_Barred_init (fun vs H Q E h => ?_) (fun cdv A outer s H vs Q E hr h => ?_)
  · obtain ⟨a, x, y, rfl, _⟩ := h
    rfl
  · obtain ⟨a, x, y, rfl, ha, hq⟩ := h
    refine ⟨_, pss_cons (ps_ost (pv 0) (pv 1)) (pss_one (ps_ost (pv 0) (pv 2))), ?_⟩
    refine ⟨_, rfl, _, rfl, a, CC, rfl, O, nb, .inl ⟨ha, fun d hd ne => ?_⟩⟩
    exact ⟨_, rfl, _, rfl, a, CC, rfl, O, ni, .inr ⟨d, _, upd_same, by rw [upd_ne ne]; exact upd_same, (by show 1 ≤ 900; decide), hq d hd ne⟩⟩
end
section
variable {P : Program} {w : World} {K : PySem.W.Frag} {mg : Str → Option Value} {base : Heap} {C CB : Addr}
abbrev nAL : List Str := ["tree", "place"]
theorem sc_above : FnScope nAL ["tree", "place"] (defScope s_above_locked) := ⟨rfl, rfl, rfl, by decide +kernel, rfl, by decide +kernel, by decide +kernel⟩
def muAbove (rs : List Row) : List (Option V) → Hp → Nat
  | [_, some (.str z)], _ => (wayOf rs z).length
  | _, _ => 0
theorem ok_above (D : DefAt K mg "above_locked" s_above_locked ["tree", "place"]) (TC : TxC K mg) (T : TxT K mg C)
    (mP : MethAt K C "price" "Tree.price" s_Tree_price ["self", "box"]) (GP : FnOk P w K mg base CX0 4 mP.f mP.fd ["self", "box"] (spGet C fun r => prV r.pr))
    (mF : MethAt K C "folder" "Tree.folder" s_Tree_folder ["self", "box"]) (GF : FnOk P w K mg base CX0 4 mF.f mF.fd ["self", "box"] (spGet C fun r => .str r.fo)) : FnOk P w K mg base CX0 5 D.f D.fd ["tree", "place"] (spAbove C) := by
  obtain ⟨t1, gT⟩ := TC.top
  refine D.F.ok sc_above (fun vs H Q E h => ?_) (fun cdv A outer s H vs Q E hr h => ?_)
  · obtain ⟨t, z, rs, rfl, _⟩ := h
    rfl
  · obtain ⟨t, z, rs, rfl, ht, hz, hq⟩ := h
    have hv := ht.val
    refine ⟨_, pss_cons (ps_while PassesOwn.never (PW.pt (pw_and (pt_cmpR op_ne (pv 1) (pe_glob (by rfl) gT (v := .str ("top" : Str)) ⟨_, rfl⟩) (nomark _)) (pw_and1 (pt_cmpR op_isN (pe_meth (pv 0) T.cl mP.m GP hr mP.b .nil pass0 (pa_cons (pv 1) pa_nil)) pe_non (nomark _)))))
        (pss_one (ps_set (i := 1) sc_above.nd rfl (.inl rfl) (pe_meth (pv 0) T.cl mF.m GF hr mF.b .nil pass0 (pa_cons (pv 1) pa_nil)))))
      (pss_one (ps_ret (pv 1))), ?_⟩
    obtain ⟨dx, q, f, k, p, qs, h1, _⟩ := id ht.ex
    have noP : (tf q f k p).lookup ("price" : Str) = none := tf_no _ _ _ _ (by decide +kernel) (by decide +kernel) (by decide +kernel) (by decide +kernel)
    have noF : (tf q f k p).lookup ("folder" : Str) = none := tf_no _ _ _ _ (by decide +kernel) (by decide +kernel) (by decide +kernel) (by decide +kernel)
    refine while_by (fun σ H' => ∃ z' : Str, σ = [some (.ref t), some (.str z')] ∧ z' ∈ plc rs ∧ H' = H ∧ lockR rs z' = lockR rs z) (muAbove rs) ⟨z, rfl, hz, rfl, rfl⟩ ?_ (fun σ H Q Q' hQ h => ?_)
    · rintro σ H1 ⟨z', rfl, hz', rfl, el⟩
      refine ⟨_, rfl, rfl, _, rfl, ?_⟩
      rcases mem_plc.mp hz' with rfl | hin
      · refine iteF' (by simp) (iteF ?_)
        refine ⟨_, rfl, ?_⟩
        rw [← el, lockR_top hv] at hq
        exact hq
      · have hn : z' ≠ ("top" : Str) := fun e => top_not hv (by rw [← e]; exact hin)
        obtain ⟨r, e1, hrm, rfl⟩ := rowOf_some hin
        refine iteT' (by rw [decide_eq_false (fun e => hn (V.str.inj e))]; rfl) ?_
        refine ⟨_, rfl, t, dx, _, rfl, h1, noP, _, rfl, t, r.nm, rs, r, rfl, ht, e1, rfl, _, rfl, ?_⟩
        by_cases c : r.pr = none
        · refine iteT' (decide_eq_true (show prV r.pr = V.non by rw [c]; rfl)) ?_
          refine ⟨_, rfl, t, dx, _, rfl, h1, noF, _, rfl, t, r.nm, rs, r, rfl, ht, e1, ?_⟩
          refine ⟨⟨r.fo, rfl, fo_plc hv hrm, rfl, ?_⟩, ?_⟩
          · rw [← el, lockR_row hv hrm, if_pos c]
          · show (wayOf rs r.fo).length < (wayOf rs r.nm).length
            rw [way_step hv hrm, List.length_append]
            exact Nat.lt_succ_self _
        · refine iteF' (decide_eq_false fun e => c (by
            have e : prV r.pr = V.non := e
            cases e2 : r.pr with
            | none => rfl
            | some i => rw [e2] at e; cases e)) ?_
          refine ⟨_, rfl, ?_⟩
          rw [← el, lockR_row hv hrm, if_neg c] at hq
          exact hq
    · obtain ⟨v, e, sc, k, e2, q⟩ := h
      refine ⟨v, e, sc, k, e2, ?_⟩
      cases k with
      | false => exact hQ _ _ q
      | true =>
        obtain ⟨a1, a2, a3, a4, a5, a6, a7, a8, a9, a10, b1, b2, b3, b4, b5, b6, b7, b8, b9, b10, r⟩ := q
        exact ⟨a1, a2, a3, a4, a5, a6, a7, a8, a9, a10, b1, b2, b3, b4, b5, b6, b7, b8, b9, b10, hQ _ _ r⟩
end
end Ts

set_option maxRecDepth 100000
set_option maxHeartbeats 4000000
namespace Ts
open PySem L2
section
variable {P : Program} {w : World} {K : PySem.W.Frag} {mg : Str → Option Value} {base : Heap} {C CB : Addr}
abbrev nBa : List Str := ["tree", "ends", "firsts", "place", "value", "first", "one", "other"]
theorem sc_barred : FnScope nBa ["tree", "ends"] (defScope s_check_barred) := ⟨rfl, rfl, rfl, by decide +kernel, rfl, by decide +kernel, by decide +kernel⟩
theorem ok_barred {fB : Addr} {fdB : FuncData} (D : DefAt K mg "check_barred" s_check_barred ["tree", "ends"]) (Da : DefAt K mg "above_locked" s_above_locked ["tree", "place"]) (Ga : FnOk P w K mg base CX0 5 Da.f Da.fd ["tree", "place"] (spAbove C))
    (TB : ErrT K mg CB "Barred" "one") (iB : PySem.W.findIn K (.ref CB) "__init__" = some (some (.ref fB))) (tB : PySem.W.typeIn K (.ref fB) = some (.type "function")) (GB : FnOk P w K mg base CX0 2 fB fdB ["self", "one", "other"] (spErr2 CB "one" "other")) (bB : Binds K fdB ["self", "one", "other"] []) :
    FnOk P w K mg base (L2.CX P w) 6 D.f D.fd ["tree", "ends"] (spBarred C CB) := by
  refine D.F.okX sc_barred (fun vs H Q E h => ?_) (fun cdv A outer s H vs Q E hr h => ?_)
  · obtain ⟨t, ed, rs, es, rfl, _⟩ := h
    rfl
  · obtain ⟨t, ed, rs, es, rfl, ht, hd, hok, hq, hE⟩ := h
    have hu := hu_of hr
    have r3 : Room 3 _ := hr.mono (by decide)
    refine ⟨_, pss_cons (ps_set (i := 2) sc_barred.nd rfl (.inl rfl) pe_dnewK)
      (pss_one (ps_lock (ps_for PassesOwn.leaving rfl (pi_items (pv 1)) (pg_tup rfl (pgs_cons (pg_name (i := 3) sc_barred.nd rfl (.inl rfl)) (pgs_cons (pg_name (i := 4) sc_barred.nd rfl (.inl rfl)) pgs_nil)))
        (pss_cons (ps_set (i := 5) sc_barred.nd rfl (.inl rfl) (pe_dsetd (pv 2) (pe_call Ga hr rfl Da.g Da.F.kp Da.b .nil pass0 (pa_cons (pv 0) (pa_cons (pv 3) pa_nil))) (pv 3) ⟨rfl, rfl, rfl, rfl⟩))
        (pss_one (ps_if (pt_cmpR op_ne (pe_dget hu (pv 1) (pv 5) (fun _ _ => rfl)) (pv 4) (nomark _))
          (pss_cons (ps_asg (pe_ifExp (pt_val (pv 4)) (pe_tup (pa_cons (pv 3) (pa_cons (pv 5) pa_nil))) (pe_tup (pa_cons (pv 5) (pa_cons (pv 3) pa_nil)))) (pg_tup rfl (pgs_cons (pg_name (i := 6) sc_barred.nd rfl (.inl rfl)) (pgs_cons (pg_name (i := 7) sc_barred.nd rfl (.inl rfl)) pgs_nil))))
          (pss_one (ps_raise rfl (takes_of rfl rfl rfl rfl) (pmk_oex TB.O iB tB GB r3 bB .nil pass0 rfl TB.g (by exact pa_cons (pv 6) (pa_cons (pv 7) pa_nil)))))) pss_nil)))))), ?_⟩
    refine fun fd hfd => ?_
    have nfe : ed ≠ fd := ne_of_none hd hfd
    refine ⟨ed, .dK (kvE es), by rw [upd_ne nfe]; exact hd, trivial, fun od => ?_⟩
    obtain ⟨Hk, Ek⟩ : ∃ Hx, Hx = upd H ed (.frz od (.dK (kvE es))) := ⟨_, rfl⟩
    obtain ⟨Hl, El⟩ : ∃ Hx, Hx = upd (upd H fd (.dK [])) ed (.frz od (.dK (kvE es))) := ⟨_, rfl⟩
    have lk : Hk ed = some (.frz od (.dK (kvE es))) := by rw [Ek]; exact upd_same
    have nk : Hk fd = none := by rw [Ek, upd_ne nfe.symm]; exact hfd
    have lf : Hl fd = some (.dK []) := by rw [El, upd_ne nfe.symm]; exact upd_same
    have skl : Same Hk Hl := fun b o e => by
      rw [El]
      rw [Ek] at e
      by_cases q : b = ed
      · rw [q, upd_same]; rw [q, upd_same] at e; exact e
      · rw [upd_ne q] at e ⊢
        rw [upd_ne (ne_of_none e hfd)]; exact e
    have up : ∀ b o, H b = some o → b ≠ ed → Hk b = some o := fun b o e n => by rw [Ek, upd_ne n]; exact e
    have upN : ∀ b, Hk b = none → H b = none := fun b e => by
      by_cases q : b = ed
      · rw [q, lk] at e; cases e
      · rw [Ek, upd_ne q] at e; exact e
    have tl : es ≠ [] → TreeAt C Hk t rs := fun h => by rw [Ek]; exact ht.lockE hd h
    rw [← El]
    clear El Ek
    refine ⟨_, rfl, ed, od, _, rfl, skl _ _ lk, ?_⟩
    refine for_it (walk_items (d := ed) (o := od) (kvs := kvE es)) (fun i σ H' => ∃ (v3 v4 v5 v6 v7 : Option V) (kvs : List (Key × V)), σ = [some (.ref t), some (.ref ed), some (.ref fd), v3, v4, v5, v6, v7] ∧ Same Hk H' ∧ H' fd = some (.dK kvs) ∧ kvs.length ≤ i ∧ (∀ ρ : Str, valV kvs (.inr ρ) = (firstE rs (es.take i) ρ).map fun e => V.str e.1) ∧
        OpenE rs (es.take i)) ⟨none, none, none, none, none, [], rfl, skl, lf, Nat.zero_le _, fun ρ => rfl, fun e he => by simp at he⟩ (fun i σ H' _ ⟨_, _, _, _, _, _, _, s, _⟩ => s _ _ lk) ?_ ?_
    · rintro i x σ H2 H3 hi ⟨v3, v4, v5, v6, v7, kvs, rfl, s2, hf2, hkl, hkv, hop⟩ ⟨Tq, kx, vx, rfl, hT, rfl, hkx, hvx⟩
      rw [Option.map_eq_some_iff] at hkx hvx
      obtain ⟨⟨k', v'⟩, hk, rfl⟩ := hkx
      obtain ⟨⟨k'', v''⟩, hk2, rfl⟩ := hvx
      rw [hk] at hk2
      cases Option.some.inj hk2
      obtain ⟨e, ee, he⟩ := kvE_at hk
      cases ee
      have hem := List.mem_of_getElem? he
      have hil : i < es.length := (List.getElem?_eq_some_iff.mp he).1
      have l200 := hok.len
      have sT : Same H2 (upd H2 Tq (.tup [V.str e.1, V.bl e.2])) := Same.new hT
      have eT : (upd H2 Tq (.tup [V.str e.1, V.bl e.2])) Tq = some (.tup [V.str e.1, V.bl e.2]) := upd_same
      show gTup K 2 _ _ _ (upd H2 Tq (.tup [V.str e.1, V.bl e.2])) _
      have hf4 := sT _ _ hf2
      generalize upd H2 Tq (.tup [V.str e.1, V.bl e.2]) = H4 at sT eT hf4
      have s4 := s2.trans sT
      have ht4 : TreeAt C H4 t rs := (tl (fun x => by rw [x] at hem; cases hem)).same s4
      have hinp := hok.inp e hem
      have tk : es.take (i + 1) = es.take i ++ [e] := take_more he
      have rd : ∀ {H' : Hp} {e0 : Str × Bool}, Same Hk H' → e0 ∈ es → DGet H' ed (.str e0.1) (some (.bl e0.2)) := fun {H' e0} s h => .inl ⟨_, .inr e0.1, .inr ⟨od, s _ _ lk⟩, rfl, by rw [kvE_val, endO_mem hok.nd h]; rfl⟩
      refine ⟨Tq, _, rfl, sqT eT, rfl, _, _, rfl, _, _, rfl, rfl, ?_⟩
      refine ⟨_, rfl, fd, rfl, .inl ⟨_, .inl hf4⟩, _, rfl, _, rfl, t, e.1, rs, rfl, ht4, hinp, _, rfl, kvs, .inr (lockR rs e.1), hf4, rfl, small1000 (by omega), ?_, ?_⟩
      · intro v hv
        rw [hkv] at hv
        obtain ⟨e0, he0, rfl⟩ := Option.map_eq_some_iff.mp hv
        have m0 : e0 ∈ es.take i := List.mem_of_find?_eq_some he0
        have r0 : lockR rs e0.1 = lockR rs e.1 := of_decide_eq_true (List.find?_some (p := fun q : Str × Bool => decide (lockR rs q.1 = lockR rs e.1)) he0)
        have m0e := List.mem_of_mem_take m0
        refine ⟨_, rfl, _, rfl, ed, _, rfl, rd s4 m0e, _, rfl, rfl, _, rfl, ?_⟩
        by_cases c : e0.2 = e.2
        · refine iteF' (by simp [c]) ⟨_, _, _, _, _, kvs, rfl, s4, hf4, by omega, fun ρ => ?_, ?_⟩
          · rw [tk, firstE_snoc, hkv]
            cases c2 : firstE rs (es.take i) ρ with
            | some e1 => rfl
            | none =>
              rw [if_neg fun x => ?_]
              · rfl
              · rw [← x, show firstE rs (es.take i) (lockR rs e.1) = some e0 from he0] at c2
                cases c2
          · rw [tk]
            intro a ha b hb x
            rcases List.mem_append.mp ha with ha | ha <;> rcases List.mem_append.mp hb with hb | hb
            · exact hop a ha b hb x
            · rw [List.mem_singleton.mp hb] at x ⊢
              rw [← c]; exact hop a ha e0 m0 (x.trans r0.symm)
            · rw [List.mem_singleton.mp ha] at x ⊢
              rw [← c]; exact hop e0 m0 b hb (r0.trans x)
            · rw [List.mem_singleton.mp ha, List.mem_singleton.mp hb]
        · refine iteT' (by simp [c]) ?_
          have out : ∀ (x y : Str), BarE rs es x y → ∀ H5 : Hp, Same Hk H5 → ∀ d, H5 d = none → E (.ref CB) (some d) (upd H5 d (.xd [("other", .str y), ("one", .str x)])) := fun x y hxy H5 s5 d hd5 =>
            hE x y hxy d _ (upN _ (s5.free hd5)) (fun b o nb eb => by rw [upd_ne (ne_of_none (s5 _ _ (up b o eb nb)) hd5)]; exact s5 _ _ (up b o eb nb)) upd_same
          cases cv : e.2 with
          | true =>
            have c0 : e0.2 = false := by cases q : e0.2 <;> simp_all
            have hb : BarE rs es e.1 e0.1 := ⟨by rw [← cv]; exact hem, by rw [← c0]; exact m0e, r0.symm⟩
            refine ⟨_, rfl, _, rfl, iteT' (by rfl) ⟨_, rfl, _, rfl, (by show 2 ≤ sizeLine; decide), fun tq htq => ?_⟩⟩
            refine ⟨tq, _, rfl, sqT upd_same, rfl, _, _, rfl, _, _, rfl, rfl, ?_⟩
            exact ⟨_, rfl, _, rfl, rd_err2 fun d hd5 => out _ _ hb _ (s4.trans (Same.new htq)) d hd5⟩
          | false =>
            have c0 : e0.2 = true := by cases q : e0.2 <;> simp_all
            have hb : BarE rs es e0.1 e.1 := ⟨by rw [← c0]; exact m0e, by rw [← cv]; exact hem, r0⟩
            refine ⟨_, rfl, _, rfl, iteF' (by rfl) ⟨_, rfl, _, rfl, (by show 2 ≤ sizeLine; decide), fun tq htq => ?_⟩⟩
            refine ⟨tq, _, rfl, sqT upd_same, rfl, _, _, rfl, _, _, rfl, rfl, ?_⟩
            exact ⟨_, rfl, _, rfl, rd_err2 fun d hd5 => out _ _ hb _ (s4.trans (Same.new htq)) d hd5⟩
      · intro hn
        have hn2 := hn
        rw [hkv] at hn2
        have hn3 : firstE rs (es.take i) (lockR rs e.1) = none := Option.map_eq_none_iff.mp hn2
        have s5 : Same Hk (upd H4 fd (.dK (putK kvs (.inr (lockR rs e.1)) (.str e.1)))) := fun b o eb => by
          rw [upd_ne (ne_of_none eb nk)]; exact s4 _ _ eb
        refine ⟨_, rfl, _, rfl, ed, _, rfl, rd s5 hem, _, rfl, rfl, _, rfl, iteF' (by simp) ⟨_, _, _, _, _, _, rfl, s5, upd_same, ?_, fun ρ => ?_, ?_⟩⟩
        · have := length_putK kvs (.inr (lockR rs e.1)) (.str e.1)
          omega
        · rw [valV_put, tk, firstE_snoc]
          by_cases c : ρ = lockR rs e.1
          · rw [if_pos (by rw [c]), c, hn3, if_pos rfl]; rfl
          · rw [if_neg (fun x => c (Sum.inr.inj x)), hkv, if_neg (fun x => c x.symm)]
            cases firstE rs (es.take i) ρ <;> rfl
        · rw [tk]
          have no : ∀ a ∈ es.take i, lockR rs a.1 ≠ lockR rs e.1 := fun a ha x => by
            have := List.find?_eq_none.mp hn3 a ha
            exact this (decide_eq_true x)
          intro a ha b hb x
          rcases List.mem_append.mp ha with ha | ha <;> rcases List.mem_append.mp hb with hb | hb
          · exact hop a ha b hb x
          · rw [List.mem_singleton.mp hb] at x; exact absurd x (no a ha)
          · rw [List.mem_singleton.mp ha] at x; exact absurd x.symm (no b hb)
          · rw [List.mem_singleton.mp ha, List.mem_singleton.mp hb]
    · rintro σ H2 ⟨v3, v4, v5, v6, v7, kvs, rfl, s2, hf2, hkl, hkv, hop⟩
      rw [kvE_len, List.take_length] at hop
      refine ⟨s2 _ _ lk, hq hop _ fun b o eb => ?_⟩
      by_cases q : b = ed
      · rw [q, upd_same, ← eb, q]; exact hd.symm
      · rw [upd_ne q]
        exact s2 _ _ (up b o eb q)
end
end Ts

set_option maxRecDepth 100000
set_option maxHeartbeats 4000000
namespace Ts
open PySem L2
def spEndless (C : Addr) : Sp := fun vs H Q _ => ∃ (t : Addr) (rs : List Row), vs = [.ref t] ∧ TreeAt C H t rs ∧ ∀ H', Same H H' → Q (.int (endlessI rs)) H'
def spSteps2 (C : Addr) : Sp := fun vs H Q _ => ∃ (t : Addr) (rs : List Row), vs = [.ref t] ∧ TreeAt C H t rs ∧ ∀ D H', H D = none → Same H H' → H' D = some (.dK (kvF (fun r => .int (stepR rs r)) rs)) → Q (.ref D) H'
theorem nms_at {rs : List Row} {i : Nat} {x : V} (h : ((names rs).map V.str)[i]? = some x) : ∃ r, x = .str r.nm ∧ rs[i]? = some r := by
  unfold names at h
  rw [List.getElem?_map, List.getElem?_map] at h
  obtain ⟨n1, hn1, rfl⟩ := Option.map_eq_some_iff.mp h
  obtain ⟨r, hr', rfl⟩ := Option.map_eq_some_iff.mp hn1
  exact ⟨r, rfl, hr'⟩
theorem kvF_keys (g : Row → V) (rs : List Row) : (kvF g rs).map (·.1) = (names rs).map (Sum.inr : Str → Key) := by
  unfold kvF names
  rw [List.map_map, List.map_map]; rfl
theorem kvF_next {g : Row → V} {rs : List Row} (hv : Valid rs) {i : Nat} {r : Row} (h : rs[i]? = some r) : putK (kvF g (rs.take i)) (.inr r.nm) (g r) = kvF g (rs.take (i + 1)) := kvF_more h (hv i r h).new
def someI (l : List (Option Int)) : List Int := l.filterMap id
theorem some_sum (rs : List Row) : (someI (rs.map (·.pr))).sum = allI rs := by
  unfold someI allI
  induction rs with
  | nil => rfl
  | cons r rs ih =>
    rw [List.map_cons, List.map_cons, List.sum_cons, ← ih]
    cases c : r.pr with
    | none => rw [List.filterMap_cons_none (by rfl)]; unfold prI; rw [c]; simp
    | some p => rw [List.filterMap_cons_some (b := p) (by rfl), List.sum_cons]; unfold prI; rw [c]; rfl
theorem prV_non {o : Option Int} : decide (prV o = V.non) = decide (o = none) := by
  cases o <;> simp [prV]
section
variable {P : Program} {w : World} {K : PySem.W.Frag} {mg : Str → Option Value} {base : Heap} {C CB : Addr}
abbrev nOE : List Str := ["tree", "wish", "default", "ends"]
theorem sc_open_ends : FnScope nOE ["tree", "wish", "default"] (defScope s_open_ends) := ⟨rfl, rfl, rfl, by decide +kernel, rfl, by decide +kernel, by decide +kernel⟩
theorem ok_open_ends {fB : Addr} {fdB : FuncData} (D : DefAt K mg "open_ends" s_open_ends ["tree", "wish", "default"]) (TC : TxC K mg)
    (De : DefAt K mg "ends_of" s_ends_of ["tree", "wish", "default"]) (Ge : FnOk P w K mg base CX0 5 De.f De.fd ["tree", "wish", "default"] (spEndsOf C))
    (Db : DefAt K mg "check_barred" s_check_barred ["tree", "ends"]) (Gb : FnOk P w K mg base (L2.CX P w) 6 Db.f Db.fd ["tree", "ends"] (spBarred C CB))
    (TB : ErrT K mg CB "Barred" "one") (iB : PySem.W.findIn K (.ref CB) "__init__" = some (some (.ref fB))) (tB : PySem.W.typeIn K (.ref fB) = some (.type "function")) (GB : FnOk P w K mg base CX0 2 fB fdB ["self", "one", "other"] (spErr2 CB "one" "other")) (bB : Binds K fdB ["self", "one", "other"] []) :
    FnOk P w K mg base (L2.CX P w) 7 D.f D.fd ["tree", "wish", "default"] (spOpenEnds C CB) := by
  obtain ⟨t1, gT⟩ := TC.top
  refine D.F.okX sc_open_ends (fun vs H Q E h => ?_) (fun cdv A outer s H vs Q E hr h => ?_)
  · obtain ⟨t, wd, rs, es, d, rfl, _⟩ := h
    rfl
  · obtain ⟨t, wd, rs, es, d, rfl, ht, hd, hok, hl, hq, hE⟩ := h
    have hu := hu_of hr
    have r3 : Room 3 _ := hr.mono (by decide)
    have r5 : Room 5 _ := hr.mono (by decide)
    refine ⟨_, pss_cons (ps_set (i := 3) sc_open_ends.nd rfl (.inl rfl) (pe_call Ge r5 rfl De.g De.F.kp De.b .nil pass0 (pa_cons (pv 0) (pa_cons (pv 1) (pa_cons (pv 2) pa_nil)))))
      (pss_cons (ps_if (PW.pt (pw_and (pt_cmp (pc_din hu (pe_glob (by rfl) gT (v := .str ("top" : Str)) ⟨_, rfl⟩) (pv 1))) (pw_and1 (pt_cmpR op_ne (pe_dget hu (pv 1) (pe_glob (by rfl) gT (v := .str ("top" : Str)) ⟨_, rfl⟩) (fun _ _ => rfl)) (pe_dget hu (pv 3) (pe_glob (by rfl) gT (v := .str ("top" : Str)) ⟨_, rfl⟩) (fun _ _ => rfl)) (nomark _)))))
        (pss_one (ps_raise rfl (takes_of rfl rfl rfl rfl) (pmk_oex TB.O iB tB GB r3 bB .nil pass0 rfl TB.g (by exact pa_cons (pe_glob (by rfl) gT (v := .str ("top" : Str)) ⟨_, rfl⟩) (pa_cons (pe_glob (by rfl) gT (v := .str ("top" : Str)) ⟨_, rfl⟩) pa_nil))))) pss_nil)
      (pss_cons (ps_expr (pe_call Gb hr rfl Db.g Db.F.kp Db.b .nil (passes_call (takes_of rfl rfl rfl rfl) (fun _ _ _ _ h => h)) (pa_cons (pv 0) (pa_cons (pv 3) pa_nil))))
      (pss_one (ps_ret (pv 3))))), ?_⟩
    refine ⟨_, rfl, _, rfl, _, rfl, t, wd, rs, es, d, rfl, ht, hd, hok, hl, fun D H1 hD s1 e1 => ?_⟩
    have dw : DGet H1 wd (.str ("top" : Str)) ((endO es "top").map V.bl) := .inl ⟨_, .inr ("top" : Str), .inl (s1 _ _ hd), rfl, by rw [kvE_val]⟩
    have de : DGet H1 D (.str ("top" : Str)) ((endO (topE d es) "top").map V.bl) := .inl ⟨_, .inr ("top" : Str), .inl e1, rfl, by rw [kvE_val]⟩
    have rest : (∀ b, endO es "top" = some b → d ≠ some (!b)) → tSeq (tDrop (tCall (spBarred C CB) [] E (tCons (tVar 0) (tCons (tVar 3) tNil)))) (tRet (tVar 3)) { nx := fun _ H' => Q .non H', rt := Q } [some (.ref t), some (.ref wd), some (dfV d), some (.ref D)] H1 := fun hc => by
      refine ⟨_, rfl, _, rfl, t, D, rs, topE d es, rfl, ht.same s1, e1, topE_ok hok hl d, fun ho H2 s2 => ⟨_, rfl, hq ⟨hc, ho⟩ D H2 hD (s1.trans s2) (s2 _ _ e1)⟩, fun x y hxy d2 H2 hd2 sb2 e2 => ?_⟩
      refine hE x y (.inr ⟨hc, hxy⟩) d2 H2 (s1.free hd2) (fun b o eb => sb2 b o (ne_of_none eb hD) (s1 _ _ eb)) e2
    cases c : endO es "top" with
    | none =>
      rw [c] at dw
      refine ⟨_, rfl, wd, _, rfl, dw, _, rfl, iteF' (by rfl) (iteF ?_)⟩
      exact rest fun b hb => by rw [c] at hb; cases hb
    | some b =>
      rw [c] at dw
      refine ⟨_, rfl, wd, _, rfl, dw, _, rfl, iteT' (by rfl) ?_⟩
      have ce : endO (topE d es) "top" = some (d.getD b) := by
        cases d with
        | none => exact c
        | some b' => show endO (putE es "top" b') "top" = _; rw [endO_put, if_pos rfl]; rfl
      rw [ce] at de
      refine ⟨_, rfl, wd, _, rfl, dw, _, rfl, D, _, rfl, de, rfl, _, rfl, ?_⟩
      by_cases q : d = some (!b)
      · refine iteT' (by rw [q]; cases b <;> rfl) (rd_err2 fun d2 hd2 => ?_)
        exact hE _ _ (.inl ⟨rfl, rfl, b, c, q⟩) d2 _ (s1.free hd2) (fun y o ey => by rw [upd_ne (ne_of_none (s1 _ _ ey) hd2)]; exact s1 _ _ ey) upd_same
      · refine iteF' ?_ (rest fun b' hb' => ?_)
        · cases d with
          | none => simp
          | some b' =>
            have : b' = b := by cases b' <;> cases b <;> simp_all
            rw [this]; simp
        · rw [c] at hb'; cases hb'; exact q
abbrev nEl : List Str := ["tree", "prices", "box", "price"]
theorem sc_endless : FnScope nEl ["tree"] (defScope s_endless) := ⟨rfl, rfl, rfl, by decide +kernel, rfl, by decide +kernel, by decide +kernel⟩
theorem ok_endless (D : DefAt K mg "endless" s_endless ["tree"]) (TC : TxC K mg) (T : TxT K mg C) (hS : mg "sum" = none)
    (mB : MethAt K C "below" "Tree.below" s_Tree_below ["self", "box"]) (GB : FnOk P w K mg base CX0 5 mB.f mB.fd ["self", "box"] (spListOf C belowL))
    (mP : MethAt K C "price" "Tree.price" s_Tree_price ["self", "box"]) (GP : FnOk P w K mg base CX0 4 mP.f mP.fd ["self", "box"] (spGet C fun r => prV r.pr)) : FnOk P w K mg base CX0 6 D.f D.fd ["tree"] (spEndless C) := by
  obtain ⟨t1, gT⟩ := TC.top
  refine D.F.ok sc_endless (fun vs H Q E h => ?_) (fun cdv A outer s H vs Q E hr h => ?_)
  · obtain ⟨t, rs, rfl, _⟩ := h
    rfl
  · obtain ⟨t, rs, rfl, ht, hq⟩ := h
    have r4 : Room 4 _ := hr.mono (by decide)
    refine ⟨_, pss_cons (ps_setLc (i := 1) (own := [("box", 2)]) (g := gName 2) (tt := tYes) (te := tMeth C "price" (spGet C fun r => prV r.pr) [] E0 (tVar 0) (tCons (tVar 2) tNil)) rfl sc_endless.nd rfl rfl (sw_true rfl rfl rfl (by decide +kernel)) (pi_list (pe_meth (pv 0) T.cl mB.m GB hr mB.b .nil pass0 (pa_cons (pe_glob (by rfl) gT (v := .str ("top" : Str)) ⟨_, rfl⟩) pa_nil))) (blkOk_by (N := nEl) (sc := defScope s_endless) (by decide +kernel))
        (fun _ _ _ _ _ => pg_name (i := 2) sc_endless.nd rfl (Or.inl rfl)) (fun _ _ _ _ _ => pts_nil) (fun _ _ _ _ _ => by exact pe_meth (pv 0) T.cl mP.m GP r4 mP.b .nil pass0 (pa_cons (pv 2) pa_nil)))
      (pss_one (ps_ret (pe_op op_add pe_int (pe_callB (cr_sum rfl) (by rfl) hS (by decide +kernel) (pa_cons (pe_lc (own := [("price", 3)]) (g := gName 3) (tt := tTest (tOp (fun x y H Q => y = .non ∧ Q (.bl (!decide (x = .non))) H) (tVar 3) (tC .non))) (te := tVar 3) rfl sc_endless.nd (pi_list (pv 1)) (blkOk_by (N := nEl) (sc := defScope s_endless) (by decide +kernel))
        (fun _ _ _ _ _ => pg_name (i := 3) sc_endless.nd rfl (Or.inl rfl)) (fun _ _ _ _ _ => by exact pts_one (pt_cmpR op_notN (pv 3) pe_non (nomark _))) (fun _ _ _ _ _ => pv 3)) pa_nil))))), ?_⟩
    have hv := ht.val
    have l100 := ht.len
    obtain ⟨dx, q, f, k, p, qs, h1, _⟩ := id ht.ex
    have noB : (tf q f k p).lookup ("below" : Str) = none := tf_no _ _ _ _ (by decide +kernel) (by decide +kernel) (by decide +kernel) (by decide +kernel)
    have noP : (tf q f k p).lookup ("price" : Str) = none := tf_no _ _ _ _ (by decide +kernel) (by decide +kernel) (by decide +kernel) (by decide +kernel)
    refine ⟨_, rfl, t, dx, _, rfl, h1, noB, t, ("top" : Str), rs, rfl, ht, .inl rfl, fun bl H2 hbl s2 e2 => ?_⟩
    rw [below_top hv] at e2
    refine ⟨bl, rfl, ⟨_, SqL.of e2⟩, fun D hD => ?_⟩
    refine lc_list (K := K) (a := bl) (xs := (names rs).map V.str) (fun i H' => Same H2 H' ∧ H' D = some (.lst ((rs.take i).map fun r => prV r.pr))) ⟨Same.new hD, upd_same⟩ (fun i H' _ m => m.1.seq (SqL.of e2)) ?_ ?_
    · rintro i x H3 hxi ⟨s3, hD3⟩
      obtain ⟨r, rfl, hr'⟩ := nms_at hxi
      have s23 := s2.trans s3
      refine ⟨rfl, tYes_if ⟨_, rfl, t, dx, _, rfl, s23 _ _ h1, noP, _, rfl, t, r.nm, rs, r, rfl, ht.same s23, rowOf_at hv hr', _, hD3, small1000 (by rw [List.length_map, List.length_take]; omega), fun b o eb => ?_, ?_⟩⟩
      · rw [upd_ne (fun y => by rw [y, hD] at eb; cases eb)]
        exact s3 _ _ eb
      · rw [upd_same, take_more hr', List.map_append]; rfl
    rintro H3 ⟨s3, hD3⟩
    rw [show ((names rs).map V.str).length = rs.length from by unfold names; rw [List.length_map, List.length_map], List.take_length] at hD3
    have s23 := s2.trans s3
    refine ⟨_, rfl, D, rfl, ⟨_, SqL.of hD3⟩, fun F hF => ?_⟩
    refine lc_list (K := K) (a := D) (xs := rs.map fun r => prV r.pr) (fun i H' => Same H3 H' ∧ H' F = some (.lst ((someI ((rs.take i).map (·.pr))).map V.int))) ⟨Same.new hF, upd_same⟩ (fun i H' _ m => m.1.seq (SqL.of hD3)) ?_ ?_
    · rintro i x H4 hxi ⟨s4, hF4⟩
      rw [List.getElem?_map] at hxi
      obtain ⟨r, hr', rfl⟩ := Option.map_eq_some_iff.mp hxi
      have hmore : someI ((rs.take (i + 1)).map (·.pr)) = someI ((rs.take i).map (·.pr)) ++ (match r.pr with | none => [] | some p => [p]) := by
        unfold someI
        rw [take_more hr', List.map_append, List.filterMap_append]
        cases c : r.pr <;> simp [c]
      have hlen : (someI ((rs.take i).map (·.pr))).length ≤ 100 := by
        unfold someI
        refine Nat.le_trans (List.length_filterMap_le _ _) ?_
        rw [List.length_map, List.length_take]; omega
      refine ⟨rfl, _, rfl, rfl, _, rfl, ?_⟩
      cases c : r.pr with
      | none =>
        rw [c] at hmore
        refine iteF' (by rfl) ⟨s4, ?_⟩
        rw [hmore, List.append_nil]; exact hF4
      | some p =>
        rw [c] at hmore
        refine iteT' (by rfl) ⟨_, rfl, _, hF4, small1000 (by rw [List.length_map]; omega), fun b o eb => ?_, ?_⟩
        · rw [upd_ne (fun y => by rw [y, hF] at eb; cases eb)]
          exact s4 _ _ eb
        · rw [upd_same, hmore, List.map_append]; rfl
    rintro H4 ⟨s4, hF4⟩
    rw [List.length_map, List.take_length] at hF4
    refine ⟨F, _, rfl, SqL.of hF4, 1, _, rfl, rfl, ?_⟩
    rw [some_sum]
    exact hq _ (s23.trans s4)
abbrev nSP : List Str := ["tree", "locked", "prices", "box"]
theorem sc_stepp : FnScope nSP ["tree"] (defScope s_step_prices) := ⟨rfl, rfl, rfl, by decide +kernel, rfl, by decide +kernel, by decide +kernel⟩
end
end Ts

set_option maxRecDepth 100000
set_option maxHeartbeats 4000000
namespace Ts
open PySem L2
theorem kvF_eq {g g' : Row → V} {rs : List Row} (h : ∀ r ∈ rs, g r = g' r) : kvF g rs = kvF g' rs := List.map_congr_left fun r hr => by rw [h r hr]
theorem kvF_val {g : Row → V} {rs : List Row} (hv : Valid rs) {r : Row} (hr : r ∈ rs) : valV (kvF g rs) (.inr r.nm : Key) = some (g r) := by
  obtain ⟨i, hi, e⟩ := List.mem_iff_getElem.mp hr
  rw [valV_kvF, show (rs.find? fun q => decide (q.nm = r.nm)) = some r from rowOf_at hv (show rs[i]? = some r by rw [← e]; exact List.getElem?_eq_getElem hi)]
  rfl
section
variable {P : Program} {w : World} {K : PySem.W.Frag} {mg : Str → Option Value} {base : Heap} {C CB : Addr}
theorem ok_step_prices (D : DefAt K mg "step_prices" s_step_prices ["tree"]) (TC : TxC K mg) (T : TxT K mg C)
    (De : DefAt K mg "endless" s_endless ["tree"]) (Ge : FnOk P w K mg base CX0 6 De.f De.fd ["tree"] (spEndless C))
    (mB : MethAt K C "below" "Tree.below" s_Tree_below ["self", "box"]) (GB : FnOk P w K mg base CX0 5 mB.f mB.fd ["self", "box"] (spListOf C belowL))
    (mP : MethAt K C "price" "Tree.price" s_Tree_price ["self", "box"]) (GP : FnOk P w K mg base CX0 4 mP.f mP.fd ["self", "box"] (spGet C fun r => prV r.pr)) : FnOk P w K mg base CX0 7 D.f D.fd ["tree"] (spSteps2 C) := by
  obtain ⟨t1, gT⟩ := TC.top
  refine D.F.ok sc_stepp (fun vs H Q E h => ?_) (fun cdv A outer s H vs Q E hr h => ?_)
  · obtain ⟨t, rs, rfl, _⟩ := h
    rfl
  · obtain ⟨t, rs, rfl, ht, hq⟩ := h
    have hu := hu_of hr
    have r4 : Room 4 _ := hr.mono (by decide)
    have r5 : Room 5 _ := hr.mono (by decide)
    refine ⟨_, pss_cons (ps_set (i := 1) sc_stepp.nd rfl (.inr rfl) (pe_call Ge hr rfl De.g De.F.kp De.b .nil pass0 (pa_cons (pv 0) pa_nil)))
      (pss_cons (ps_set (i := 2) sc_stepp.nd rfl (.inr rfl) (pe_dc (own := [("box", 3)]) (g := gName 3) (tt := tYes) (tk := tVar 3) (tv := tMeth C "price" (spGet C fun r => prV r.pr) [] E0 (tVar 0) (tCons (tVar 3) tNil)) rfl sc_stepp.nd (pi_list (pe_meth (pv 0) T.cl mB.m GB r5 mB.b .nil pass0 (pa_cons (pe_glob (by rfl) gT (v := .str ("top" : Str)) ⟨_, rfl⟩) pa_nil))) (blkOk_by (N := nSP) (sc := defScope s_step_prices) (by decide +kernel))
        (fun _ _ _ _ _ => pg_name (i := 3) sc_stepp.nd rfl (Or.inl rfl)) (fun _ _ _ _ _ => pts_nil) (fun _ _ _ _ _ => pv 3) (fun _ _ _ _ _ => by exact pe_meth (pv 0) T.cl mP.m GP r4 mP.b .nil pass0 (pa_cons (pv 3) pa_nil))))
      (pss_one (ps_ret (pe_lock (pe_dc (own := [("box", 3)]) (g := gName 3) (tt := tYes) (tk := tVar 3) (tv := tIf (tTest (tOp (fun x y H Q => y = .non ∧ Q (.bl (decide (x = .non))) H) (tDGet (tVar 2) (tVar 3)) (tC .non))) (tVar 1) (tDGet (tVar 2) (tVar 3))) rfl sc_stepp.nd (pi_keys (pv 2)) (blkOk_by (N := nSP) (sc := defScope s_step_prices) (by decide +kernel))
        (fun _ _ _ _ _ => pg_name (i := 3) sc_stepp.nd rfl (Or.inl rfl)) (fun _ _ _ _ _ => pts_nil) (fun _ _ _ _ _ => pv 3) (fun _ _ _ _ _ => by exact pe_ifExp (pt_cmpR op_isN (pe_dget hu (pv 2) (pv 3) (fun _ _ => rfl)) pe_non (nomark _)) (pv 1) (pe_dget hu (pv 2) (pv 3) (fun _ _ => rfl)))))))), ?_⟩
    have hv := ht.val
    have l100 := ht.len
    obtain ⟨dx, q, f, k, p, qs, h1, _⟩ := id ht.ex
    have noB : (tf q f k p).lookup ("below" : Str) = none := tf_no _ _ _ _ (by decide +kernel) (by decide +kernel) (by decide +kernel) (by decide +kernel)
    have noP : (tf q f k p).lookup ("price" : Str) = none := tf_no _ _ _ _ (by decide +kernel) (by decide +kernel) (by decide +kernel) (by decide +kernel)
    refine ⟨_, rfl, t, rs, rfl, ht, fun H1 s1 => ?_⟩
    refine ⟨_, rfl, t, dx, _, rfl, s1 _ _ h1, noB, t, ("top" : Str), rs, rfl, ht.same s1, .inl rfl, fun bl H2 hbl s12 e2 => ?_⟩
    rw [below_top hv] at e2
    have s2 := s1.trans s12
    refine ⟨bl, rfl, ⟨_, SqL.of e2⟩, fun D hD => ?_⟩
    have ln : ((names rs).map V.str).length = rs.length := by unfold names; rw [List.length_map, List.length_map]
    refine dc_walk (walk_list (K := K) (a := bl) (xs := (names rs).map V.str)) (fun i H' => Same H2 H' ∧ H' D = some (.dK (kvF (fun r => prV r.pr) (rs.take i)))) ⟨Same.new hD, upd_same⟩ (fun i H' _ m => m.1.seq (SqL.of e2)) ?_ ?_
    · rintro i x H3x H3 hi ⟨s3, hD3⟩ ⟨rfl, hxi⟩
      obtain ⟨r, rfl, hr'⟩ := nms_at hxi
      have s23 := s2.trans s3
      refine ⟨rfl, tYes_if ⟨_, rfl, _, rfl, t, dx, _, rfl, s23 _ _ h1, noP, _, rfl, t, r.nm, rs, r, rfl, ht.same s23, rowOf_at hv hr', _, .inr r.nm, rfl, hD3, small1000 (by unfold kvF; rw [List.length_map, List.length_take]; omega), fun b o eb => ?_, ?_⟩⟩
      · rw [upd_ne (fun y => by rw [y, hD] at eb; cases eb)]
        exact s3 _ _ eb
      · rw [upd_same]; exact congrArg (fun z => some (HO.dK z)) (kvF_next (g := fun r => prV r.pr) hv hr')
    rintro H3 ⟨s3, hD3⟩
    rw [ln, List.take_length] at hD3
    have s23 := s2.trans s3
    -- over the dict itself
    have nD : H D = none := s2.free hD
    refine ⟨D, _, hD3, trivial, fun od => ?_⟩
    obtain ⟨Hl, El⟩ : ∃ Hx, Hx = upd H3 D (.frz od (.dK (kvF (fun r => prV r.pr) rs))) := ⟨_, rfl⟩
    have lk : Hl D = some (.frz od (.dK (kvF (fun r => prV r.pr) rs))) := by rw [El]; exact upd_same
    have keep : ∀ b o, H b = some o → Hl b = some o := fun b o e => by rw [El, upd_ne (ne_of_none e nD)]; exact s23 _ _ e
    rw [← El]
    clear El
    refine ⟨_, rfl, D, od, rfl, .inl ⟨_, lk, fun F hF => ?_⟩⟩
    have nF : F ≠ D := (ne_of_none lk hF).symm
    have hFH : H F = none := by
      cases c : H F with
      | none => rfl
      | some o => rw [keep _ _ c] at hF; cases hF
    refine dc_walk (walk_keys (d := D) (o := od) (kvs := kvF (fun r => prV r.pr) rs)) (fun i H' => Same Hl H' ∧ H' F = some (.dK (kvF (fun r => .int (stepR rs r)) (rs.take i)))) ⟨Same.new hF, upd_same⟩ (fun i H' _ m => m.1 _ _ lk) ?_ ?_
    · rintro i x H5x H5 hi ⟨s5, hF5⟩ ⟨rfl, k', v', hk, rfl⟩
      obtain ⟨r, hr', rfl, rfl⟩ := kvF_at hk
      have hrm := List.mem_of_getElem? hr'
      have dg : DGet H5 D (.str r.nm) (some (prV r.pr)) := .inl ⟨_, .inr r.nm, .inr ⟨od, s5 _ _ lk⟩, rfl, (kvF_val (g := fun r => prV r.pr) hv hrm).symm⟩
      refine ⟨rfl, tYes_if ⟨_, rfl, _, rfl, _, rfl, D, _, rfl, dg, rfl, _, rfl, ?_⟩⟩
      have fin : ∃ kvs k, (V.str r.nm : V) = kV k ∧ H5 F = some (.dK kvs) ∧ kvs.length < sizeLine ∧ (Same Hl (upd H5 F (.dK (putK kvs k (.int (stepR rs r))))) ∧ (upd H5 F (.dK (putK kvs k (.int (stepR rs r))))) F = some (.dK (kvF (fun r => .int (stepR rs r)) (rs.take (i + 1))))) := by
        refine ⟨_, .inr r.nm, rfl, hF5, small1000 (by unfold kvF; rw [List.length_map, List.length_take]; omega), fun b o eb => ?_, ?_⟩
        · rw [upd_ne (fun y => by rw [y, hF] at eb; cases eb)]
          exact s5 _ _ eb
        · rw [upd_same]; exact congrArg (fun z => some (HO.dK z)) (kvF_next (g := fun r => .int (stepR rs r)) hv hr')
      cases c : r.pr with
      | none =>
        refine iteT' (by rfl) ⟨_, rfl, ?_⟩
        have e : stepR rs r = endlessI rs := by unfold stepR; rw [c]; rfl
        rw [e] at fin
        exact fin
      | some pp =>
        refine iteF' (by rfl) ⟨_, rfl, _, rfl, D, _, rfl, dg, ?_⟩
        have e : stepR rs r = pp := by unfold stepR; rw [c]; rfl
        rw [e] at fin
        rw [c]
        exact fin
    rintro H5 ⟨s5, hF5⟩
    rw [show (kvF (fun r => prV r.pr) rs).length = rs.length from by unfold kvF; rw [List.length_map], List.take_length] at hF5
    refine ⟨s5 _ _ lk, hq F _ hFH (fun b o eb => ?_) ?_⟩
    · rw [upd_ne (ne_of_none eb nD)]
      exact s5 _ _ (keep _ _ eb)
    · rw [upd_ne nF]; exact hF5
end
end Ts

set_option maxRecDepth 100000
set_option maxHeartbeats 4000000
namespace Ts
open PySem L2
/-! ### the numbers of choices -/
def leastI (rs : List Row) (r : Row) (f : Tab) (b : Bool) : Int := min (f r.nm b) (f r.nm (!b) + stepR rs r)
def manyI (rs : List Row) (r : Row) (f g : Tab) (b : Bool) : Int := (if f r.nm b = leastI rs r f b then g r.nm b else 0) + (if f r.nm (!b) + stepR rs r = leastI rs r f b then g r.nm (!b) else 0)
def stepN (rs : List Row) (r : Row) (f g : Tab) : Tab := fun z b => if z = r.fo then g z b * manyI rs r f g b else g z b
def numT (rs : List Row) (es : Wsh) : List Row → Tab
  | [] => fun _ _ => 1
  | r :: l => stepN rs r (tabT rs es l) (numT rs es l)
def numF (rs : List Row) (es : Wsh) : Tab := numT rs es rs
/-- how many boxes have been added up below a place -/
def wT : List Row → Str → Nat
  | [] => fun _ => 0
  | r :: l => fun z => if z = r.fo then wT l z + (1 + wT l r.nm) else wT l z
theorem sum_oneN {l : List Str} (nd : l.Nodup) {a : Str} (ha : a ∈ l) (g : Str → Nat) (m : Nat) : (l.map fun z => if z = a then g z + m else g z).sum = (l.map g).sum + m := by
  induction l with
  | nil => cases ha
  | cons b l ih =>
    rw [List.nodup_cons] at nd
    rw [List.map_cons, List.map_cons, List.sum_cons, List.sum_cons]
    by_cases q : b = a
    · have e : l.map (fun z => if z = a then g z + m else g z) = l.map g := List.map_congr_left fun z hz => if_neg fun x => nd.1 (by rw [q, ← x]; exact hz)
      rw [if_pos q, e]; omega
    · rw [if_neg q, ih nd.2 ((List.mem_cons.mp ha).resolve_left fun x => q x.symm)]; omega
theorem w_sum : ∀ (suf pre : List Row), Valid (pre ++ suf) → ((plc pre).map (wT suf)).sum = suf.length
  | [], pre, _ => by
    have : ∀ l : List Str, (l.map (wT [])).sum = 0 := fun l => by
      induction l with
      | nil => rfl
      | cons a l ih => rw [List.map_cons, List.sum_cons, ih]; rfl
    rw [this]; rfl
  | r :: suf, pre, h => by
    have ih := w_sum suf (pre ++ [r]) (by rw [List.append_assoc]; exact h)
    have hf := fits_at h
    have e : (plc pre).map (wT (r :: suf)) = (plc pre).map fun z => if z = r.fo then wT suf z + (1 + wT suf r.nm) else wT suf z := rfl
    rw [e, sum_oneN (plc_nodup (valid_pre h)) (fo_pre hf)]
    rw [plc_snoc, List.map_append, List.sum_append] at ih
    simp only [List.map_cons, List.map_nil, List.sum_cons, List.sum_nil] at ih
    rw [List.length_cons]
    omega
theorem w_le {pre suf : List Row} (h : Valid (pre ++ suf)) {z : Str} (hz : z ∈ plc pre) : wT suf z ≤ suf.length := by
  rw [← w_sum suf pre h]
  generalize plc pre = l at hz
  induction l with
  | nil => cases hz
  | cons a l ih =>
    rw [List.map_cons, List.sum_cons]
    rcases List.mem_cons.mp hz with rfl | hz
    · omega
    · have := ih hz; omega
theorem num_le (rs : List Row) (es : Wsh) : ∀ (l : List Row) (z : Str) (b : Bool), 0 ≤ numT rs es l z b ∧ numT rs es l z b ≤ 2 ^ wT l z
  | [], z, b => ⟨by show (0 : Int) ≤ 1; decide, by show (1 : Int) ≤ 2 ^ 0; decide⟩
  | r :: l, z, b => by
    have hz := num_le rs es l z b
    have h1 := num_le rs es l r.nm b
    have h2 := num_le rs es l r.nm (!b)
    show 0 ≤ stepN rs r (tabT rs es l) (numT rs es l) z b ∧ stepN rs r (tabT rs es l) (numT rs es l) z b ≤ 2 ^ (if z = r.fo then wT l z + (1 + wT l r.nm) else wT l z)
    unfold stepN
    by_cases q : z = r.fo
    · rw [if_pos q, if_pos q]
      have m : 0 ≤ manyI rs r (tabT rs es l) (numT rs es l) b ∧ manyI rs r (tabT rs es l) (numT rs es l) b ≤ 2 ^ (1 + wT l r.nm) := by
        rw [Int.pow_add]
        unfold manyI
        split <;> split <;> omega
      refine ⟨Int.mul_nonneg hz.1 m.1, ?_⟩
      rw [Int.pow_add]
      exact Int.mul_le_mul hz.2 m.2 m.1 (by have := hz.1; omega)
    · rw [if_neg q, if_neg q]; exact hz
theorem log_le {i : Int} {k : Nat} (h0 : 0 ≤ i) (h : i ≤ 2 ^ k) : i.natAbs.log2 ≤ k := by
  by_cases q : i.natAbs = 0
  · rw [q]; exact Nat.zero_le _
  · have h1 : i.natAbs < 2 ^ (k + 1) := by
      have e : (i.natAbs : Int) = i := Int.natAbs_of_nonneg h0
      have : (i.natAbs : Int) ≤ ((2 ^ k : Nat) : Int) := by rw [e]; push_cast; exact h
      have h2 : i.natAbs ≤ 2 ^ k := by exact_mod_cast this
      have h3 : 2 ^ k < 2 ^ (k + 1) := Nat.pow_lt_pow_right (by decide) (Nat.lt_succ_self k)
      omega
    have := (Nat.log2_lt q).mpr h1
    omega
theorem num_log {rs : List Row} (es : Wsh) {pre suf : List Row} (h : Valid (pre ++ suf)) {z : Str} (hz : z ∈ plc pre) (b : Bool) : (numT rs es suf z b).natAbs.log2 ≤ suf.length := by
  have h1 := num_le rs es suf z b
  have h2 := w_le h hz
  exact Nat.le_trans (log_le h1.1 h1.2) h2
theorem many_log {rs : List Row} (es : Wsh) {pre suf : List Row} {r : Row} (h : Valid (pre ++ r :: suf)) (b : Bool) : (manyI rs r (tabT rs es suf) (numT rs es suf) b).natAbs.log2 ≤ 1 + suf.length := by
  have h1 := num_le rs es suf r.nm b
  have h2 := num_le rs es suf r.nm (!b)
  have h3 : wT suf r.nm ≤ suf.length := w_le (pre := pre ++ [r]) (by rw [List.append_assoc]; exact h) (by rw [plc_snoc]; exact List.mem_append_right _ (List.mem_singleton_self _))
  have m : 0 ≤ manyI rs r (tabT rs es suf) (numT rs es suf) b ∧ manyI rs r (tabT rs es suf) (numT rs es suf) b ≤ 2 ^ (1 + wT suf r.nm) := by
    rw [Int.pow_add]
    unfold manyI
    split <;> split <;> omega
  have := log_le m.1 m.2
  omega
end Ts

set_option maxRecDepth 100000
set_option maxHeartbeats 1000000
namespace Ts
open PySem L2
/-! ### dicts whose keys are pairs of a text and a truth -/
abbrev tkP (P : Program) (w : World) : HeapKind P w (List Leaf) := tupleKind (leafKind P w)
def keyP (z : Str) (b : Bool) : List Leaf := [Leaf.text z, Leaf.num (if b = true then 1 else 0)]
theorem keyP_inj {z z' : Str} {b b' : Bool} (h : keyP z b = keyP z' b') : z = z' ∧ b = b' := by
  unfold keyP at h
  injection h with h1 h2
  injection h1 with h1
  injection h2 with h2
  injection h2 with h2
  refine ⟨h1, ?_⟩
  cases b <;> cases b' <;> first | rfl | exact absurd h2 (by decide)
structure EnP where
  z : Str
  b : Bool
  a : Addr
  v : V
def PairP : List (List Leaf × Addr × Value) → List EnP → Prop := Paired fun x y => x.1 = keyP y.z y.b ∧ x.2.1 = y.a ∧ RelV y.v x.2.2
/-- the dict at p with the entries l -/
def DicP (P : Program) (w : World) (c : Option Obj) (p : Addr) (l : List EnP) : HO := .ext fun h => ∃ (o : Obj) (es : Array DictEntry) (ep : Nat) (xs : List (List Leaf × Addr × Value)), (∀ q, c = some q → o = q) ∧ h.get? p = some o ∧ Obj.ExactDict o ∧ o.data = .dict es ep ∧ es.toList = xs.map (entryOfKey (tkP P w)) ∧ PairP xs l ∧ (l.map fun y => keyP y.z y.b).Nodup ∧ l.length ≤ sizeLine ∧ (p == sysModules) = false
def KeysP (H : Hp) (l : List EnP) : Prop := ∀ y ∈ l, H y.a = some (.tup [.str y.z, .bl y.b])
def atP (l : List EnP) (z : Str) (b : Bool) : Option V := (l.find? fun y => decide (y.z = z ∧ y.b = b)).map fun y => y.v
def putP (l : List EnP) (z : Str) (b : Bool) (v : V) : List EnP := l.map fun y => if y.z = z ∧ y.b = b then ⟨y.z, y.b, y.a, v⟩ else y
theorem key_P {P : Program} {w : World} {H : Hp} {h : Heap} {a : Addr} {z : Str} {b : Bool} (ok : HOk P w H h) (e : H a = some (.tup [.str z, .bl b])) : (tkP P w).is h (keyP z b) a := by
  have := ok a _ e
  unfold ObjOk at this
  obtain ⟨_, its, hv, o, ho, hc, n, hd⟩ := this
  refine ⟨o, its.toArray, n, ho, hc, hd, ?_⟩
  cases hv with
  | cons r1 t =>
  cases t with
  | cons r2 t =>
  cases t
  obtain ⟨tk, rfl⟩ := r1
  cases r2
  refine .cons ?_ (.cons ?_ .nil)
  · show decide (z = z) = true
    exact decide_eq_true rfl
  · show decide ((if b = true then (1 : Int) else 0) = if b = true then 1 else 0) = true
    exact decide_eq_true rfl
theorem pairP_keys : ∀ {xs : List (List Leaf × Addr × Value)} {l : List EnP}, PairP xs l → xs.map (fun x => x.1) = l.map fun y => keyP y.z y.b
  | _, _, .nil => rfl
  | _, _, .cons h t => by rw [List.map_cons, List.map_cons, h.1, pairP_keys t]
theorem pairP_len {xs : List (List Leaf × Addr × Value)} {l : List EnP} (p : PairP xs l) : xs.length = l.length := by
  have := congrArg List.length (pairP_keys p)
  simpa using this
theorem pairP_all {xs : List (List Leaf × Addr × Value)} {l : List EnP} (p : PairP xs l) : ∀ x ∈ xs, ∃ y ∈ l, x.1 = keyP y.z y.b ∧ x.2.1 = y.a := by
  induction p with
  | nil => intro x hx; cases hx
  | cons h t ih =>
    intro x hx
    rcases List.mem_cons.mp hx with rfl | hx
    · exact ⟨_, List.mem_cons_self .., h.1, h.2.1⟩
    · obtain ⟨y, hy, e⟩ := ih x hx
      exact ⟨y, List.mem_cons_of_mem _ hy, e⟩
theorem keyP_dec (z z' : Str) (b b' : Bool) : decide (keyP z b = keyP z' b') = decide (z = z' ∧ b = b') := by
  by_cases h : z = z' ∧ b = b'
  · rw [decide_eq_true h, h.1, h.2]; exact decide_eq_true rfl
  · rw [decide_eq_false h]; exact decide_eq_false fun e => h (keyP_inj e)
theorem atP_of : ∀ {xs : List (List Leaf × Addr × Value)} {l : List EnP}, PairP xs l → ∀ {z : Str} {b : Bool} {v : V}, atP l z b = some v → ∃ q, atKey xs (keyP z b) = some q ∧ RelV v q.2
  | _, _, .nil, z, b, v, e => nomatch e
  | x :: xs, y :: l, .cons h t, z, b, v, e => by
    unfold atP atKey at *
    rw [List.find?_cons] at e ⊢
    rw [h.1, keyP_dec]
    by_cases q : y.z = z ∧ y.b = b
    · rw [decide_eq_true q] at e ⊢
      cases e
      exact ⟨_, rfl, h.2.2⟩
    · rw [decide_eq_false q] at e ⊢
      exact atP_of t e
theorem dicP_of {P : Program} {w : World} {H : Hp} {h : Heap} {c : Option Obj} {p : Addr} {l : List EnP} (ok : HOk P w H h) (e : H p = some (DicP P w c p l)) (hk : KeysP H l) :
    l.length ≤ sizeLine ∧ (p == sysModules) = false ∧ (l.map fun y => keyP y.z y.b).Nodup ∧ ∃ xs, h.DictOfH (tkP P w) p xs ∧ PairP xs l := by
  have := ok p _ e
  unfold DicP ObjOk at this
  obtain ⟨⟨o, es, ep, xs, _, h1, h2, h3, h4, h5, h6, h7, h8⟩, _⟩ := this
  refine ⟨h7, h8, h6, xs, ⟨o, es, ep, h1, h2, h3, h4, fun x hx => ?_, by rw [pairP_keys h5]; exact h6⟩, h5⟩
  obtain ⟨y, hy, e1, e2⟩ := pairP_all h5 x hx
  rw [e1, e2]
  exact key_P ok (hk y hy)
theorem dicP_new {P : Program} {w : World} {H : Hp} {h : Heap} {p : Addr} {l : List EnP} {xs : List (List Leaf × Addr × Value)} (dd : h.DictOfH (tkP P w) p xs) (pr : PairP xs l) (hl : l.length ≤ sizeLine) (hp : (p == sysModules) = false) : ObjOk P w H h p (DicP P w none p l) := by
  obtain ⟨o, es, ep, h1, h2, h3, h4, h5, h6⟩ := dd
  rw [pairP_keys pr] at h6
  unfold DicP ObjOk
  refine ⟨?_, ⟨o, h1⟩, ?_⟩
  · exact ⟨o, es, ep, xs, (fun q e => nomatch e), h1, h2, h3, h4, pr, h6, hl, hp⟩
  · intro a1 a2 hh k
    obtain ⟨o, es, ep, xs, h0, h1, h⟩ := hh
    exact ⟨o, es, ep, xs, h0, k _ h1, h⟩
/-- d[z, b] -/
def rGetP (P : Program) (w : World) : V → V → Hp → VK → Prop := fun o i H Q => ∃ (c : Option Obj) (p a : Addr) (l : List EnP) (z : Str) (b : Bool) (v : V), o = .ref p ∧ i = .ref a ∧ H p = some (DicP P w c p l) ∧ KeysP H l ∧ H a = some (.tup [.str z, .bl b]) ∧ atP l z b = some v ∧ Q v H
theorem pget_P {X : Cx} (hu : X.A.units + 1 < cLine) : PGet X (rGetP X.prog X.w) := by
  intro pins s σ H o i ov iv Q I r1 r2 ⟨c, p, a, l, z, b, v, e1, e2, hp, hk, ha, hv, q⟩
  subst e1 e2
  obtain rfl : ov = Value.ref p := r1
  obtain rfl : iv = Value.ref a := r2
  obtain ⟨_, _, _, xs, dd, pr⟩ := dicP_of I.hok hp hk
  obtain ⟨u, hu2, rv⟩ := atP_of pr hv
  exact wpAny_getItem_heap (tupleKind_room_in1 hu) (key_P I.hok ha) dd hu2 ⟨v, H, I.tok _, rv, q⟩
def tGetP (P : Program) (w : World) (td ty : TE) : TE := fun σ H Q => td σ H fun o H1 => ty σ H1 fun i H2 => rGetP P w o i H2 Q
theorem pe_getP {X : Cx} {o i : Expr} {pos : Pos} {td ty : TE} (hu : X.A.units + 1 < cLine) (ho : PE X o td) (hi : PE X i ty) (hs : NoSl i) : PE X (.Subscript o i pos) (tGetP X.prog X.w td ty) := by
  refine ⟨fun pins s σ H Q I h => ?_⟩
  refine subD_of PySem.F.slot_dict_getitem.lookup hs (thn (ho.run pins s σ H _ I h) fun u s1 ⟨x, H1, I1, rx, q1⟩ => thn (hi.run pins s1 σ H1 _ I1 q1) fun iv s2 ⟨y, H2, I2, ry, q2⟩ => ?_)
  refine ⟨?_, pget_P hu pins s2 σ H2 x y u iv Q I2 rx ry q2⟩
  obtain ⟨c, p, a, l, z, b, v, e1, e2, hp, hk, _⟩ := q2
  subst e1
  obtain rfl : u = Value.ref p := rx
  obtain ⟨_, _, _, xs, dd, _⟩ := dicP_of I2.hok hp hk
  exact dd.typeIs
theorem putP_pair : ∀ {xs : List (List Leaf × Addr × Value)} {l : List EnP}, PairP xs l → ∀ (z : Str) (b : Bool) (v : V) (r : Value), RelV v r → PairP (xs.map (putAt (keyP z b) r)) (putP l z b v)
  | _, _, .nil, z, b, v, r, rv => .nil
  | x :: xs, y :: l, .cons h t, z, b, v, r, rv => by
    refine .cons ?_ (putP_pair t z b v r rv)
    unfold putAt
    dsimp only
    by_cases q : y.z = z ∧ y.b = b
    · rw [if_pos q, if_pos (show x.1 = keyP z b by rw [h.1, q.1, q.2])]
      exact ⟨h.1, h.2.1, rv⟩
    · rw [if_neg q, if_neg (fun e => q (keyP_inj (h.1.symm.trans e)))]
      exact h
/-- d[z, b] = v, where (z, b) is a key of d -/
def rSetP (P : Program) (w : World) : TSet := fun o i v H Q => ∃ (c : Option Obj) (p a : Addr) (l : List EnP) (z : Str) (b : Bool) (u : V), o = .ref p ∧ i = .ref a ∧ H p = some (DicP P w c p l) ∧ KeysP H l ∧ H a = some (.tup [.str z, .bl b]) ∧ atP l z b = some u ∧ Q (upd H p (DicP P w none p (putP l z b v)))
theorem pset_P {X : Cx} (hu : X.A.units + 1 < cLine) : PSet X (rSetP X.prog X.w) := by
  intro pins s σ H o i v ov iv r Q I r1 r2 r3 ⟨c, p, a, l, z, b, u, e1, e2, hp, hk, ha, hv, q⟩
  subst e1 e2
  obtain rfl : ov = Value.ref p := r1
  obtain rfl : iv = Value.ref a := r2
  obtain ⟨hl, hsys, nd, xs, dd, pr⟩ := dicP_of I.hok hp hk
  obtain ⟨u2, hu2, _⟩ := atP_of pr hv
  refine wpAny_setItem_heap (hsz := by rw [pairP_len pr]; exact hl) (tupleKind_room_in1 hu) (key_P I.hok ha) dd fun h' dd' hs => ⟨_, ?_, q⟩
  rw [storedH_old hu2] at dd'
  have he : ∃ q, h'.get? p = some q := let ⟨q, _, _, hq, _⟩ := dd'; ⟨q, hq⟩
  exact d_write I (by rw [hp]; exact True.intro) hs he (dicP_new dd' (putP_pair pr z b v r r3) (by unfold putP; rw [List.length_map]; exact hl) hsys)
theorem atP_none : ∀ {xs : List (List Leaf × Addr × Value)} {l : List EnP}, PairP xs l → ∀ {z : Str} {b : Bool}, atP l z b = none → atKey xs (keyP z b) = none
  | _, _, .nil, z, b, e => rfl
  | x :: xs, y :: l, .cons h t, z, b, e => by
    unfold atP atKey at *
    rw [List.find?_cons] at e ⊢
    rw [h.1, keyP_dec]
    by_cases q : y.z = z ∧ y.b = b
    · rw [decide_eq_true q] at e
      exact nomatch e
    · rw [decide_eq_false q] at e ⊢
      exact atP_none t e
theorem dicP_empty {P : Program} {w : World} {H : Hp} (h : Heap) (hb : (h.objs.size == sysModules) = false) : ObjOk P w H (h.push { cls := .type "dict", data := .dict #[] }) h.objs.size (DicP P w none h.objs.size []) :=
  dicP_new (xs := []) (Heap.DictOfH.new h) .nil (Nat.zero_le _) hb
/-- a new key of a dict that is being made -/
theorem d_dictSetP {X : Cx} {pins : List (Addr × Obj)} {σ : St} {H : Hp} {s : Shared} {E : Value → Shared → Prop} {c : Option Obj} {D a : Addr} {l : List EnP} {z : Str} {b : Bool} {v : V} {r : Value} {Q : Unit → Shared → Prop} (hu : X.A.units + 1 < cLine) (I : Inv X pins σ H s) (hD : H D = some (DicP X.prog X.w c D l)) (hk : KeysP H l)
    (ha : H a = some (.tup [.str z, .bl b])) (hn : atP l z b = none) (hl : l.length < sizeLine) (rv : RelV v r) (h : ∀ s', Inv X pins σ (upd H D (DicP X.prog X.w none D (l ++ [⟨z, b, a, v⟩]))) s' → Q () s') : wpAny (model X.prog X.w) X.A (dictSet D (.ref a) r) Q E s := by
  obtain ⟨_, hsys, nd, xs, dd, pr⟩ := dicP_of I.hok hD hk
  have hn2 := atP_none pr hn
  refine wpAny_dictSet_heap (hsz := by rw [pairP_len pr]; exact Nat.le_of_lt hl) (show (tkP X.prog X.w).room X.A from Nat.lt_of_succ_lt hu) (key_P I.hok ha) dd fun h' dd' hs => h _ ?_
  rw [storedH_new hn2] at dd'
  have he : ∃ q, h'.get? D = some q := let ⟨q, _, _, hq, _⟩ := dd'; ⟨q, hq⟩
  exact d_write I (by rw [hD]; exact True.intro) hs he (dicP_new dd' (Paired.snoc pr ⟨rfl, rfl, rv⟩) (by rw [List.length_append]; exact hl) hsys)
theorem atP_put {z : Str} {b : Bool} {v : V} {z' : Str} {b' : Bool} : ∀ l : List EnP, atP (putP l z b v) z' b' = if z = z' ∧ b = b' then (atP l z' b').map fun _ => v else atP l z' b'
  | [] => by
    show none = if z = z' ∧ b = b' then (none : Option V).map _ else none
    split <;> rfl
  | y :: l => by
    have ih := atP_put (z := z) (b := b) (v := v) (z' := z') (b' := b') l
    unfold atP putP at ih ⊢
    rw [List.map_cons, List.find?_cons, List.find?_cons]
    by_cases q : y.z = z ∧ y.b = b
    · rw [if_pos q]
      by_cases q2 : z = z' ∧ b = b'
      · rw [if_pos q2, decide_eq_true (show y.z = z' ∧ y.b = b' from ⟨q.1.trans q2.1, q.2.trans q2.2⟩)]
        rfl
      · have q3 : ¬ (y.z = z' ∧ y.b = b') := fun e => q2 ⟨q.1.symm.trans e.1, q.2.symm.trans e.2⟩
        rw [if_neg q2] at ih ⊢
        rw [decide_eq_false q3]
        exact ih
    · rw [if_neg q]
      by_cases q3 : y.z = z' ∧ y.b = b'
      · have q2 : ¬ (z = z' ∧ b = b') := fun e => q ⟨q3.1.trans e.1.symm, q3.2.trans e.2.symm⟩
        rw [if_neg q2, decide_eq_true q3]
      · rw [decide_eq_false q3]
        exact ih
theorem atP_snoc {y : EnP} {z : Str} {b : Bool} : ∀ l : List EnP, atP (l ++ [y]) z b = (atP l z b).or (if y.z = z ∧ y.b = b then some y.v else none)
  | [] => by
    unfold atP
    rw [List.nil_append, List.find?_cons]
    by_cases q : y.z = z ∧ y.b = b
    · rw [decide_eq_true q, if_pos q]; rfl
    · rw [decide_eq_false q, if_neg q]; rfl
  | x :: l => by
    have ih := atP_snoc (y := y) (z := z) (b := b) l
    unfold atP at ih ⊢
    rw [List.cons_append, List.find?_cons, List.find?_cons]
    by_cases q : x.z = z ∧ x.b = b
    · rw [decide_eq_true q]; rfl
    · rw [decide_eq_false q]; exact ih
theorem KeysP.put {H : Hp} {l : List EnP} (k : KeysP H l) (z : Str) (b : Bool) (v : V) : KeysP H (putP l z b v) := fun y hy => by
  obtain ⟨x, hx, e⟩ := List.mem_map.mp hy
  by_cases q : x.z = z ∧ x.b = b
  · rw [if_pos q] at e
    subst e
    exact k x hx
  · rw [if_neg q] at e
    subst e
    exact k x hx
theorem KeysP.snoc {H : Hp} {l : List EnP} {y : EnP} (k : KeysP H l) (h : H y.a = some (.tup [.str y.z, .bl y.b])) : KeysP H (l ++ [y]) := fun x hx => by
  rcases List.mem_append.mp hx with hx | hx
  · exact k x hx
  · cases List.mem_singleton.mp hx
    exact h
end Ts

set_option maxRecDepth 100000
set_option maxHeartbeats 4000000
namespace Ts
open PySem PySem.Spec PyProof.Rows L2
/-! ### dict comprehensions whose keys are of any sort that a `Store` speaks of -/
/-- how a comprehension puts into the dict that it makes -/
structure Store (P : Program) (w : World) where
  new : Addr → HO
  put : Addr → V → V → Hp → (Hp → Prop) → Prop
  empty : ∀ (H : Hp) (h : Heap), sysModules < h.objs.size → ObjOk P w H (h.push { cls := .type "dict", data := .dict #[] }) h.objs.size (new h.objs.size)
  run : ∀ {X : Cx} {pins : List (Addr × Obj)} {σ : L2.St} {H : Hp} {s : Shared} {E : Value → Shared → Prop} {D : Addr} {y z : V} {u r : Value} {N : Hp → Prop} {Q : Unit → Shared → Prop}, X.prog = P → X.w = w → X.A.units + 1 < cLine → Inv X pins σ H s → RelV y u → RelV z r → put D y z H N →
    (∀ H' s', Inv X pins σ H' s' → N H' → Q () s') → wpAny (model X.prog X.w) X.A (dictSet D u r) Q E s
/-- pairs of a text and a truth as keys -/
def storeP (P : Program) (w : World) : Store P w where
  new := fun a => DicP P w none a []
  put := fun D y z H N => ∃ (c : Option Obj) (l : List EnP) (a : Addr) (t : Str) (b : Bool), y = .ref a ∧ H D = some (DicP P w c D l) ∧ KeysP H l ∧ H a = some (.tup [.str t, .bl b]) ∧ atP l t b = none ∧ l.length < sizeLine ∧ N (upd H D (DicP P w none D (l ++ [⟨t, b, a, z⟩])))
  empty := fun H h hb => dicP_empty h (beq_eq_false_iff_ne.mpr fun e => absurd hb (by rw [e]; exact Nat.lt_irrefl _))
  run := fun hP hw hu I ry rz hput h => by
    subst hP hw
    obtain ⟨c, l, a, t, b, rfl, hD, hk, ha, hn, hl, nx⟩ := hput
    cases ry
    exact d_dictSetP hu I hD hk ha hn hl rz fun s' I' => h _ s' I' nx
section
variable {kx vx ta ia tb ib : Expr} {qa qb : List Expr} {scope : Scope} {pos : Pos} {env : Env} {it acc : Value}
theorem turnD_out : compTurn (.DictComp kx vx [⟨ta, ia, qa, 0⟩, ⟨tb, ib, qb, 0⟩] scope pos) 0 it acc env = (do
      standAt ia.pos
      match ← pyNext it with
      | none => pure (.done .next)
      | some thing =>
        letOwnedTupleGo ta it thing
        assign ta env thing
        let mut fine := true
        for q in qa do
          if fine then fine ← isTrue q env (eval q env)
        if fine then
          let src ← eval ib env
          standAt ib.pos
          let src ← foldedSetIterable ib env src
          let _ ← runOwn (.compStart (.DictComp kx vx [⟨ta, ia, qa, 0⟩, ⟨tb, ib, qb, 0⟩] scope pos) 1 (← holding [src] (pyIter src)) acc env) env
        again (.compLoop (.DictComp kx vx [⟨ta, ia, qa, 0⟩, ⟨tb, ib, qb, 0⟩] scope pos) 0 it acc env)) := by rfl
theorem turnD_in {D : Addr} : compTurn (.DictComp kx vx [⟨ta, ia, qa, 0⟩, ⟨tb, ib, qb, 0⟩] scope pos) 1 it (.ref D) env = (do
      standAt ib.pos
      match ← pyNext it with
      | none => pure (.done .next)
      | some thing =>
        letOwnedTupleGo tb it thing
        assign tb env thing
        let mut fine := true
        for q in qb do
          if fine then fine ← isTrue q env (eval q env)
        if fine then
          (do
            let key ← eval kx env
            let val ← holding [key] (eval vx env)
            standAt { kx.pos with endLine := vx.pos.endLine, endCol := vx.pos.endCol }
            holding [key, val] (dictSet D key val))
        again (.compLoop (.DictComp kx vx [⟨ta, ia, qa, 0⟩, ⟨tb, ib, qb, 0⟩] scope pos) 1 it (.ref D) env)) := by rfl
variable {prog : Program} {w : World} {A : Around} {R : Result → Shared → Prop}
abbrev ErrN (prog : Program) (w : World) (A : Around) (env : Env) (R : Result → Shared → Prop) := notedBy (model prog w) A env fun e s' => R (.error e) s'
abbrev testsN (qs : List Expr) (env : Env) : Sem Bool := forIn qs true fun c r => if r = true then do let ok ← isTrue c env (eval c env); pure (ForInStep.yield ok) else pure (ForInStep.yield r)
/-- the outer loop -/
theorem loopD_out (plain : ∀ x, foldedSetIterable ib env x = pure x) (M : Nat → Shared → Prop)
    (turn : ∀ n s, M n s → wpAny (model prog w) A (pyNext it) (fun got s1 => match got with
      | none => R (.ok .next) s1
      | some thing => wpAny (model prog w) A (letOwnedTupleGo ta it thing) (fun _ s2 => wpAny (model prog w) A (assign ta env thing) (fun _ s3 => wpAny (model prog w) A (testsN qa env) (fun fine s4 =>
          if fine = true then wpAny (model prog w) A (eval ib env) (fun src s5 => wpAny (model prog w) A (pyIter src) (fun itb s6 =>
              codeAny (model prog w) A (.compStart (.DictComp kx vx [⟨ta, ia, qa, 0⟩, ⟨tb, ib, qb, 0⟩] scope pos) 1 itb acc env) (fun r s' => match r with
                | .ok _ => ∃ m, m < n ∧ M m s'
                | .error _ => False) s6) (ErrN prog w A env R) s5) (ErrN prog w A env R) s4
          else ∃ m, m < n ∧ M m s4) (ErrN prog w A env R) s3) (ErrN prog w A env R) s2) (ErrN prog w A env R) s1) (ErrN prog w A env R) s)
    (n : Nat) {s : Shared} (h : M n s) : codeAny (model prog w) A (.compLoop (.DictComp kx vx [⟨ta, ia, qa, 0⟩, ⟨tb, ib, qb, 0⟩] scope pos) 0 it acc env) R s := by
  refine codeAny_loop rfl M (fun n s hM => ?_) n h
  show wpAny _ A ((compTurn (.DictComp kx vx [⟨ta, ia, qa, 0⟩, ⟨tb, ib, qb, 0⟩] scope pos) 0 it acc env).onRaise (fun x => do noteFrame x env; theTreesLotGoes x)) _ _ s
  refine wpAny_noted ?_
  rw [turnD_out]
  refine wpAny_bind (wpAny_standAt (wpAny_bind (wpAny_mono (turn n s hM) (fun got s1 g1 => ?_) fun _ _ z => z)))
  match got, g1 with
  | none, g1 => exact wpAny_pure g1
  | some thing, g1 =>
    refine wpAny_bind (wpAny_mono g1 (fun _ s2 g2 => ?_) fun _ _ z => z)
    refine wpAny_bind (wpAny_mono g2 (fun _ s3 g3 => wpAny_bind (wpAny_mono g3 (fun fine s4 g4 => ?_) fun _ _ z => z)) fun _ _ z => z)
    match fine, g4 with
    | false, g4 => exact wpAny_pure ⟨rfl, g4⟩
    | true, g4 =>
      refine wpAny_bind (wpAny_mono g4 (fun src s5 g5 => ?_) fun _ _ z => z)
      refine wpAny_bind (wpAny_standAt (wpAny_bind (wpAny_of_eq (plain src) (wpAny_bind (wpAny_holding (wpAny_mono g5 (fun itb s6 g6 => ?_) fun _ _ z => z))))))
      refine wpAny_bind (wpAny_runOwn ?_)
      rw [Around.mark_none]
      refine codeAny_mono g6 fun r s' hr => ?_
      match r, hr with
      | .ok f, hr =>
        first
          | exact wpAny_pure ⟨rfl, hr⟩
          | exact wpAny_bind (wpAny_pure (wpAny_pure ⟨rfl, hr⟩))
      | .error e, hr => exact hr.elim
/-- the inner loop -/
theorem loopD_in {D : Addr} (M : Nat → Shared → Prop)
    (turn : ∀ n s, M n s → wpAny (model prog w) A (pyNext it) (fun got s1 => match got with
      | none => R (.ok .next) s1
      | some thing => wpAny (model prog w) A (letOwnedTupleGo tb it thing) (fun _ s2 => wpAny (model prog w) A (assign tb env thing) (fun _ s3 => wpAny (model prog w) A (testsN qb env) (fun fine s4 =>
          if fine = true then wpAny (model prog w) A (eval kx env) (fun key s5 => wpAny (model prog w) A (eval vx env) (fun val s6 => wpAny (model prog w) A (dictSet D key val) (fun _ s7 => ∃ m, m < n ∧ M m s7) (ErrN prog w A env R) s6) (ErrN prog w A env R) s5) (ErrN prog w A env R) s4
          else ∃ m, m < n ∧ M m s4) (ErrN prog w A env R) s3) (ErrN prog w A env R) s2) (ErrN prog w A env R) s1) (ErrN prog w A env R) s)
    (n : Nat) {s : Shared} (h : M n s) : codeAny (model prog w) A (.compLoop (.DictComp kx vx [⟨ta, ia, qa, 0⟩, ⟨tb, ib, qb, 0⟩] scope pos) 1 it (.ref D) env) R s := by
  refine codeAny_loop rfl M (fun n s hM => ?_) n h
  show wpAny _ A ((compTurn (.DictComp kx vx [⟨ta, ia, qa, 0⟩, ⟨tb, ib, qb, 0⟩] scope pos) 1 it (.ref D) env).onRaise (fun x => do noteFrame x env; theTreesLotGoes x)) _ _ s
  refine wpAny_noted ?_
  rw [turnD_in]
  refine wpAny_bind (wpAny_standAt (wpAny_bind (wpAny_mono (turn n s hM) (fun got s1 g1 => ?_) fun _ _ z => z)))
  match got, g1 with
  | none, g1 => exact wpAny_pure g1
  | some thing, g1 =>
    refine wpAny_bind (wpAny_mono g1 (fun _ s2 g2 => ?_) fun _ _ z => z)
    refine wpAny_bind (wpAny_mono g2 (fun _ s3 g3 => wpAny_bind (wpAny_mono g3 (fun fine s4 g4 => ?_) fun _ _ z => z)) fun _ _ z => z)
    match fine, g4 with
    | false, g4 => exact wpAny_pure ⟨rfl, g4⟩
    | true, g4 => exact wpAny_bind (wpAny_bind (wpAny_mono g4 (fun key s5 g5 => wpAny_bind (wpAny_holding (wpAny_mono g5 (fun val s6 g6 => wpAny_bind (wpAny_standAt (wpAny_holding (wpAny_mono g6 (fun _ s7 g7 => wpAny_pure ⟨rfl, g7⟩) fun _ _ z => z)))) fun _ _ z => z))) fun _ _ z => z))
theorem startD_in {s : Shared} (h0 : codeAny (model prog w) A (.compLoop (.DictComp kx vx [⟨ta, ia, qa, 0⟩, ⟨tb, ib, qb, 0⟩] scope pos) 1 it acc env) R s)
    (h : wpAny (model prog w) A (pyIter it) (fun it' s' => codeAny (model prog w) A (.compLoop (.DictComp kx vx [⟨ta, ia, qa, 0⟩, ⟨tb, ib, qb, 0⟩] scope pos) 1 it' acc env) R s') (ErrN prog w A env R) s) :
    codeAny (model prog w) A (.compStart (.DictComp kx vx [⟨ta, ia, qa, 0⟩, ⟨tb, ib, qb, 0⟩] scope pos) 1 it acc env) R s := by
  refine codeAny_of_tree ?_
  show wpAny _ _ ((compStart (.DictComp kx vx [⟨ta, ia, qa, 0⟩, ⟨tb, ib, qb, 0⟩] scope pos) 1 it acc env).onRaise (fun x => do noteFrame x env; standAt theWindowsPlace)) _ _ s
  refine wpAny_notedAt ?_
  unfold compStart
  show wpAny _ _ (ask >>= _) _ _ s
  refine wpAny_bind (wpAny_askSetting (wpAny_ite ?_))
  split
  · first
      | exact wpAny_bind (wpAny_pure (wpAny_pure ⟨rfl, h0⟩))
      | exact wpAny_pure ⟨rfl, h0⟩
  · first
      | exact wpAny_bind (wpAny_rule (wpAny_bind (wpAny_standAt (wpAny_bind (wpAny_mono h (fun it2 s2 g2 => wpAny_pure ⟨rfl, g2⟩) fun _ _ z => z)))))
      | (refine wpAny_bind (wpAny_rule ?_); show wpAny _ _ (standAt ib.pos >>= _) _ _ s; exact wpAny_bind (wpAny_standAt (wpAny_bind (wpAny_mono h (fun it2 s2 g2 => wpAny_pure ⟨rfl, g2⟩) fun _ _ z => z))))
end
end Ts

set_option maxRecDepth 100000
set_option maxHeartbeats 4000000
namespace Ts
open PySem PySem.Spec PyProof.Rows L2
section
variable {X : Cx}
abbrev BlkP (X : Cx) (scope : Scope) (F : Cx → Prop) : Prop := ∀ (s : Shared) (H : Hp) (C : Addr) (cl : List (Str × Addr)) (fp : List Addr), F (X.blk s H scope (compEnvC scope cl C X.env) fp)
/-- {k: v for ta in ia if .. for tb in ib if ..} -/
def tDc2 (S : Store X.prog X.w) (wa : TI) (ga : TG) (qa : TT) (wb : TI) (gb : TG) (qb : TT) (tk tv : TE) (vs vsb : List Nat) : TE := fun σ H Q => wa σ H fun J H1 => ∀ D, H1 D = none → ∃ W : Nat → Nat → Hp → Prop, (∃ m, W 0 m (upd H1 D (S.new D))) ∧ ∀ i m H, W i m H →
  (J.stop i H ∧ Q (.ref D) H) ∨ (J.go i H ∧ ∃ N : Hp → Prop, (∀ H', N H' → ∃ m', m' < m ∧ W (i + 1) m' H') ∧ ∀ x H', J.yld i H x H' → ga x (wipe σ vs) H' fun σ2 H2 => wipe σ2 vs = wipe σ vs ∧ qa σ2 H2 fun fine H3 =>
    if fine = true then wb σ2 H3 fun Jb H4 => ∃ Wb : Nat → Nat → Hp → Prop, (∃ m, Wb 0 m H4) ∧ ∀ j k H, Wb j k H →
      (Jb.stop j H ∧ N H) ∨ (Jb.go j H ∧ ∃ Nb : Hp → Prop, (∀ H', Nb H' → ∃ k', k' < k ∧ Wb (j + 1) k' H') ∧ ∀ x H', Jb.yld j H x H' → gb x (wipe σ2 vsb) H' fun σ3 H5 => wipe σ3 vsb = wipe σ2 vsb ∧ qb σ3 H5 fun fineb H6 =>
        if fineb = true then tk σ3 H6 fun y H7 => tv σ3 H7 fun z H8 => S.put D y z H8 Nb else Nb H6)
    else N H3)
theorem dc2_core {pins : List (Addr × Obj)} {s : Shared} {σ : L2.St} {H : Hp} {Q : VK} {kx vx ta ia tb ib : Expr} {ca cb : List Expr} {scope : Scope} {own : List (Str × Nat)} {vsb : List Nat} {pos pos' : Pos} {wa wb : TI} {ga gb : TG} {qa qb : TT} {tk tv : TE} {use : Option (Value → Sem Unit)} {Qf : Value → Shared → Prop} (S : Store X.prog X.w)
    (hu : X.A.units + 1 < cLine) (hc : X.calm = true) (hN : X.N.Nodup) (I : Inv X pins σ H s) (hi : PI X ta ia wa) (ok : BlkOk X.N X.env.scope scope own) (hv : ∀ i ∈ vsb, i ∈ own.map (·.2))
    (hg : BlkP X scope fun Y => PG Y ta ga) (ht : BlkP X scope fun Y => PTs Y ca qa) (hib : BlkP X scope fun Y => PI Y tb ib wb) (hgb : BlkP X scope fun Y => PG Y tb gb) (htb : BlkP X scope fun Y => PTs Y cb qb) (hk : BlkP X scope fun Y => PE Y kx tk) (hz : BlkP X scope fun Y => PE Y vx tv)
    (pla : ∀ x, foldedSetIterable ia X.env x = pure x) (plb : ∀ env x, foldedSetIterable ib env x = pure x) (h : tDc2 S wa ga qa wb gb qb tk tv (own.map (·.2)) vsb σ H Q)
    (out : ∀ D C s' m H', Inv X pins σ H' s' → Q (.ref D) H' → s'.heap.Ns C m → FpOk X pins H' C → compPost (model X.prog X.w) X.A X.xe use Qf (.ref D) C (.ok .next) s') :
    wpAny (model X.prog X.w) X.A (comprehension (.DictComp kx vx [⟨ta, ia, ca, 0⟩, ⟨tb, ib, cb, 0⟩] scope pos) scope X.env pos' newDict false (eval ia X.env) use) Qf X.xe s := by
  have seen : ∀ y ∈ scope.names, y.2 = .free → ∃ c, X.env.cells.lookup y.1 = some c := fun y hy e => (ok.free y hy e).elim (fun k => I.ok.has _ (.inl k)) fun k => I.ok.has _ (.inr k)
  refine wpAny_comprehension_free (use := use) rfl pla (closure_ok seen) ok.kind (fun y hy e => by rw [ok.uniq y hy, e]) (thn (hi.run pins s σ H _ I h) fun _ s1 g1 => thn g1 fun _ s2 g2 => ?_)
  obtain ⟨it, fp, tn, J, H2, rfl, I2, T, st2, f2, q⟩ := g2
  refine wpAny_newObj_type (newEnv_comp ?_)
  generalize eD : s2.heap.objs.size = D
  obtain ⟨W, ⟨m0, w0⟩, turn⟩ := q D (I2.hok.fresh (Nat.le_of_eq eD))
  generalize e3 : ({ s2 with heap := s2.heap.push { cls := .type "dict", data := .dict #[] } } : Shared) = s3
  have hp3 : s3.heap = s2.heap.push { cls := .type "dict", data := .dict #[] } := by rw [← e3]
  have I3 : Inv X pins σ (upd H2 D (S.new D)) s3 := by
    rw [← e3]
    refine I2.laid (t' := s2.toks) (fun b o e => Heap.get?_push_of_some _ e) (Nat.le_of_eq eD) ?_
    rw [← eD]
    exact S.empty _ s2.heap I2.big
  have f3 : ∀ b ∈ fp, FpOk X pins (upd H2 D (S.new D)) b ∧ b < s3.heap.objs.size := fun b hb => by
    obtain ⟨o, eo, _⟩ := T.obj _ _ st2 b hb
    have lt := Heap.lt_size eo
    refine ⟨⟨?_, (f2 b hb).2⟩, by rw [hp3, Heap.size_push]; exact Nat.lt_succ_of_lt lt⟩
    rw [upd_ne (by rw [← eD]; exact Nat.ne_of_lt lt)]
    exact (f2 b hb).1
  have st3 : tn 0 s3.heap := T.keep _ _ _ st2 fun b _ o e => by rw [hp3]; exact Heap.get?_push_of_some _ e
  have I4 := block_start I3 ok hN f3
  generalize ec : cellsFrom (s3.heap.objs.size + 1) scope.names (cloFrom X.env.cells scope.names []) = cs at I4
  have pg := hg s3 (upd H2 D (S.new D)) s3.heap.objs.size cs fp
  have pt := ht s3 (upd H2 D (S.new D)) s3.heap.objs.size cs fp
  have pib := hib s3 (upd H2 D (S.new D)) s3.heap.objs.size cs fp
  have pgb := hgb s3 (upd H2 D (S.new D)) s3.heap.objs.size cs fp
  have ptb := htb s3 (upd H2 D (S.new D)) s3.heap.objs.size cs fp
  have pk := hk s3 (upd H2 D (S.new D)) s3.heap.objs.size cs fp
  have pz := hz s3 (upd H2 D (S.new D)) s3.heap.objs.size cs fp
  show codeAny _ _ (.compStart (.DictComp kx vx [⟨ta, ia, ca, 0⟩, ⟨tb, ib, cb, 0⟩] scope pos) 0 (.ref it) (.ref D) (compEnvC scope cs s3.heap.objs.size X.env)) (compPost (model X.prog X.w) X.A X.xe use Qf (.ref D) s3.heap.objs.size) { s3 with heap := pushCells (s3.heap.push { cls := .type "dict", data := .dict #[] }) scope.names }
  have nfp : ∀ b ∈ fp, (upd H2 D (S.new D)) b = none := fun b hb => (f3 b hb).1.1
  generalize ece : compEnvC scope cs s3.heap.objs.size X.env = ce at I4 pg pt pib pgb ptb pk pz ⊢
  have eL : ce.locals = s3.heap.objs.size := by subst ece; rfl
  generalize eH3 : upd H2 D (S.new D) = H3 at I3 I4 pg pt pib pgb ptb pk pz w0 nfp f3
  generalize e4 : ({ s3 with heap := pushCells (s3.heap.push { cls := .type "dict", data := .dict #[] }) scope.names } : Shared) = s4 at I4 ⊢
  have st4 : tn 0 s4.heap := T.keep _ _ _ st3 fun b _ o e => by rw [← e4]; exact pushCells_keeps _ _ _ _ (Heap.get?_push_of_some _ e)
  have still : ∀ {σ' : L2.St} {H' : Hp} {s' : Shared}, Inv (X.blk s3 H3 scope ce fp) [] σ' H' s' → (∀ b ∈ fp, H' b = none) → ∀ b ∈ fp, FpOk (X.blk s3 H3 scope ce fp) [] H' b := fun {σ' H' s'} I' hn b hb =>
    ⟨hn b hb, (I'.ok.exf b hb).1, I'.ok.exfs b hb, .inl hb, fun x c e => (I'.ok.exf b hb).2 x c e, fun p hp => nomatch (show p ∈ ([] : List (Addr × Obj)) from hp)⟩
  have outer : codeAny (model X.prog X.w) X.A (.compLoop (.DictComp kx vx [⟨ta, ia, ca, 0⟩, ⟨tb, ib, cb, 0⟩] scope pos) 0 (.ref it) (.ref D) ce) (compPost (model X.prog X.w) X.A X.xe use Qf (.ref D) s3.heap.objs.size) s4 := by
    refine loopD_out (plb ce) (fun n s' => ∃ i H', Inv (X.blk s3 H3 scope ce fp) [] (wipe σ (own.map (·.2))) H' s' ∧ tn i s'.heap ∧ (∀ b ∈ fp, H' b = none) ∧ W i n H') ?_ m0 ⟨0, H3, I4, st4, nfp, w0⟩
    rintro n s5 ⟨i, H5, I5, st5, n5, w5⟩
    rcases turn i n H5 w5 with ⟨stop, fin⟩ | ⟨go, N, hNx, step⟩
    · refine thnF (T.done (X.blk s3 H3 scope ce fp) rfl rfl rfl hc i [] s5 _ H5 (fun _ _ => False) I5 (still I5 n5) st5 stop) fun r s6 ⟨hr, I6⟩ => ?_
      subst hr
      have I7 : Inv X pins σ H5 s6 := I3.call' (ch := fp) I6.os I6.base I6.hok I6.bare fun b hb => ⟨(f3 b hb).1.2.2.2.1, (f3 b hb).1.2.1, (f3 b hb).1.2.2.2.2.1, (f3 b hb).1.2.2.2.2.2⟩
      have nL : H5 ce.locals = none := I6.free
      obtain ⟨m, ns, _⟩ := I6.loc
      have ns : s6.heap.Ns ce.locals m := ns
      rw [eL] at ns nL
      exact out D s3.heap.objs.size s6 m H5 I7 fin ns (I3.fpOk (Nat.le_refl _) nL)
    · refine thnF (T.item (X.blk s3 H3 scope ce fp) rfl rfl rfl hc i [] s5 _ H5 (fun _ _ => False) I5 (still I5 n5) st5 go) fun r s6 ⟨u, hr, g6⟩ => ?_
      subst hr
      refine thnF g6 fun _ s7 ⟨x, H7, I7, r7, y7, st7, n7⟩ => ?_
      refine thnF (pg.run _ s7 _ H7 x u _ (I7.pinned (still I7 n7) (T.obj _ _ st7)) r7 (step x H7 y7)) fun _ s8 ⟨σ8, H8, I8, hw8, q8⟩ => ?_
      refine thnF (pt.run _ s8 σ8 H8 _ I8 q8) fun fine s9 ⟨H9, I9, q9⟩ => ?_
      have ends : ∀ {σ9 : L2.St} {s' : Shared} {H' : Hp}, Inv (X.blk s3 H3 scope ce fp) ([] ++ pinsAt fp s7.heap) σ9 H' s' → (wipe σ (own.map (·.2))).length = σ9.length → (∀ (j : Nat) v, (wipe σ (own.map (·.2)))[j]? = some (some v) → σ9[j]? = some (some v)) → N H' →
          ∃ m, m < n ∧ ∃ i H', Inv (X.blk s3 H3 scope ce fp) [] (wipe σ (own.map (·.2))) H' s' ∧ tn i s'.heap ∧ (∀ b ∈ fp, H' b = none) ∧ W i m H' := fun {σ9 s' H'} I' hl hkp nx => by
        obtain ⟨m', hm, w'⟩ := hNx H' nx
        have pinned : ∀ b ∈ fp, ∀ o, s7.heap.get? b = some o → s'.heap.get? b = some o ∧ H' b = none := fun b hb o e =>
          let z := I'.pin (b, o) (List.mem_append_right _ (List.mem_append_right _ (mem_pinsAt hb e)))
          ⟨z.1, z.2.1⟩
        refine ⟨m', hm, i + 1, H', (I'.unpinned (pins := [])).weak hl hkp, T.keep _ _ _ st7 fun b hb o e => (pinned b hb o e).1, fun b hb => ?_, w'⟩
        obtain ⟨o, e, _⟩ := T.obj _ _ st7 b hb
        exact (pinned b hb o e).2
      have l8 : (wipe σ (own.map (·.2))).length = σ8.length := by rw [← hw8, wipe_length]
      have k8 : ∀ (j : Nat) v, (wipe σ (own.map (·.2)))[j]? = some (some v) → σ8[j]? = some (some v) := fun j v e => by
        rw [← hw8] at e
        exact (wipe_some e).1
      have k9 : ∀ (j : Nat) v, (wipe σ (own.map (·.2)))[j]? = some (some v) → (wipe σ8 vsb)[j]? = some (some v) := fun j v e => by
        rw [← hw8] at e
        obtain ⟨a1, a2⟩ := wipe_some e
        rw [wipe_out fun z => a2 (hv j z)]
        exact a1
      match fine, q9 with
      | false, q9 => exact ends I9 l8 k8 q9
      | true, q9 =>
        refine thnF (pib.run _ s9 σ8 H9 _ I9 q9) fun _ s10 g10 => thnF g10 fun _ s11 g11 => ?_
        obtain ⟨it1, fp1, tn1, J1, H11, rfl, I11, T1, st11, f11, W1, ⟨m1, w1⟩, turn1⟩ := g11
        have still1 : ∀ {H' : Hp}, (∀ b ∈ fp1, H' b = none) → ∀ b ∈ fp1, FpOk (X.blk s3 H3 scope ce fp) ([] ++ pinsAt fp s7.heap) H' b := fun hn b hb => ⟨hn b hb, (f11 b hb).2⟩
        have inner : codeAny (model X.prog X.w) X.A (.compLoop (.DictComp kx vx [⟨ta, ia, ca, 0⟩, ⟨tb, ib, cb, 0⟩] scope pos) 1 (.ref it1) (.ref D) ce)
            (fun r s' => match r with
              | .ok _ => ∃ m, m < n ∧ ∃ i H', Inv (X.blk s3 H3 scope ce fp) [] (wipe σ (own.map (·.2))) H' s' ∧ tn i s'.heap ∧ (∀ b ∈ fp, H' b = none) ∧ W i m H'
              | .error _ => False) s11 := by
          refine loopD_in (fun k s' => ∃ j H', Inv (X.blk s3 H3 scope ce fp) ([] ++ pinsAt fp s7.heap) (wipe σ8 vsb) H' s' ∧ tn1 j s'.heap ∧ (∀ b ∈ fp1, H' b = none) ∧ W1 j k H') ?_ m1 ⟨0, H11, I11.weak (wipe_length _ _) (fun j v e => (wipe_some e).1), st11, fun b hb => (f11 b hb).1, w1⟩
          rintro k s12 ⟨j, H12, I12, st12, n12, w12⟩
          rcases turn1 j k H12 w12 with ⟨stop1, nx1⟩ | ⟨go1, Nb, hNb, step1⟩
          · refine thnF (T1.done (X.blk s3 H3 scope ce fp) rfl rfl rfl hc j _ s12 (wipe σ8 vsb) H12 (fun _ _ => False) I12 (still1 n12) st12 stop1) fun r s13 ⟨hr, I13⟩ => ?_
            subst hr
            exact ends I13 (l8.trans (wipe_length σ8 vsb).symm) k9 nx1
          · refine thnF (T1.item (X.blk s3 H3 scope ce fp) rfl rfl rfl hc j _ s12 (wipe σ8 vsb) H12 (fun _ _ => False) I12 (still1 n12) st12 go1) fun r s13 ⟨u1, hr, g13⟩ => ?_
            subst hr
            refine thnF g13 fun _ s14 ⟨x1, H14, I14, r14, y14, st14, n14⟩ => ?_
            refine thnF (pgb.run _ s14 (wipe σ8 vsb) H14 x1 u1 _ (I14.pinned (still1 n14) (T1.obj _ _ st14)) r14 (step1 x1 H14 y14)) fun _ s15 ⟨σ15, H15, I15, hw15, q15⟩ => ?_
            refine thnF (ptb.run _ s15 σ15 H15 _ I15 q15) fun fineb s16 ⟨H16, I16, q16⟩ => ?_
            have ends1 : ∀ {s' : Shared} {H' : Hp}, Inv (X.blk s3 H3 scope ce fp) (([] ++ pinsAt fp s7.heap) ++ pinsAt fp1 s14.heap) σ15 H' s' → Nb H' → ∃ m, m < k ∧ ∃ j H', Inv (X.blk s3 H3 scope ce fp) ([] ++ pinsAt fp s7.heap) (wipe σ8 vsb) H' s' ∧ tn1 j s'.heap ∧ (∀ b ∈ fp1, H' b = none) ∧ W1 j m H' := fun {s' H'} I' nx => by
              obtain ⟨m', hm, w'⟩ := hNb H' nx
              have pinned : ∀ b ∈ fp1, ∀ o, s14.heap.get? b = some o → s'.heap.get? b = some o ∧ H' b = none := fun b hb o e =>
                let z := I'.pin (b, o) (List.mem_append_right _ (List.mem_append_right _ (mem_pinsAt hb e)))
                ⟨z.1, z.2.1⟩
              refine ⟨m', hm, j + 1, H', I'.unpinned.weak (by rw [← hw15, wipe_length]) (fun j v e => by rw [← hw15] at e; exact (wipe_some e).1), T1.keep _ _ _ st14 fun b hb o e => (pinned b hb o e).1, fun b hb => ?_, w'⟩
              obtain ⟨o, e, _⟩ := T1.obj _ _ st14 b hb
              exact (pinned b hb o e).2
            match fineb, q16 with
            | false, q16 => exact ends1 I16 q16
            | true, q16 =>
              refine thnF (pk.run _ s16 σ15 H16 _ I16 q16) fun _ s17 ⟨y, H17, I17, r17, q17⟩ => ?_
              refine thnF (pz.run _ s17 σ15 H17 _ I17 q17) fun _ s18 ⟨z, H18, I18, r18, q18⟩ => ?_
              exact S.run (X := X.blk s3 H3 scope ce fp) rfl rfl hu I18 r17 r18 q18 fun H' s' I' nx => ends1 I' nx
        exact startD_in inner (T1.self X.A 0 _ _ _ st11 inner)
  exact codeAny_compStart_dict outer (T.self X.A 0 _ _ _ st4 outer)
theorem ps_setDc2 {i : Nat} {y : Str} {py : Pos} {kx vx ta ia tb ib : Expr} {ca cb : List Expr} {scope : Scope} {own : List (Str × Nat)} {vsb : List Nat} {pos spos : Pos} {wa wb : TI} {ga gb : TG} {qa qb : TT} {tk tv : TE} (S : Store X.prog X.w) (hu : X.A.units + 1 < cLine) (hc : X.calm = true) (hN : X.N.Nodup) (hy : X.N[i]? = some y) (hyl : X.env.scope.names.lookup y = some .local)
    (hsw : swapsWith (.DictComp kx vx [⟨ta, ia, ca, 0⟩, ⟨tb, ib, cb, 0⟩] scope pos) (some (.Name y py)) spos.line X.env = pure true) (hi : PI X ta ia wa) (ok : BlkOk X.N X.env.scope scope own) (hv : ∀ i ∈ vsb, i ∈ own.map (·.2))
    (hg : BlkP X scope fun Y => PG Y ta ga) (ht : BlkP X scope fun Y => PTs Y ca qa) (hib : BlkP X scope fun Y => PI Y tb ib wb) (hgb : BlkP X scope fun Y => PG Y tb gb) (htb : BlkP X scope fun Y => PTs Y cb qb) (hk : BlkP X scope fun Y => PE Y kx tk) (hz : BlkP X scope fun Y => PE Y vx tv)
    (pla : ∀ x, foldedSetIterable ia X.env x = pure x := by intro _; rfl) (plb : ∀ env x, foldedSetIterable ib env x = pure x := by intro _ _; rfl) :
    PS X (.Assign [.Name y py] (.DictComp kx vx [⟨ta, ia, ca, 0⟩, ⟨tb, ib, cb, 0⟩] scope pos) spos) (tAsg (tDc2 S wa ga qa wb gb qb tk tv (own.map (·.2)) vsb) (gName i)) := by
  refine ⟨fun pins s σ H D I h => ?_⟩
  rw [exec_Assign_Name_used _ _ _ _ hsw]
  refine wpAny_bind (wpAny_standAt (wpAny_bind ?_))
  show wpAny _ X.A (do let _ ← comprehension (.DictComp kx vx [⟨ta, ia, ca, 0⟩, ⟨tb, ib, cb, 0⟩] scope pos) scope X.env (firstIterPos [⟨ta, ia, ca, 0⟩, ⟨tb, ib, cb, 0⟩] pos) newDict false (eval ia X.env) (some (assign (.Name y py) X.env))) _ _ s
  have h2 : tDc2 S wa ga qa wb gb qb tk tv (own.map (·.2)) vsb σ H (fun x H1 => gName i x σ H1 D.nx) := h
  refine wpAny_bind (thn (dc2_core (Qf := fun _ s' => SP X pins D .next s') S hu hc hN I hi ok hv hg ht hib hgb htb hk hz pla plb h2 fun L C s' m H' I' q hn f => ?_) fun _ s' z => wpAny_pure (wpAny_pure z))
  show wpAny _ _ (assign (.Name y py) X.env (.ref L)) _ _ _
  refine wpAny_assign_Name (store_ok2 (v := V.ref L) I' hN hy (.inl hyl) rfl (fun s2 I2 ⟨a, sb, za⟩ => ?_) (.inr hyl))
  obtain ⟨f0, f1, f2, f3, f4, f5⟩ := f
  have ca : C ≠ a := by
    rcases za with z | z
    · rw [z]; exact f1
    · exact fun e => f4 y a z e.symm
  refine ⟨m, hn.sameBut sb ca, fun h3 sb3 => ?_⟩
  exact ⟨_, H', I2.turned (t' := s2.toks) (fun b o hb e => (sb3.2 b hb).trans e) f0 f1 f3 f4 f5, q⟩
/-- {k: v for ta in ia if ..} -/
def tDc1 (S : Store X.prog X.w) (wa : TI) (ga : TG) (qa : TT) (tk tv : TE) (vs : List Nat) : TE := fun σ H Q => wa σ H fun J H1 => ∀ D, H1 D = none → ∃ W : Nat → Nat → Hp → Prop, (∃ m, W 0 m (upd H1 D (S.new D))) ∧ ∀ i m H, W i m H →
  (J.stop i H ∧ Q (.ref D) H) ∨ (J.go i H ∧ ∃ N : Hp → Prop, (∀ H', N H' → ∃ m', m' < m ∧ W (i + 1) m' H') ∧ ∀ x H', J.yld i H x H' → ga x (wipe σ vs) H' fun σ2 H2 => wipe σ2 vs = wipe σ vs ∧ qa σ2 H2 fun fine H3 =>
    if fine = true then tk σ2 H3 fun y H7 => tv σ2 H7 fun z H8 => S.put D y z H8 N else N H3)
theorem dc1_core {pins : List (Addr × Obj)} {s : Shared} {σ : L2.St} {H : Hp} {Q : VK} {kx vx ta ia : Expr} {ca : List Expr} {scope : Scope} {own : List (Str × Nat)} {pos pos' : Pos} {wa : TI} {ga : TG} {qa : TT} {tk tv : TE} {use : Option (Value → Sem Unit)} {Qf : Value → Shared → Prop} (S : Store X.prog X.w)
    (hu : X.A.units + 1 < cLine) (hc : X.calm = true) (hN : X.N.Nodup) (I : Inv X pins σ H s) (hi : PI X ta ia wa) (ok : BlkOk X.N X.env.scope scope own)
    (hg : BlkP X scope fun Y => PG Y ta ga) (ht : BlkP X scope fun Y => PTs Y ca qa) (hk : BlkP X scope fun Y => PE Y kx tk) (hz : BlkP X scope fun Y => PE Y vx tv)
    (pla : ∀ x, foldedSetIterable ia X.env x = pure x) (h : tDc1 S wa ga qa tk tv (own.map (·.2)) σ H Q)
    (out : ∀ D C s' m H', Inv X pins σ H' s' → Q (.ref D) H' → s'.heap.Ns C m → FpOk X pins H' C → compPost (model X.prog X.w) X.A X.xe use Qf (.ref D) C (.ok .next) s') :
    wpAny (model X.prog X.w) X.A (comprehension (.DictComp kx vx [⟨ta, ia, ca, 0⟩] scope pos) scope X.env pos' newDict false (eval ia X.env) use) Qf X.xe s := by
  have seen : ∀ y ∈ scope.names, y.2 = .free → ∃ c, X.env.cells.lookup y.1 = some c := fun y hy e => (ok.free y hy e).elim (fun k => I.ok.has _ (.inl k)) fun k => I.ok.has _ (.inr k)
  refine wpAny_comprehension_free (use := use) rfl pla (closure_ok seen) ok.kind (fun y hy e => by rw [ok.uniq y hy, e]) (thn (hi.run pins s σ H _ I h) fun _ s1 g1 => thn g1 fun _ s2 g2 => ?_)
  obtain ⟨it, fp, tn, J, H2, rfl, I2, T, st2, f2, q⟩ := g2
  refine wpAny_newObj_type (newEnv_comp ?_)
  generalize eD : s2.heap.objs.size = D
  obtain ⟨W, ⟨m0, w0⟩, turn⟩ := q D (I2.hok.fresh (Nat.le_of_eq eD))
  generalize e3 : ({ s2 with heap := s2.heap.push { cls := .type "dict", data := .dict #[] } } : Shared) = s3
  have hp3 : s3.heap = s2.heap.push { cls := .type "dict", data := .dict #[] } := by rw [← e3]
  have I3 : Inv X pins σ (upd H2 D (S.new D)) s3 := by
    rw [← e3]
    refine I2.laid (t' := s2.toks) (fun b o e => Heap.get?_push_of_some _ e) (Nat.le_of_eq eD) ?_
    rw [← eD]
    exact S.empty _ s2.heap I2.big
  have f3 : ∀ b ∈ fp, FpOk X pins (upd H2 D (S.new D)) b ∧ b < s3.heap.objs.size := fun b hb => by
    obtain ⟨o, eo, _⟩ := T.obj _ _ st2 b hb
    have lt := Heap.lt_size eo
    refine ⟨⟨?_, (f2 b hb).2⟩, by rw [hp3, Heap.size_push]; exact Nat.lt_succ_of_lt lt⟩
    rw [upd_ne (by rw [← eD]; exact Nat.ne_of_lt lt)]
    exact (f2 b hb).1
  have st3 : tn 0 s3.heap := T.keep _ _ _ st2 fun b _ o e => by rw [hp3]; exact Heap.get?_push_of_some _ e
  have I4 := block_start I3 ok hN f3
  generalize ec : cellsFrom (s3.heap.objs.size + 1) scope.names (cloFrom X.env.cells scope.names []) = cs at I4
  have pg := hg s3 (upd H2 D (S.new D)) s3.heap.objs.size cs fp
  have pt := ht s3 (upd H2 D (S.new D)) s3.heap.objs.size cs fp
  have pk := hk s3 (upd H2 D (S.new D)) s3.heap.objs.size cs fp
  have pz := hz s3 (upd H2 D (S.new D)) s3.heap.objs.size cs fp
  show codeAny _ _ (.compStart (.DictComp kx vx [⟨ta, ia, ca, 0⟩] scope pos) 0 (.ref it) (.ref D) (compEnvC scope cs s3.heap.objs.size X.env)) (compPost (model X.prog X.w) X.A X.xe use Qf (.ref D) s3.heap.objs.size) { s3 with heap := pushCells (s3.heap.push { cls := .type "dict", data := .dict #[] }) scope.names }
  have nfp : ∀ b ∈ fp, (upd H2 D (S.new D)) b = none := fun b hb => (f3 b hb).1.1
  generalize ece : compEnvC scope cs s3.heap.objs.size X.env = ce at I4 pg pt pk pz ⊢
  have eL : ce.locals = s3.heap.objs.size := by subst ece; rfl
  generalize eH3 : upd H2 D (S.new D) = H3 at I3 I4 pg pt pk pz w0 nfp f3
  generalize e4 : ({ s3 with heap := pushCells (s3.heap.push { cls := .type "dict", data := .dict #[] }) scope.names } : Shared) = s4 at I4 ⊢
  have st4 : tn 0 s4.heap := T.keep _ _ _ st3 fun b _ o e => by rw [← e4]; exact pushCells_keeps _ _ _ _ (Heap.get?_push_of_some _ e)
  have still : ∀ {σ' : L2.St} {H' : Hp} {s' : Shared}, Inv (X.blk s3 H3 scope ce fp) [] σ' H' s' → (∀ b ∈ fp, H' b = none) → ∀ b ∈ fp, FpOk (X.blk s3 H3 scope ce fp) [] H' b := fun {σ' H' s'} I' hn b hb =>
    ⟨hn b hb, (I'.ok.exf b hb).1, I'.ok.exfs b hb, .inl hb, fun x c e => (I'.ok.exf b hb).2 x c e, fun p hp => nomatch (show p ∈ ([] : List (Addr × Obj)) from hp)⟩
  have outer : codeAny (model X.prog X.w) X.A (.compLoop (.DictComp kx vx [⟨ta, ia, ca, 0⟩] scope pos) 0 (.ref it) (.ref D) ce) (compPost (model X.prog X.w) X.A X.xe use Qf (.ref D) s3.heap.objs.size) s4 := by
    refine compLoop_anyD (fun n s' => ∃ i H', Inv (X.blk s3 H3 scope ce fp) [] (wipe σ (own.map (·.2))) H' s' ∧ tn i s'.heap ∧ (∀ b ∈ fp, H' b = none) ∧ W i n H') ?_ m0 ⟨0, H3, I4, st4, nfp, w0⟩
    rintro n s5 ⟨i, H5, I5, st5, n5, w5⟩
    rcases turn i n H5 w5 with ⟨stop, fin⟩ | ⟨go, N, hNx, step⟩
    · refine thnF (T.done (X.blk s3 H3 scope ce fp) rfl rfl rfl hc i [] s5 _ H5 (fun _ _ => False) I5 (still I5 n5) st5 stop) fun r s6 ⟨hr, I6⟩ => ?_
      subst hr
      have I7 : Inv X pins σ H5 s6 := I3.call' (ch := fp) I6.os I6.base I6.hok I6.bare fun b hb => ⟨(f3 b hb).1.2.2.2.1, (f3 b hb).1.2.1, (f3 b hb).1.2.2.2.2.1, (f3 b hb).1.2.2.2.2.2⟩
      have nL : H5 ce.locals = none := I6.free
      obtain ⟨m, ns, _⟩ := I6.loc
      have ns : s6.heap.Ns ce.locals m := ns
      rw [eL] at ns nL
      exact out D s3.heap.objs.size s6 m H5 I7 fin ns (I3.fpOk (Nat.le_refl _) nL)
    · refine thnF (T.item (X.blk s3 H3 scope ce fp) rfl rfl rfl hc i [] s5 _ H5 (fun _ _ => False) I5 (still I5 n5) st5 go) fun r s6 ⟨u, hr, g6⟩ => ?_
      subst hr
      refine thnF g6 fun _ s7 ⟨x, H7, I7, r7, y7, st7, n7⟩ => ?_
      refine thnF (pg.run _ s7 _ H7 x u _ (I7.pinned (still I7 n7) (T.obj _ _ st7)) r7 (step x H7 y7)) fun _ s8 ⟨σ8, H8, I8, hw8, q8⟩ => ?_
      refine thnF (pt.run _ s8 σ8 H8 _ I8 q8) fun fine s9 ⟨H9, I9, q9⟩ => ?_
      have ends : ∀ {s' : Shared} {H' : Hp}, Inv (X.blk s3 H3 scope ce fp) ([] ++ pinsAt fp s7.heap) σ8 H' s' → N H' →
          ∃ m, m < n ∧ ∃ i H', Inv (X.blk s3 H3 scope ce fp) [] (wipe σ (own.map (·.2))) H' s' ∧ tn i s'.heap ∧ (∀ b ∈ fp, H' b = none) ∧ W i m H' := fun {s' H'} I' nx => by
        obtain ⟨m', hm, w'⟩ := hNx H' nx
        have pinned : ∀ b ∈ fp, ∀ o, s7.heap.get? b = some o → s'.heap.get? b = some o ∧ H' b = none := fun b hb o e =>
          let z := I'.pin (b, o) (List.mem_append_right _ (List.mem_append_right _ (mem_pinsAt hb e)))
          ⟨z.1, z.2.1⟩
        refine ⟨m', hm, i + 1, H', (I'.unpinned (pins := [])).weak (by rw [← hw8, wipe_length]) (fun j v e => by rw [← hw8] at e; exact (wipe_some e).1), T.keep _ _ _ st7 fun b hb o e => (pinned b hb o e).1, fun b hb => ?_, w'⟩
        obtain ⟨o, e, _⟩ := T.obj _ _ st7 b hb
        exact (pinned b hb o e).2
      match fine, q9 with
      | false, q9 => exact ends I9 q9
      | true, q9 =>
        refine thnF (pk.run _ s9 σ8 H9 _ I9 q9) fun _ s10 ⟨y, H10, I10, r10, q10⟩ => ?_
        refine thnF (pz.run _ s10 σ8 H10 _ I10 q10) fun _ s11 ⟨z, H11, I11, r11, q11⟩ => ?_
        exact S.run (X := X.blk s3 H3 scope ce fp) rfl rfl hu I11 r10 r11 q11 fun H' s' I' nx => ends I' nx
  exact codeAny_compStart_dict outer (T.self X.A 0 _ _ _ st4 outer)
/-- as a value -/
theorem pe_dc1 {kx vx ta ia : Expr} {ca : List Expr} {scope : Scope} {own : List (Str × Nat)} {pos : Pos} {wa : TI} {ga : TG} {qa : TT} {tk tv : TE} (S : Store X.prog X.w) (hu : X.A.units + 1 < cLine) (hc : X.calm = true) (hN : X.N.Nodup) (hi : PI X ta ia wa) (ok : BlkOk X.N X.env.scope scope own)
    (hg : BlkP X scope fun Y => PG Y ta ga) (ht : BlkP X scope fun Y => PTs Y ca qa) (hk : BlkP X scope fun Y => PE Y kx tk) (hz : BlkP X scope fun Y => PE Y vx tv) (pla : ∀ x, foldedSetIterable ia X.env x = pure x := by intro _; rfl) :
    PE X (.DictComp kx vx [⟨ta, ia, ca, 0⟩] scope pos) (tDc1 S wa ga qa tk tv (own.map (·.2))) := by
  refine ⟨fun pins s σ H Q I h => ?_⟩
  rw [arm_eval_DictComp]
  refine dc1_core S hu hc hN I hi ok hg ht hk hz pla h fun D C s' m H' I' q hn f => ⟨m, hn, fun h2 sb => ?_⟩
  obtain ⟨f0, f1, f2, f3, f4, f5⟩ := f
  exact ⟨.ref D, H', I'.turned (t' := s'.toks) (fun b o hb e => (sb.2 b hb).trans e) f0 f1 f3 f4 f5, rfl, q⟩
theorem ps_setDc1 {i : Nat} {y : Str} {py : Pos} {kx vx ta ia : Expr} {ca : List Expr} {scope : Scope} {own : List (Str × Nat)} {pos spos : Pos} {wa : TI} {ga : TG} {qa : TT} {tk tv : TE} (S : Store X.prog X.w) (hu : X.A.units + 1 < cLine) (hc : X.calm = true) (hN : X.N.Nodup) (hy : X.N[i]? = some y) (hyl : X.env.scope.names.lookup y = some .local)
    (hsw : swapsWith (.DictComp kx vx [⟨ta, ia, ca, 0⟩] scope pos) (some (.Name y py)) spos.line X.env = pure true) (hi : PI X ta ia wa) (ok : BlkOk X.N X.env.scope scope own)
    (hg : BlkP X scope fun Y => PG Y ta ga) (ht : BlkP X scope fun Y => PTs Y ca qa) (hk : BlkP X scope fun Y => PE Y kx tk) (hz : BlkP X scope fun Y => PE Y vx tv) (pla : ∀ x, foldedSetIterable ia X.env x = pure x := by intro _; rfl) :
    PS X (.Assign [.Name y py] (.DictComp kx vx [⟨ta, ia, ca, 0⟩] scope pos) spos) (tAsg (tDc1 S wa ga qa tk tv (own.map (·.2))) (gName i)) := by
  refine ⟨fun pins s σ H D I h => ?_⟩
  rw [exec_Assign_Name_used _ _ _ _ hsw]
  refine wpAny_bind (wpAny_standAt (wpAny_bind ?_))
  show wpAny _ X.A (do let _ ← comprehension (.DictComp kx vx [⟨ta, ia, ca, 0⟩] scope pos) scope X.env (firstIterPos [⟨ta, ia, ca, 0⟩] pos) newDict false (eval ia X.env) (some (assign (.Name y py) X.env))) _ _ s
  have h2 : tDc1 S wa ga qa tk tv (own.map (·.2)) σ H (fun x H1 => gName i x σ H1 D.nx) := h
  refine wpAny_bind (thn (dc1_core (Qf := fun _ s' => SP X pins D .next s') S hu hc hN I hi ok hg ht hk hz pla h2 fun L C s' m H' I' q hn f => ?_) fun _ s' z => wpAny_pure (wpAny_pure z))
  show wpAny _ _ (assign (.Name y py) X.env (.ref L)) _ _ _
  refine wpAny_assign_Name (store_ok2 (v := V.ref L) I' hN hy (.inl hyl) rfl (fun s2 I2 ⟨a, sb, za⟩ => ?_) (.inr hyl))
  obtain ⟨f0, f1, f2, f3, f4, f5⟩ := f
  have ca : C ≠ a := by
    rcases za with z | z
    · rw [z]; exact f1
    · exact fun e => f4 y a z e.symm
  refine ⟨m, hn.sameBut sb ca, fun h3 sb3 => ?_⟩
  exact ⟨_, H', I2.turned (t' := s2.toks) (fun b o hb e => (sb3.2 b hb).trans e) f0 f1 f3 f4 f5, q⟩
end
end Ts

set_option maxRecDepth 100000
set_option maxHeartbeats 4000000
namespace Ts
open PySem PySem.Spec PyProof.Rows L2
/-! ### a walk over the pairs that are the keys of a dict -/
theorem pairP_get {xs : List (List Leaf × Addr × Value)} {l : List EnP} (h : PairP xs l) : ∀ {i : Nat} {y : EnP}, l[i]? = some y → ∃ x, xs[i]? = some x ∧ x.2.1 = y.a := by
  induction h with
  | nil => intro i y e; simp at e
  | cons r t ih =>
    intro i y e
    cases i with
    | zero =>
      simp only [List.getElem?_cons_zero, Option.some.injEq] at e
      exact ⟨_, rfl, by rw [← e]; exact r.2.1⟩
    | succ j =>
      simp only [List.getElem?_cons_succ] at e ⊢
      exact ih e
section
variable {X : Cx} {pins : List (Addr × Obj)} {σ : L2.St} {H : Hp} {s : Shared} {d : Addr} {od : Obj} {c : Option Obj} {l : List EnP}
theorem frzP (I : Inv X pins σ H s) (h : H d = some (.frz od (DicP X.prog X.w c d l))) :
    (d == sysModules) = false ∧ s.heap.get? d = some od ∧ od.ExactDict ∧ ∃ (es : Array DictEntry) (ep : Nat), od.data = .dict es ep ∧ es.size = l.length ∧ ∀ (i : Nat) (y : EnP), l[i]? = some y → ∃ en, es[i]? = some en ∧ en.key = .ref y.a := by
  have z := I.hok d _ h
  unfold DicP ObjOk at z
  obtain ⟨hd, z⟩ := z
  unfold ObjOk at z
  obtain ⟨⟨o, es, ep, xs, _, h1, h2, h3, h4, h5, h6, h7, h8⟩, _⟩ := z
  rw [hd] at h1
  cases h1
  refine ⟨h8, hd, h2, es, ep, h3, ?_, fun i y hy => ?_⟩
  · have := size_of_entries h4
    rw [this, pairP_len h5]
  · obtain ⟨x, hx, hk⟩ := pairP_get h5 hy
    have := entry_at h4 i
    rw [hx] at this
    exact ⟨_, this, by rw [← hk]; rfl⟩
end
def ItP (P : Program) (w : World) (c : Option Obj) (p : Addr) (od : Obj) (l : List EnP) : It :=
  ⟨fun i H => H p = some (.frz od (DicP P w c p l)) ∧ i < l.length, fun i H x H' => H' = H ∧ ∃ y, l[i]? = some y ∧ x = .ref y.a, fun i H => H p = some (.frz od (DicP P w c p l)) ∧ l.length ≤ i⟩
theorem turnP {P : Program} {w : World} {K : PySem.W.Frag} {tg : Expr} {c : Option Obj} {d : Addr} {od : Obj} {es : Array DictEntry} {ep : Nat} {l : List EnP} (it : Addr) (hod : od.data = .dict es ep) :
    Turn P w K tg (ItP P w c d od l) [it] it (fun i h => h.IsKeyIter it d i l.length ep) where
  mem := List.mem_singleton_self it
  obj := fun i h st b hb => by
    cases List.mem_singleton.mp hb
    obtain ⟨oi, e, _, dd⟩ := st
    exact ⟨oi, e, fun v z => by rw [dd] at z; cases z⟩
  keep := fun i h h' st k => st.at fun oi e => k it (List.mem_singleton_self it) oi e
  item := by
    intro X hP hw hK hc i pins s σ H E I hf st hg
    subst hP hw hK
    obtain ⟨hd, hi⟩ := hg
    obtain ⟨f0, f1, f2, f3, f4, f5⟩ := hf it (List.mem_singleton_self it)
    obtain ⟨_, hgd, _, es', ep', hdt, hsz, ent⟩ := frzP I hd
    obtain ⟨rfl, rfl⟩ := dict_ep hod hdt
    obtain ⟨en, hen, hkey⟩ := ent i l[i] (List.getElem?_eq_getElem hi)
    refine next_key_item st hgd hdt hsz hen fun h' st2 sb => ?_
    have I1 : Inv X pins σ H { s with heap := h' } := I.turned (t' := s.toks) (fun b ob hb e => (sb.2 b hb).trans e) f0 f1 f3 f4 f5
    obtain ⟨oi, e, cc, dd⟩ := id st2
    exact ⟨en.key, rfl, go_of (s := { s with heap := h' }) e cc dd (by decide) ⟨.ref l[i].a, H, I1, hkey, ⟨rfl, l[i], List.getElem?_eq_getElem hi, rfl⟩, st2, fun b hb => (hf b hb).1⟩⟩
  done := by
    intro X hP hw hK hc i pins s σ H E I hf st hg
    subst hP hw hK
    obtain ⟨hd, hi⟩ := hg
    obtain ⟨f0, f1, f2, f3, f4, f5⟩ := hf it (List.mem_singleton_self it)
    obtain ⟨_, hgd, _, es', ep', hdt, hsz, _⟩ := frzP I hd
    obtain ⟨rfl, rfl⟩ := dict_ep hod hdt
    exact next_key_end (I.ok.hd hc) st hgd hdt hsz hi fun h' eb => ⟨rfl, I.turned (t' := s.toks) (fun b ob hb e => eb b ob hb e) f0 f1 f3 f4 f5⟩
  self := fun A i s Q E st h => wpAny_pyIter_keyiter st h
def iKeysP (P : Program) (w : World) (td : TE) : TI := fun σ H R => td σ H fun x H1 => ∃ d od c l, x = .ref d ∧ H1 d = some (.frz od (DicP P w c d l)) ∧ R (ItP P w c d od l) H1
theorem pi_keysP {X : Cx} {tg e : Expr} {td : TE} (he : PE X e td) : PI X tg e (iKeysP X.prog X.w td) := by
  refine ⟨fun pins s σ H R I h => ?_⟩
  refine thn (he.run pins s σ H _ I h) fun u s1 ⟨x, H1, I1, rx, d, od, c, l, ex, hd, q⟩ => ?_
  subst ex
  obtain rfl : u = Value.ref d := rx
  obtain ⟨hs, hgd, hx, es, ep, hdt, hsz, _⟩ := frzP I1 hd
  refine iter_keys hs hgd hx hdt (pi_one (tk := s1.toks) I1 _ (turnP _ hdt) ⟨_, Heap.get?_push_size _ rfl, rfl, ?_⟩ q)
  rw [hsz] <;> rfl
theorem walkP {P : Program} {w : World} {c : Option Obj} {d : Addr} {od : Obj} {l : List EnP} : Walk (ItP P w c d od l) l.length (fun H => H d = some (.frz od (DicP P w c d l))) (fun i H x H' => H' = H ∧ ∃ y, l[i]? = some y ∧ x = .ref y.a) :=
  ⟨fun _ _ hi q => ⟨q, hi⟩, fun _ q => ⟨q, Nat.le_refl _⟩, fun _ _ _ _ _ _ y => y⟩
/-! ### walks of a comprehension -/
theorem dc1_walk {P : Program} {w : World} {S : Store P w} {J : It} {n : Nat} {G : Hp → Prop} {Y : Nat → Hp → V → Hp → Prop} (wk : Walk J n G Y) {ga : TG} {qa : TT} {tk tv : TE} {vs : List Nat} {σ : L2.St} {H0 : Hp} {D : Addr} {Qd : Hp → Prop} (I : Nat → Hp → Prop) (start : I 0 (upd H0 D (S.new D))) (stays : ∀ i H, i ≤ n → I i H → G H)
    (turn : ∀ i x H H', i < n → I i H → Y i H x H' → ga x (wipe σ vs) H' fun σ2 H2 => wipe σ2 vs = wipe σ vs ∧ qa σ2 H2 fun fine H3 => if fine = true then tk σ2 H3 fun y H7 => tv σ2 H7 fun z H8 => S.put D y z H8 (I (i + 1)) else I (i + 1) H3)
    (done : ∀ H, I n H → Qd H) : ∃ W : Nat → Nat → Hp → Prop, (∃ m, W 0 m (upd H0 D (S.new D))) ∧ ∀ i m H, W i m H →
      (J.stop i H ∧ Qd H) ∨ (J.go i H ∧ ∃ N : Hp → Prop, (∀ H', N H' → ∃ m', m' < m ∧ W (i + 1) m' H') ∧ ∀ x H', J.yld i H x H' → ga x (wipe σ vs) H' fun σ2 H2 => wipe σ2 vs = wipe σ vs ∧ qa σ2 H2 fun fine H3 =>
        if fine = true then tk σ2 H3 fun y H7 => tv σ2 H7 fun z H8 => S.put D y z H8 N else N H3) := by
  refine ⟨fun i m H => m = n - i ∧ i ≤ n ∧ I i H, ⟨n, by simp, Nat.zero_le _, start⟩, ?_⟩
  rintro i m H ⟨rfl, hi, here⟩
  have ok := stays i H hi here
  rcases Nat.lt_or_ge i n with lt | ge
  · exact .inr ⟨wk.goes i H lt ok, I (i + 1), fun H' h' => ⟨n - (i + 1), by omega, rfl, lt, h'⟩, fun x H' y => turn i x H H' lt here (wk.yields i H x H' lt ok y)⟩
  · obtain rfl : i = n := Nat.le_antisymm hi ge
    exact .inl ⟨wk.stops H ok, done H here⟩
theorem walk2 {J : It} {n : Nat} {G : Hp → Prop} {Y : Nat → Hp → V → Hp → Prop} (wk : Walk J n G Y) {B : V → Hp → (Hp → Prop) → Prop} {Dn : Hp → Prop} {H0 : Hp} (I : Nat → Hp → Prop) (start : I 0 H0) (stays : ∀ i H, i ≤ n → I i H → G H)
    (turn : ∀ i x H H', i < n → I i H → Y i H x H' → B x H' (I (i + 1))) (done : ∀ H, I n H → Dn H) :
    ∃ W : Nat → Nat → Hp → Prop, (∃ m, W 0 m H0) ∧ ∀ i m H, W i m H → (J.stop i H ∧ Dn H) ∨ (J.go i H ∧ ∃ N : Hp → Prop, (∀ H', N H' → ∃ m', m' < m ∧ W (i + 1) m' H') ∧ ∀ x H', J.yld i H x H' → B x H' N) := by
  refine ⟨fun i m H => m = n - i ∧ i ≤ n ∧ I i H, ⟨n, by simp, Nat.zero_le _, start⟩, ?_⟩
  rintro i m H ⟨rfl, hi, here⟩
  have ok := stays i H hi here
  rcases Nat.lt_or_ge i n with lt | ge
  · exact .inr ⟨wk.goes i H lt ok, I (i + 1), fun H' h' => ⟨n - (i + 1), by omega, rfl, lt, h'⟩, fun x H' y => turn i x H H' lt here (wk.yields i H x H' lt ok y)⟩
  · obtain rfl : i = n := Nat.le_antisymm hi ge
    exact .inl ⟨wk.stops H ok, done H here⟩
end Ts

set_option maxRecDepth 100000
set_option maxHeartbeats 4000000
namespace Ts
open PySem PySem.Spec PyProof.Rows L2
theorem ip_mulW {X : Cx} : PIp X .Mult (fun x y H Q => ∃ i j, x = .int i ∧ y = .int j ∧ CMulW i j ∧ Q (.int (i * j)) H) := by
  intro pins s σ H x y v u Q I r1 r2 h
  obtain ⟨i, j, rfl, rfl, hc, q⟩ := h
  obtain ⟨t, rfl⟩ := r1
  obtain ⟨t', rfl⟩ := r2
  exact imul_int ⟨.int _, H, I.tok _, ⟨_, rfl⟩, q⟩ hc.ok
/-- a table of values by places and truths -/
def PTab (P : Program) (w : World) (H : Hp) (p : Addr) (ps : List Str) (f : Str → Bool → V) : Prop := ∃ l, H p = some (DicP P w none p l) ∧ KeysP H l ∧ ∀ z ∈ ps, ∀ b, atP l z b = some (f z b)
theorem KeysP.keep {H H' : Hp} {l : List EnP} (k : KeysP H l) (s : ∀ b xs, H b = some (.tup xs) → H' b = some (.tup xs)) : KeysP H' l := fun y hy => s _ _ (k y hy)
theorem PTab.same {P : Program} {w : World} {H H' : Hp} {p : Addr} {ps : List Str} {f : Str → Bool → V} (h : PTab P w H p ps f) (s : Same H H') : PTab P w H' p ps f := let ⟨l, h1, h2, h3⟩ := h; ⟨l, s _ _ h1, h2.keep fun b xs e => s _ _ e, h3⟩
theorem PTab.imp {P : Program} {w : World} {H : Hp} {p : Addr} {ps : List Str} {f g : Str → Bool → V} (h : PTab P w H p ps f) (e : ∀ z ∈ ps, ∀ b, f z b = g z b) : PTab P w H p ps g := let ⟨l, h1, h2, h3⟩ := h; ⟨l, h1, h2, fun z hz b => by rw [← e z hz b]; exact h3 z hz b⟩
/-- reading -/
theorem PTab.get {P : Program} {w : World} {H : Hp} {p a : Addr} {ps : List Str} {f : Str → Bool → V} {z : Str} {b : Bool} {Q : VK} (h : PTab P w H p ps f) (hz : z ∈ ps) (ha : H a = some (.tup [.str z, .bl b])) (q : Q (f z b) H) : rGetP P w (.ref p) (.ref a) H Q :=
  let ⟨l, h1, h2, h3⟩ := h
  ⟨none, p, a, l, z, b, f z b, rfl, rfl, h1, h2, ha, h3 z hz b, q⟩
/-- writing -/
theorem PTab.set {P : Program} {w : World} {H : Hp} {p a : Addr} {ps : List Str} {f : Str → Bool → V} {z : Str} {b : Bool} {v : V} {Q : Hp → Prop} (h : PTab P w H p ps f) (hz : z ∈ ps) (ha : H a = some (.tup [.str z, .bl b]))
    (q : ∀ H', (∀ c o, c ≠ p → H c = some o → H' c = some o) → PTab P w H' p ps (fun z' b' => if z = z' ∧ b = b' then v else f z' b') → Q H') : rSetP P w (.ref p) (.ref a) v H Q := by
  obtain ⟨l, h1, h2, h3⟩ := h
  refine ⟨none, p, a, l, z, b, f z b, rfl, rfl, h1, h2, ha, h3 z hz b, q _ (fun c o n e => by rw [upd_ne n]; exact e) ⟨_, upd_same, (h2.put z b v).keep fun c xs e => ?_, fun z' hz' b' => ?_⟩⟩
  · rw [upd_ne fun x => by rw [x, h1] at e; cases e]; exact e
  · rw [atP_put, h3 z' hz' b']
    show _ = some (if z = z' ∧ b = b' then v else f z' b')
    by_cases q : z = z' ∧ b = b'
    · rw [if_pos q, if_pos q]; rfl
    · rw [if_neg q, if_neg q]
/-- another table stays where one is written -/
theorem PTab.other {P : Program} {w : World} {H H' : Hp} {p d : Addr} {ps : List Str} {f : Str → Bool → V} {o : HO} (h : PTab P w H p ps f) (s : ∀ c o, c ≠ d → H c = some o → H' c = some o) (hd : H d = some o) (no : ∀ xs, o ≠ .tup xs) (n : p ≠ d) : PTab P w H' p ps f :=
  let ⟨l, h1, h2, h3⟩ := h
  ⟨l, s _ _ n h1, h2.keep fun b xs e => s _ _ (fun x => by rw [x, hd] at e; exact no _ (Option.some.inj e)) e, h3⟩
theorem PTab.has {P : Program} {w : World} {H : Hp} {p : Addr} {ps : List Str} {f : Str → Bool → V} (h : PTab P w H p ps f) : ∃ l, H p = some (DicP P w none p l) := let ⟨l, h1, _⟩ := h; ⟨l, h1⟩
abbrev keysP (l : List EnP) : List (Str × Bool) := l.map fun y => (y.z, y.b)
theorem atP_not {z : Str} {b : Bool} : ∀ {l : List EnP}, atP l z b = none → (z, b) ∉ keysP l
  | [], _ => List.not_mem_nil
  | y :: l, h => by
    unfold atP at h
    rw [List.find?_cons] at h
    intro m
    by_cases q : y.z = z ∧ y.b = b
    · rw [decide_eq_true q] at h; cases h
    · rw [decide_eq_false q] at h
      rcases List.mem_cons.mp m with e | m
      · exact q ⟨(congrArg Prod.fst e).symm, (congrArg Prod.snd e).symm⟩
      · exact atP_not (l := l) h m
theorem ndP_snoc {l : List EnP} {z : Str} {b : Bool} {a : Addr} {v : V} (nd : (keysP l).Nodup) (h : atP l z b = none) : (keysP (l ++ [⟨z, b, a, v⟩])).Nodup := by
  unfold keysP
  rw [List.map_append, List.nodup_append]
  refine ⟨nd, by simp, fun x hx y hy e => ?_⟩
  rw [List.mem_singleton.mp hy] at e
  have e2 : x = (z, b) := e
  exact atP_not h (by rw [← e2]; exact hx)
/-- the same keys with one value -/
def oneP (c : V) (l : List EnP) : List EnP := l.map fun y => ⟨y.z, y.b, y.a, c⟩
theorem oneP_keys (c : V) (l : List EnP) : keysP (oneP c l) = keysP l := by
  unfold keysP oneP
  rw [List.map_map]; rfl
theorem atP_mem {z : Str} {b : Bool} {v : V} : ∀ {l : List EnP}, atP l z b = some v → (z, b) ∈ keysP l
  | [], h => nomatch h
  | y :: l, h => by
    unfold atP at h
    rw [List.find?_cons] at h
    by_cases q : y.z = z ∧ y.b = b
    · exact List.mem_cons.mpr (.inl (show (z, b) = (y.z, y.b) by rw [q.1, q.2]))
    · rw [decide_eq_false q] at h
      exact List.mem_cons_of_mem _ (atP_mem (l := l) h)
theorem atP_one (c : V) (z : Str) (b : Bool) : ∀ l : List EnP, atP (oneP c l) z b = (atP l z b).map fun _ => c
  | [] => rfl
  | y :: l => by
    have ih := atP_one c z b l
    unfold atP oneP at ih ⊢
    rw [List.map_cons, List.find?_cons, List.find?_cons]
    by_cases q : y.z = z ∧ y.b = b
    · rw [decide_eq_true q]; rfl
    · rw [decide_eq_false q]; exact ih
theorem atP_next {c : V} {l : List EnP} (nd : (keysP l).Nodup) {i : Nat} {y : EnP} (h : l[i]? = some y) : atP (oneP c (l.take i)) y.z y.b = none := by
  cases e : atP (oneP c (l.take i)) y.z y.b with
  | none => rfl
  | some v =>
    have m := atP_mem e
    rw [oneP_keys] at m
    obtain ⟨j, hj, ej⟩ := List.mem_iff_getElem.mp m
    have lt : j < i := by
      have : j < ((l.take i).map fun y => (y.z, y.b)).length := hj
      rw [List.length_map, List.length_take] at this; omega
    have hi := (List.getElem?_eq_some_iff.mp h).1
    have e1 : (keysP l)[j]? = some (y.z, y.b) := by
      unfold keysP at ej ⊢
      rw [List.getElem_map, List.getElem_take] at ej
      rw [List.getElem?_map, List.getElem?_eq_getElem (by omega)]
      exact congrArg some ej
    have e2 : (keysP l)[i]? = some (y.z, y.b) := by
      unfold keysP
      rw [List.getElem?_map, h]; rfl
    have := (List.getElem?_inj (i := j) (j := i) (by unfold keysP; rw [List.length_map]; omega) nd).mp (e1.trans e2.symm)
    omega
theorem KeysP.one {H : Hp} {l : List EnP} (k : KeysP H l) (c : V) : KeysP H (oneP c l) := fun y hy => by
  obtain ⟨x, hx, rfl⟩ := List.mem_map.mp hy
  exact k x hx
end Ts

set_option maxRecDepth 100000
set_option maxHeartbeats 8000000
namespace Ts
open PySem L2
structure TxU (K : PySem.W.Frag) (mg : Str → Option Value) where
  A : Addr
  g : mg "VALUES" = some (.ref A)
  t : ∀ H, SqT K H A [.bl false, .bl true]
abbrev PTI (P : Program) (w : World) (H : Hp) (p : Addr) (rs : List Row) (f : Tab) : Prop := PTab P w H p (plc rs) (fun z b => .int (f z b))
def spChoices (P : Program) (w : World) (C : Addr) : Sp := fun vs H Q _ => ∃ (t ed : Addr) (rs : List Row) (es : Wsh), vs = [.ref t, .ref ed] ∧ TreeAt C H t rs ∧ H ed = some (.dK (kvE es)) ∧ EndsOk rs es ∧
  ∀ (T A B : Addr) (H' : Hp), Same H H' → H' T = some (.tup [.ref A, .ref B]) → PTI P w H' A rs (tabF rs es) → PTI P w H' B rs (numF rs es) → Q (.ref T) H'
/-- a turn's tables: done for the first values alone -/
def parT (j : Nat) (f f' : Tab) : Tab := fun z b => if (b = false ∧ 1 ≤ j) ∨ (b = true ∧ 2 ≤ j) then f' z b else f z b
theorem parT_0 (f f' : Tab) : parT 0 f f' = f := by
  funext z b
  unfold parT
  rw [if_neg]
  rintro (h | h) <;> omega
theorem parT_2 (f f' : Tab) : parT 2 f f' = f' := by
  funext z b
  unfold parT
  rw [if_pos]
  cases b
  · exact .inl ⟨rfl, by omega⟩
  · exact .inr ⟨rfl, by omega⟩
def AtJ (b : Bool) (j : Nat) : Prop := (b = false ∧ j = 0) ∨ (b = true ∧ j = 1)
theorem parT_at {f f' : Tab} {b : Bool} {j : Nat} (h : AtJ b j) (z : Str) : parT j f f' z b = f z b := by
  unfold parT
  rw [if_neg]
  rcases h with ⟨rfl, rfl⟩ | ⟨rfl, rfl⟩ <;> rintro (m | m) <;> simp at m
theorem parT_box {f f' : Tab} {z : Str} (h : ∀ b, f' z b = f z b) (j : Nat) (b : Bool) : parT j f f' z b = f z b := by
  unfold parT
  split
  · exact h b
  · rfl
theorem parT_step {f f' : Tab} {fo : Str} {b : Bool} {j : Nat} (hb : AtJ b j) (h : ∀ z, z ≠ fo → ∀ b, f' z b = f z b) (z : Str) (b' : Bool) : (if fo = z ∧ b = b' then f' fo b else parT j f f' z b') = parT (j + 1) f f' z b' := by
  by_cases c : fo = z ∧ b = b'
  · obtain ⟨rfl, rfl⟩ := c
    rw [if_pos ⟨rfl, rfl⟩]
    unfold parT
    rw [if_pos]
    rcases hb with ⟨rfl, rfl⟩ | ⟨rfl, rfl⟩
    · exact .inl ⟨rfl, by omega⟩
    · exact .inr ⟨rfl, by omega⟩
  · rw [if_neg c]
    by_cases q : z = fo
    · have hb' : b' = !b := by cases b <;> cases b' <;> simp_all
      subst hb'
      unfold parT
      rcases hb with ⟨rfl, rfl⟩ | ⟨rfl, rfl⟩
      · rw [if_neg (by simp), if_neg (by simp)]
      · rw [if_pos (by simp), if_pos (by simp)]
    · rw [parT_box (h z q), parT_box (h z q)]
theorem vals_at {j : Nat} {y : V} (h : [V.bl false, V.bl true][j]? = some y) : ∃ b : Bool, y = .bl b ∧ AtJ b j := by
  match j, h with
  | 0, h => cases h; exact ⟨false, rfl, .inl ⟨rfl, rfl⟩⟩
  | 1, h => cases h; exact ⟨true, rfl, .inr ⟨rfl, rfl⟩⟩
  | j + 2, h => simp at h
theorem gName_at' {i : Nat} {v : V} {σ : L2.St} {H : Hp} {Q : L2.St → Hp → Prop} : gName i v σ H Q = Q (σ.set i (some v)) H := rfl
def cheapL (rs : List Row) (r : Row) (f : Tab) (b : Bool) : List (Int × Bool) := [(f r.nm b, b), (f r.nm (!b) + stepR rs r, !b)]
theorem cheapL_sum (rs : List Row) (r : Row) (f g : Tab) (b : Bool) : (((cheapL rs r f b).filter fun e => decide (e.1 = leastI rs r f b)).map fun e => g r.nm e.2).sum = manyI rs r f g b := by
  unfold cheapL manyI
  by_cases c1 : f r.nm b = leastI rs r f b <;> by_cases c2 : f r.nm (!b) + stepR rs r = leastI rs r f b <;> simp [List.filter_cons, c1, c2]
theorem min_if (a b : Int) : (if b < a then b else a) = min a b := by
  split <;> omega
section
variable {P : Program} {w : World} {K : PySem.W.Frag} {mg : Str → Option Value} {base : Heap} {C CB : Addr}
abbrev nCh : List Str := ["tree", "ends", "barred", "steps", "value", "prices", "numbers", "box", "folder", "plain", "turned", "cheap", "place", "pair", "price", "own"]
theorem sc_choices : FnScope nCh ["tree", "ends"] (defScope s_choices) := ⟨rfl, rfl, rfl, by decide +kernel, rfl, by decide +kernel, by decide +kernel⟩
theorem ok_choices (D : DefAt K mg "choices" s_choices ["tree", "ends"]) (TC : TxC K mg) (T : TxT K mg C) (U : TxU K mg) (hS : mg "sum" = none) (hM : mg "min" = none)
    (De : DefAt K mg "endless" s_endless ["tree"]) (Ge : FnOk P w K mg base CX0 6 De.f De.fd ["tree"] (spEndless C))
    (Ds : DefAt K mg "step_prices" s_step_prices ["tree"]) (Gs : FnOk P w K mg base CX0 7 Ds.f Ds.fd ["tree"] (spSteps2 C))
    (mB : MethAt K C "below" "Tree.below" s_Tree_below ["self", "box"]) (GB : FnOk P w K mg base CX0 5 mB.f mB.fd ["self", "box"] (spListOf C belowL))
    (mF : MethAt K C "folder" "Tree.folder" s_Tree_folder ["self", "box"]) (GF : FnOk P w K mg base CX0 4 mF.f mF.fd ["self", "box"] (spGet C fun r => .str r.fo)) : FnOk P w K mg base CX0 8 D.f D.fd ["tree", "ends"] (spChoices P w C) := by
  obtain ⟨t1, gT⟩ := TC.top
  refine D.F.ok sc_choices (fun vs H Q E h => ?_) (fun cdv A outer s H vs Q E hr h => ?_)
  · obtain ⟨t, ed, rs, es, rfl, _⟩ := h
    rfl
  · obtain ⟨t, ed, rs, es, rfl, ht, hd, hok, hq⟩ := h
    have hu := hu_of hr
    have r4 : Room 4 _ := hr.mono (by decide)
    have r5 : Room 5 _ := hr.mono (by decide)
    have r6 : Room 6 _ := hr.mono (by decide)
    refine ⟨_, pss_cons (ps_set (i := 2) sc_choices.nd rfl (.inr rfl) (pe_call Ge r6 rfl De.g De.F.kp De.b .nil pass0 (pa_cons (pv 0) pa_nil)))
      (pss_cons (ps_set (i := 3) sc_choices.nd rfl (.inl rfl) (pe_call Gs hr rfl Ds.g Ds.F.kp Ds.b .nil pass0 (pa_cons (pv 0) pa_nil)))
      (pss_cons (ps_setDc2 (i := 5) (own := [("place", 12), ("value", 4)]) (vsb := [4]) (ga := gName 12) (qa := tYes) (wb := iTup K (tC (.ref U.A))) (gb := gName 4) (qb := tYes) (tk := tTup (tCons (tVar 12) (tCons (tVar 4) tNil))) (tv := tIf (tTest (tOp rEq (tDGet2 (tVar 1) (tVar 12) (tVar 4)) (tVar 4))) (tC (.int 0)) (tVar 2)) (storeP P w) hu rfl sc_choices.nd rfl rfl (swd_true rfl rfl rfl (by decide +kernel))
          (pi_list (pe_op op_cat (pe_lst (pa_cons (pe_glob (by rfl) gT (v := .str ("top" : Str)) ⟨_, rfl⟩) pa_nil)) (pe_meth (pv 0) T.cl mB.m GB r5 mB.b .nil pass0 (pa_cons (pe_glob (by rfl) gT (v := .str ("top" : Str)) ⟨_, rfl⟩) pa_nil)))) (blkOk_by (N := nCh) (sc := defScope s_choices) (by decide +kernel)) (by decide)
          (fun _ _ _ _ _ => pg_name (i := 12) sc_choices.nd rfl (Or.inl rfl)) (fun _ _ _ _ _ => pts_nil) (fun _ _ _ _ _ => pi_tup (pe_glob (by rfl) U.g (v := .ref U.A) rfl)) (fun _ _ _ _ _ => pg_name (i := 4) sc_choices.nd rfl (Or.inl rfl)) (fun _ _ _ _ _ => pts_nil)
          (fun _ _ _ _ _ => by exact pe_tup (pa_cons (pv 12) (pa_cons (pv 4) pa_nil))) (fun _ _ _ _ _ => by exact pe_ifExp (pt_cmpR op_eq (pe_dget2 hu (pv 1) (pv 12) (pv 4) (by constructor <;> intros <;> rfl)) (pv 4) (nomark _)) pe_int (pv 2)))
      (pss_cons (ps_lock (ps_set (i := 6) sc_choices.nd rfl (.inr rfl) (pe_dc1 (own := [("pair", 13)]) (ga := gName 13) (qa := tYes) (tk := tVar 13) (tv := tC (.int 1)) (storeP P w) hu rfl sc_choices.nd (pi_keysP (pv 5)) (blkOk_by (N := nCh) (sc := defScope s_choices) (by decide +kernel))
          (fun _ _ _ _ _ => pg_name (i := 13) sc_choices.nd rfl (Or.inl rfl)) (fun _ _ _ _ _ => pts_nil) (fun _ _ _ _ _ => pv 13) (fun _ _ _ _ _ => by exact pe_int))))
      (pss_cons (ps_for PassesOwn.never rfl (pi_list (pe_revL (pe_meth (pv 0) T.cl mB.m GB r5 mB.b .nil pass0 (pa_cons (pe_glob (by rfl) gT (v := .str ("top" : Str)) ⟨_, rfl⟩) pa_nil)))) (pg_name (i := 7) sc_choices.nd rfl (.inr rfl))
        (pss_cons (ps_set (i := 8) sc_choices.nd rfl (.inl rfl) (pe_meth (pv 0) T.cl mF.m GF r4 mF.b .nil pass0 (pa_cons (pv 7) pa_nil)))
        (pss_one (ps_for PassesOwn.never rfl (pi_tup (pe_glob (by rfl) U.g (v := .ref U.A) rfl)) (pg_name (i := 4) sc_choices.nd rfl (.inl rfl))
          (pss_cons (ps_asg (pe_tup (pa_cons (pe_getP hu (pv 5) (pe_tup (pa_cons (pv 7) (pa_cons (pv 4) pa_nil))) (fun _ _ => rfl)) (pa_cons (pe_op op_add (pe_getP hu (pv 5) (pe_tup (pa_cons (pv 7) (pa_cons (pe_not (pv 4)) pa_nil))) (fun _ _ => rfl)) (pe_dget hu (pv 3) (pv 7) (fun _ _ => rfl))) pa_nil)))
            (pg_tup rfl (pgs_cons (pg_name (i := 9) sc_choices.nd rfl (.inr rfl)) (pgs_cons (pg_name (i := 10) sc_choices.nd rfl (.inr rfl)) pgs_nil))))
          (pss_cons (ps_augS (pv 5) (pe_tup (pa_cons (pv 8) (pa_cons (pv 4) pa_nil))) (pget_P hu) (pe_callB (call_min2 rfl) (by rfl) hM (by decide +kernel) (pa_cons (pv 9) (pa_cons (pv 10) pa_nil))) ip_add (pset_P hu))
          (pss_cons (ps_set (i := 11) sc_choices.nd rfl (.inl rfl) (pe_lst (pa_cons (pe_tup (pa_cons (pv 9) (pa_cons (pv 4) pa_nil))) (pa_cons (pe_tup (pa_cons (pv 10) (pa_cons (pe_not (pv 4)) pa_nil))) pa_nil))))
          (pss_one (ps_augS (pv 6) (pe_tup (pa_cons (pv 8) (pa_cons (pv 4) pa_nil))) (pget_P hu) (pe_callB (cr_sum rfl) (by rfl) hS (by decide +kernel) (pa_cons (pe_lc (own := [("price", 14), ("own", 15)]) (g := gTup K 2 (gCons (gName 14) (gCons (gName 15) gNil))) (tt := tTest (tOp rEq (tVar 14) (tCB (fun xs H Q => ∃ i j, xs = [.int i, .int j] ∧ Q (.int (if j < i then j else i)) H) (tCons (tVar 9) (tCons (tVar 10) tNil))))) (te := tGetP P w (tVar 6) (tTup (tCons (tVar 7) (tCons (tVar 15) tNil)))) rfl sc_choices.nd (pi_list (pv 11)) (blkOk_by (N := nCh) (sc := defScope s_choices) (by decide +kernel))
              (fun _ _ _ _ _ => pg_tup rfl (pgs_cons (pg_name (i := 14) sc_choices.nd rfl (Or.inl rfl)) (pgs_cons (pg_name (i := 15) sc_choices.nd rfl (Or.inl rfl)) pgs_nil))) (fun _ _ _ _ _ => by exact pts_one (pt_cmpR op_eq (pv 14) (pe_callB (call_min2 rfl) (by rfl) hM (by decide +kernel) (pa_cons (pv 9) (pa_cons (pv 10) pa_nil))) (nomark _))) (fun _ _ _ _ _ => by exact pe_getP hu (pv 6) (pe_tup (pa_cons (pv 7) (pa_cons (pv 15) pa_nil))) (fun _ _ => rfl))) pa_nil)) ip_mulW (pset_P hu))))))))))
      (pss_one (ps_ret (pe_tup (pa_cons (pv 5) (pa_cons (pv 6) pa_nil))))))))), ?_⟩
    have hv := ht.val
    have l100 := ht.len
    obtain ⟨dx, q, f, k, p, qs, h1, _⟩ := id ht.ex
    have noB : (tf q f k p).lookup ("below" : Str) = none := tf_no _ _ _ _ (by decide +kernel) (by decide +kernel) (by decide +kernel) (by decide +kernel)
    have noF : (tf q f k p).lookup ("folder" : Str) = none := tf_no _ _ _ _ (by decide +kernel) (by decide +kernel) (by decide +kernel) (by decide +kernel)
    refine ⟨_, rfl, t, rs, rfl, ht, fun H1 s1 => ?_⟩
    refine ⟨_, rfl, t, rs, rfl, ht.same s1, fun sd H2 hsd s2 esd => ?_⟩
    have S2 := s1.trans s2
    refine ⟨(by show 1 ≤ sizeLine; decide), fun l1 hl1 => ?_⟩
    have s3 : Same H2 (upd H2 l1 (.lst [V.str ("top" : Str)])) := Same.new hl1
    have e3 : (upd H2 l1 (.lst [V.str ("top" : Str)])) l1 = some (.lst [V.str ("top" : Str)]) := upd_same
    generalize upd H2 l1 (.lst [V.str ("top" : Str)]) = H3 at s3 e3
    refine ⟨_, rfl, t, dx, _, rfl, (S2.trans s3) _ _ h1, noB, t, ("top" : Str), rs, rfl, ht.same (S2.trans s3), .inl rfl, fun bl H4 hbl s4 e4 => ?_⟩
    rw [below_top hv] at e4
    have ln : ((names rs).map V.str).length = rs.length := by unfold names; rw [List.length_map, List.length_map]
    refine ⟨l1, bl, _, _, rfl, rfl, s4 _ _ e3, e4, Nat.le_of_lt (small1000 (by rw [ln]; show 1 + rs.length ≤ 1000; omega)), fun pl hpl => ?_⟩
    have s5 : Same H4 (upd H4 pl (.lst ([V.str ("top" : Str)] ++ (names rs).map V.str))) := Same.new hpl
    have e5 : (upd H4 pl (.lst ([V.str ("top" : Str)] ++ (names rs).map V.str))) pl = some (.lst ((plc rs).map V.str)) := upd_same
    generalize upd H4 pl (.lst ([V.str ("top" : Str)] ++ (names rs).map V.str)) = H5 at s5 e5
    have S5 : Same H H5 := S2.trans (s3.trans (s4.trans s5))
    have esd5 := (s3.trans (s4.trans s5)) _ _ esd
    have pl101 : (plc rs).length ≤ 101 := by unfold plc names; rw [List.length_cons, List.length_map]; omega
    have pnd := plc_nodup hv
    clear hl1 s3 e3 s4 e4 hpl s5
    refine ⟨pl, rfl, ⟨_, SqL.of e5⟩, fun D hD => ?_⟩
    refine walk2 (walk_list (K := K) (a := pl) (xs := (plc rs).map V.str)) (fun i H' => Same H5 H' ∧ ∃ l, H' D = some (DicP P w none D l) ∧ KeysP H' l ∧ (keysP l).Nodup ∧ l.length = 2 * i ∧ ∀ z b, atP l z b = if z ∈ (plc rs).take i then some (.int (pen rs es z b)) else none)
      ⟨Same.new hD, [], upd_same, (fun y hy => by cases hy), List.nodup_nil, rfl, (fun z b => by show none = _; simp)⟩ (fun i H' _ m => SqL.of (m.1 _ _ e5)) ?_ ?_
    · rintro i x H6x H6 hi ⟨s6, l, hl, hk, hnd, hll, hat⟩ ⟨rfl, hx⟩
      rw [List.getElem?_map] at hx
      obtain ⟨z, hz, rfl⟩ := Option.map_eq_some_iff.mp hx
      have hzm := List.mem_of_getElem? hz
      rw [List.length_map] at hi
      have hzn : z ∉ (plc rs).take i := fun m => by
        obtain ⟨j, hj, ej⟩ := List.mem_iff_getElem.mp m
        rw [List.length_take] at hj
        rw [List.getElem_take] at ej
        have := (List.getElem?_inj (i := j) (j := i) (by omega) pnd).mp (by rw [hz, List.getElem?_eq_getElem (by omega), ej])
        omega
      refine ⟨rfl, tYes_if ⟨U.A, rfl, ⟨_, U.t _⟩, ?_⟩⟩
      refine walk2 (walk_tup (K := K) (a := U.A) (xs := [V.bl false, V.bl true])) (fun j H' => Same H5 H' ∧ ∃ l, H' D = some (DicP P w none D l) ∧ KeysP H' l ∧ (keysP l).Nodup ∧ l.length = 2 * i + j ∧ ∀ y b, atP l y b = if y ∈ (plc rs).take i ∨ (y = z ∧ ((b = false ∧ 1 ≤ j) ∨ (b = true ∧ 2 ≤ j))) then some (.int (pen rs es y b)) else none)
        ⟨s6, l, hl, hk, hnd, hll, fun y b => by rw [hat]; simp⟩ (fun j H' _ m => U.t _) ?_ ?_
      · rintro j y H7x H7 hj ⟨s7, l, hl, hk, hnd, hll, hat⟩ ⟨rfl, hy⟩
        obtain ⟨b, rfl, hbj⟩ : ∃ b : Bool, y = .bl b ∧ ((b = false ∧ j = 0) ∨ (b = true ∧ j = 1)) := by
          match j, hy with
          | 0, hy => cases hy; exact ⟨false, rfl, .inl ⟨rfl, rfl⟩⟩
          | 1, hy => cases hy; exact ⟨true, rfl, .inr ⟨rfl, rfl⟩⟩
          | j + 2, hy => simp at hy
        refine ⟨rfl, tYes_if ?_⟩
        refine ⟨_, rfl, _, rfl, (by show 2 ≤ sizeLine; decide), fun a ha => ?_⟩
        have s8 : Same H7 (upd H7 a (.tup [V.str z, V.bl b])) := Same.new ha
        have e8 : (upd H7 a (.tup [V.str z, V.bl b])) a = some (.tup [V.str z, V.bl b]) := upd_same
        generalize upd H7 a (.tup [V.str z, V.bl b]) = H8 at s8 e8
        have S8 := S5.trans (s7.trans s8)
        have dg : DGet H8 ed (.str z) ((endO es z).map V.bl) := .inl ⟨_, .inr z, .inl (S8 _ _ hd), rfl, by rw [kvE_val]⟩
        refine ⟨_, rfl, ed, rfl, .inl ⟨_, .inl (S8 _ _ hd)⟩, _, rfl, _, rfl, _, dg, ?_⟩
        rw [show ((endO es z).map V.bl).getD (V.bl b) = V.bl ((endO es z).getD b) from by cases endO es z <;> rfl]
        refine ⟨_, rfl, rfl, _, rfl, ?_⟩
        have fin : ∀ v : Int, v = pen rs es z b → (storeP P w).put D (.ref a) (.int v) H8 (fun H' => Same H5 H' ∧ ∃ l, H' D = some (DicP P w none D l) ∧ KeysP H' l ∧ (keysP l).Nodup ∧ l.length = 2 * i + (j + 1) ∧ ∀ y b, atP l y b = if y ∈ (plc rs).take i ∨ (y = z ∧ ((b = false ∧ 1 ≤ j + 1) ∨ (b = true ∧ 2 ≤ j + 1))) then some (.int (pen rs es y b)) else none) := by
          intro v ev
          have hn : atP l z b = none := by
            rw [hat, if_neg]
            rintro (m | ⟨_, m⟩)
            · exact hzn m
            · rcases hbj with ⟨rfl, rfl⟩ | ⟨rfl, rfl⟩ <;> simp at m
          refine ⟨none, l, a, z, b, rfl, s8 _ _ hl, hk.keep fun c xs e => s8 _ _ e, e8, hn, small1000 (by omega), fun c o ec => ?_, _, upd_same, (KeysP.snoc (hk.keep fun c xs e => s8 _ _ e) e8).keep fun c xs e => ?_, ndP_snoc hnd hn, by rw [List.length_append, hll]; rfl, fun y b' => ?_⟩
          · rw [upd_ne (ne_of_none ec hD)]; exact s8 _ _ (s7 _ _ ec)
          · rw [upd_ne fun x => by rw [x, s8 _ _ hl] at e; cases e]; exact e
          · rw [atP_snoc, hat]
            have hcase : (b = false ∧ 1 ≤ j + 1) ∨ (b = true ∧ 2 ≤ j + 1) := by
              rcases hbj with ⟨rfl, rfl⟩ | ⟨rfl, rfl⟩
              · exact .inl ⟨rfl, by omega⟩
              · exact .inr ⟨rfl, by omega⟩
            by_cases c1 : y ∈ (plc rs).take i
            · simp only [c1, true_or, if_true]; rfl
            · by_cases c2 : z = y ∧ b = b'
              · obtain ⟨rfl, rfl⟩ := c2
                have hno : ¬ (z ∈ (plc rs).take i ∨ (z = z ∧ ((b = false ∧ 1 ≤ j) ∨ (b = true ∧ 2 ≤ j)))) := by
                  rintro (m | ⟨_, m⟩)
                  · exact hzn m
                  · rcases hbj with ⟨rfl, rfl⟩ | ⟨rfl, rfl⟩ <;> simp at m
                rw [if_neg hno, if_pos (show (EnP.mk z b a (V.int v)).z = z ∧ (EnP.mk z b a (V.int v)).b = b from ⟨rfl, rfl⟩), if_pos (show z ∈ (plc rs).take i ∨ (z = z ∧ ((b = false ∧ 1 ≤ j + 1) ∨ (b = true ∧ 2 ≤ j + 1))) from .inr ⟨rfl, hcase⟩), ← ev]
                rfl
              · have hiff : (y ∈ (plc rs).take i ∨ (y = z ∧ ((b' = false ∧ 1 ≤ j) ∨ (b' = true ∧ 2 ≤ j)))) ↔ (y ∈ (plc rs).take i ∨ (y = z ∧ ((b' = false ∧ 1 ≤ j + 1) ∨ (b' = true ∧ 2 ≤ j + 1)))) := by
                  constructor
                  · rintro (m | ⟨m, n | n⟩)
                    · exact .inl m
                    · exact .inr ⟨m, .inl ⟨n.1, by omega⟩⟩
                    · exact .inr ⟨m, .inr ⟨n.1, by omega⟩⟩
                  · rintro (m | ⟨m, n⟩)
                    · exact .inl m
                    · refine .inr ⟨m, ?_⟩
                      rcases hbj with ⟨rfl, rfl⟩ | ⟨rfl, rfl⟩
                      · rcases n with n | n
                        · exact absurd ⟨m.symm, n.1.symm⟩ c2
                        · exact .inr ⟨n.1, by omega⟩
                      · rcases n with n | n
                        · exact .inl ⟨n.1, by omega⟩
                        · exact absurd ⟨m.symm, n.1.symm⟩ c2
                rw [if_neg c2]
                simp only [hiff]
                split <;> rfl
        cases c : endO es z with
        | none => exact iteT' (by simp) (fin 0 (by unfold pen; rw [c, if_neg (by simp)]))
        | some b' =>
          by_cases e : b' = b
          · exact iteT' (by simp [e]) (fin 0 (by unfold pen; rw [c, e, if_neg (by cases b <;> simp)]))
          · exact iteF' (by simp [e]) ⟨_, rfl, fin _ (by unfold pen; rw [c, if_pos (by cases b <;> cases b' <;> simp_all)])⟩
      · rintro H7 ⟨s7, l, hl, hk, hnd, hll, hat⟩
        refine ⟨s7, l, hl, hk, hnd, by rw [hll]; rfl, fun y b => ?_⟩
        rw [hat, take_more hz]
        have hiff : (y ∈ (plc rs).take i ∨ (y = z ∧ ((b = false ∧ 1 ≤ [V.bl false, V.bl true].length) ∨ (b = true ∧ 2 ≤ [V.bl false, V.bl true].length)))) ↔ y ∈ (plc rs).take i ++ [z] := by
          rw [List.mem_append, List.mem_singleton]
          constructor
          · rintro (m | m)
            · exact .inl m
            · exact .inr m.1
          · rintro (m | m)
            · exact .inl m
            · refine .inr ⟨m, ?_⟩
              cases b
              · exact .inl ⟨rfl, by decide⟩
              · exact .inr ⟨rfl, by decide⟩
        simp only [hiff]
    rintro H6 ⟨s6, l, hl, hk, hnd, hll, hat⟩
    rw [List.length_map] at hll hat
    simp only [List.take_length] at hat
    have S6 := S5.trans s6
    -- the numbers
    refine ⟨D, _, hl, trivial, fun od => ?_⟩
    obtain ⟨Hl, El⟩ : ∃ Hx, Hx = upd H6 D (.frz od (DicP P w none D l)) := ⟨_, rfl⟩
    have lk : Hl D = some (.frz od (DicP P w none D l)) := by rw [El]; exact upd_same
    have keep : ∀ b o, b ≠ D → H6 b = some o → Hl b = some o := fun b o n e => by rw [El, upd_ne n]; exact e
    have keepN : ∀ b, Hl b = none → H6 b = none := fun b e => by
      by_cases q : b = D
      · rw [q, lk] at e; cases e
      · rw [El, upd_ne q] at e; exact e
    have hkl : KeysP Hl l := hk.keep fun b xs e => keep _ _ (fun x => by rw [x, hl] at e; cases e) e
    rw [← El]
    clear El
    refine ⟨_, rfl, D, od, none, l, rfl, lk, fun F hF => ?_⟩
    have nF : F ≠ D := (ne_of_none lk hF).symm
    refine dc1_walk (S := storeP P w) (walkP (c := none) (d := D) (od := od) (l := l)) (fun i H' => Same Hl H' ∧ H' F = some (DicP P w none F (oneP (.int 1) (l.take i)))) ⟨Same.new hF, upd_same⟩ (fun i H' _ m => m.1 _ _ lk) ?_ ?_
    · rintro i x H7x H7 hi ⟨s7, hf7⟩ ⟨rfl, y, hy, rfl⟩
      have hk7 : KeysP H7 l := hkl.keep fun b xs e => s7 _ _ e
      have hym := List.mem_of_getElem? hy
      refine ⟨rfl, tYes_if ⟨_, rfl, none, _, y.a, y.z, y.b, rfl, hf7, ?_, hk7 y hym, atP_next hnd hy, small1000 (by unfold oneP; rw [List.length_map, List.length_take]; omega), fun b o eb => ?_, ?_⟩⟩
      · exact KeysP.one (fun z hz => hk7 z (List.mem_of_mem_take hz)) _
      · rw [upd_ne (ne_of_none eb hF)]; exact s7 _ _ eb
      · rw [upd_same, take_more hy]
        unfold oneP
        rw [List.map_append]; rfl
    rintro H7 ⟨s7, hf7⟩
    rw [List.take_length] at hf7
    refine ⟨s7 _ _ lk, ?_⟩
    have s67 : ∀ b o, H6 b = some o → (upd H7 D (DicP P w none D l)) b = some o := fun b o e => by
      by_cases q : b = D
      · rw [q, upd_same, ← hl, ← e, q]
      · rw [upd_ne q]; exact s7 _ _ (keep _ _ q e)
    have ta : PTI P w (upd H7 D (DicP P w none D l)) D rs (tabT rs es []) := ⟨l, upd_same, hk.keep fun b xs e => s67 _ _ e, fun z hz b => by rw [hat, if_pos hz]; rfl⟩
    have tb : PTI P w (upd H7 D (DicP P w none D l)) F rs (numT rs es []) := ⟨_, by rw [upd_ne nF]; exact hf7, (hk.one _).keep fun b xs e => s67 _ _ e, fun z hz b => by rw [atP_one, hat, if_pos hz]; rfl⟩
    have hFH : H6 F = none := keepN _ hF
    have hDH : H D = none := S5.free hD
    have hFH0 : H F = none := S6.free hFH
    have S8 : Same H (upd H7 D (DicP P w none D l)) := fun b o e => s67 _ _ (S6 _ _ e)
    have esd8 := s67 _ _ (s6 _ _ esd5)
    have nsD : sd ≠ D := ne_of_none esd5 hD
    have nsF : sd ≠ F := ne_of_none (s6 _ _ esd5) hFH
    clear hk hkl hat hnd hll keep keepN lk s7 hf7 s67 hl s6
    generalize upd H7 D (DicP P w none D l) = H8 at ta tb S8 esd8
    refine ⟨_, rfl, t, dx, _, rfl, S8 _ _ h1, noB, t, ("top" : Str), rs, rfl, ht.same S8, .inl rfl, fun bl2 H9 hbl2 s9 e9 => ?_⟩
    rw [below_top hv] at e9
    refine ⟨bl2, _, rfl, SqL.of e9, fun rl hrl => ?_⟩
    have s10 : Same H9 (upd H9 rl (.lst ((names rs).map V.str).reverse)) := Same.new hrl
    have e10 : (upd H9 rl (.lst ((names rs).map V.str).reverse)) rl = some (.lst ((names rs).map V.str).reverse) := upd_same
    generalize upd H9 rl (.lst ((names rs).map V.str).reverse) = H10 at s10 e10
    have s8' := s9.trans s10
    have S10 := S8.trans s8'
    have ta10 := ta.same s8'
    have tb10 := tb.same s8'
    have esd10 := s8' _ _ esd8
    have nrD : rl ≠ D := by obtain ⟨l', hl'⟩ := ta10.has; exact fun x => by rw [x, hl'] at e10; cases e10
    have nrF : rl ≠ F := by obtain ⟨l', hl'⟩ := tb10.has; exact fun x => by rw [x, hl'] at e10; cases e10
    clear ta tb s9 s10 hbl2 e9 hrl s8' esd8
    refine ⟨rl, rfl, ⟨_, SqL.of e10⟩, ?_⟩
    refine for_list (K := K) (a := rl) (xs := ((names rs).map V.str).reverse) (fun i σ H' => ∃ v4 v7 v8 v9 v10 v11 : Option V, σ = [some (.ref t), some (.ref ed), some (.int (endlessI rs)), some (.ref sd), v4, some (.ref D), some (.ref F), v7, v8, v9, v10, v11, none, none, none, none] ∧ (∀ b o, b ≠ D → b ≠ F → H10 b = some o → H' b = some o) ∧
        PTI P w H' D rs (tabT rs es (rs.drop (rs.length - i))) ∧ PTI P w H' F rs (numT rs es (rs.drop (rs.length - i)))) ⟨none, none, none, none, none, none, rfl, fun b o _ _ e => e, by rw [Nat.sub_zero, List.drop_length]; exact ta10, by rw [Nat.sub_zero, List.drop_length]; exact tb10⟩ (fun i σ H' _ ⟨_, _, _, _, _, _, _, m, _⟩ => SqL.of (m _ _ nrD nrF e10)) ?_ ?_
    · rintro i x σ H11 hx ⟨v4, v7, v8, v9, v10, v11, rfl, k11, ta11, tb11⟩
      have hi : i < rs.length := by
        have := (List.getElem?_eq_some_iff.mp hx).1
        rw [List.length_reverse, ln] at this; exact this
      rw [List.getElem?_reverse (by rw [ln]; exact hi), ln] at hx
      obtain ⟨r, rfl, hr'⟩ := nms_at hx
      generalize em : rs.length - 1 - i = m at hr'
      have ed1 : rs.length - i = m + 1 := by omega
      have ed2 : rs.length - (i + 1) = m := by omega
      have hm : m < rs.length := by omega
      rw [ed1] at ta11 tb11
      rw [ed2]
      have edrop : rs.drop m = r :: rs.drop (m + 1) := by
        rw [List.drop_eq_getElem_cons hm]
        rw [List.getElem?_eq_getElem hm] at hr'
        rw [Option.some.inj hr']
      have ers : rs = rs.take m ++ r :: rs.drop (m + 1) := by rw [← edrop, List.take_append_drop]
      rw [edrop]
      generalize rs.drop (m + 1) = suf at ta11 tb11 ers edrop
      have hvs : Valid (rs.take m ++ r :: suf) := by rw [← ers]; exact hv
      have hrm : r ∈ rs := by rw [ers]; simp
      have hf := fits_at hvs
      have nbf : r.nm ≠ r.fo := fun x => nm_pre hf (by rw [x]; exact fo_pre hf)
      have bx := nm_plc hrm
      have fx := fo_plc hv hrm
      have S11 : Same H H11 := fun b o e => k11 _ _ (ne_of_none e hDH) (ne_of_none e hFH0) (S10 _ _ e)
      refine ⟨_, rfl, t, dx, _, rfl, S11 _ _ h1, noF, _, rfl, t, r.nm, rs, r, rfl, ht.same S11, rowOf_at hv hr', ?_⟩
      refine ⟨U.A, rfl, ⟨_, U.t _⟩, ?_⟩
      refine for_tup (K := K) (a := U.A) (xs := [V.bl false, V.bl true]) (fun j σ H' => ∃ v4 v9 v10 v11 : Option V, σ = [some (.ref t), some (.ref ed), some (.int (endlessI rs)), some (.ref sd), v4, some (.ref D), some (.ref F), some (.str r.nm), some (.str r.fo), v9, v10, v11, none, none, none, none] ∧ (∀ b o, b ≠ D → b ≠ F → H10 b = some o → H' b = some o) ∧
        PTI P w H' D rs (parT j (tabT rs es suf) (tabT rs es (r :: suf))) ∧ PTI P w H' F rs (parT j (numT rs es suf) (numT rs es (r :: suf)))) ⟨_, _, _, _, rfl, k11, by rw [parT_0]; exact ta11, by rw [parT_0]; exact tb11⟩ (fun j σ H' _ _ => U.t _) ?_ ?_
      · rintro j y σ H12 hy ⟨v4', v9', v10', v11', rfl, k12, ta12, tb12⟩
        obtain ⟨b, rfl, hbj⟩ := vals_at hy
        have nDF : D ≠ F := nF.symm
        -- the two prices
        refine ⟨_, rfl, _, rfl, _, rfl, (by show 2 ≤ sizeLine; decide), fun a1 ha1 => ?_⟩
        have s1' : Same H12 (upd H12 a1 (.tup [V.str r.nm, V.bl b])) := Same.new ha1
        have e1' : (upd H12 a1 (.tup [V.str r.nm, V.bl b])) a1 = some (.tup [V.str r.nm, V.bl b]) := upd_same
        generalize upd H12 a1 (.tup [V.str r.nm, V.bl b]) = H13 at s1' e1'
        refine (ta12.same s1').get bx e1' ?_
        refine ⟨_, rfl, _, rfl, _, rfl, _, rfl, (by show 2 ≤ sizeLine; decide), fun a2 ha2 => ?_⟩
        have s2' : Same H13 (upd H13 a2 (.tup [V.str r.nm, V.bl (!b)])) := Same.new ha2
        have e2' : (upd H13 a2 (.tup [V.str r.nm, V.bl (!b)])) a2 = some (.tup [V.str r.nm, V.bl (!b)]) := upd_same
        generalize upd H13 a2 (.tup [V.str r.nm, V.bl (!b)]) = H14 at s2' e2'
        have s12 := s1'.trans s2'
        refine (ta12.same s12).get bx e2' ?_
        have dgs : DGet H14 sd (.str r.nm) (some (.int (stepR rs r))) := .inl ⟨_, .inr r.nm, .inl (s12 _ _ (k12 _ _ nsD nsF esd10)), rfl, (kvF_val (g := fun r => .int (stepR rs r)) hv hrm).symm⟩
        refine ⟨_, rfl, _, rfl, sd, _, rfl, dgs, _, _, rfl, rfl, (by show 2 ≤ sizeLine; decide), fun a3 ha3 => ?_⟩
        have tabs : ∀ z, z ≠ r.fo → ∀ b, tabT rs es (r :: suf) z b = tabT rs es suf z b := fun z hz b => if_neg hz
        have nums : ∀ z, z ≠ r.fo → ∀ b, numT rs es (r :: suf) z b = numT rs es suf z b := fun z hz b => if_neg hz
        rw [parT_box (tabs _ nbf), parT_box (tabs _ nbf)]
        refine ⟨a3, _, rfl, sqT upd_same, rfl, _, _, rfl, _, _, rfl, rfl, ?_⟩
        have s3' := s12.trans (Same.new (o := .tup [V.int (tabT rs es suf r.nm b), V.int (tabT rs es suf r.nm (!b) + stepR rs r)]) ha3)
        generalize upd H14 a3 (.tup [V.int (tabT rs es suf r.nm b), V.int (tabT rs es suf r.nm (!b) + stepR rs r)]) = H15 at s3'
        clear s1' e1' s2' e2' s12 dgs ha1 ha2 ha3
        dsimp only [gName_at', List.set_cons_zero, List.set_cons_succ]
        -- the price of the folder
        refine ⟨_, rfl, _, rfl, _, rfl, (by show 2 ≤ sizeLine; decide), fun a4 ha4 => ?_⟩
        have s4' := s3'.trans (Same.new (o := .tup [V.str r.fo, V.bl b]) ha4)
        have e4' : (upd H15 a4 (.tup [V.str r.fo, V.bl b])) a4 = some (.tup [V.str r.fo, V.bl b]) := upd_same
        generalize upd H15 a4 (.tup [V.str r.fo, V.bl b]) = H16 at s4' e4'
        refine (ta12.same s4').get fx e4' ?_
        refine ⟨_, rfl, _, rfl, _, _, rfl, _, _, rfl, rfl, ?_⟩
        rw [min_if, parT_at hbj]
        refine (ta12.same s4').set fx e4' fun H17 s17 ta17 => ?_
        obtain ⟨lD, hlD⟩ := (ta12.same s4').has
        have tb17 : PTI P w H17 F rs (parT j (numT rs es suf) (numT rs es (r :: suf))) := (tb12.same s4').other s17 hlD (fun xs e => nomatch e) nDF.symm
        have ta18 : PTI P w H17 D rs (parT (j + 1) (tabT rs es suf) (tabT rs es (r :: suf))) := by
          refine ta17.imp fun z hz b' => ?_
          rw [← parT_step (f := tabT rs es suf) (f' := tabT rs es (r :: suf)) hbj tabs z b']
          have e : tabT rs es (r :: suf) r.fo b = tabT rs es suf r.fo b + min (tabT rs es suf r.nm b) (tabT rs es suf r.nm (!b) + stepR rs r) := if_pos rfl
          rw [e]
          split <;> rfl
        have k17 : ∀ b o, b ≠ D → b ≠ F → H10 b = some o → H17 b = some o := fun c o n1 n2 e => s17 _ _ n1 (s4' _ _ (k12 _ _ n1 n2 e))
        clear ta17 s17 hlD e4' s4' s3' ta12 tb12 ha4
        -- what is cheap
        refine ⟨_, rfl, _, rfl, (by show 2 ≤ sizeLine; decide), fun a5 ha5 => ?_⟩
        have s5' : Same H17 (upd H17 a5 (.tup [V.int (tabT rs es suf r.nm b), V.bl b])) := Same.new ha5
        have e5' : (upd H17 a5 (.tup [V.int (tabT rs es suf r.nm b), V.bl b])) a5 = some (.tup [V.int (tabT rs es suf r.nm b), V.bl b]) := upd_same
        generalize upd H17 a5 (.tup [V.int (tabT rs es suf r.nm b), V.bl b]) = H18 at s5' e5'
        refine ⟨_, rfl, _, rfl, _, rfl, (by show 2 ≤ sizeLine; decide), fun a6 ha6 => ⟨(by show 2 ≤ sizeLine; decide), fun cl hcl => ?_⟩⟩
        have s6' : Same H18 (upd H18 a6 (.tup [V.int (tabT rs es suf r.nm (!b) + stepR rs r), V.bl (!b)])) := Same.new ha6
        have e6' : (upd H18 a6 (.tup [V.int (tabT rs es suf r.nm (!b) + stepR rs r), V.bl (!b)])) a6 = some (.tup [V.int (tabT rs es suf r.nm (!b) + stepR rs r), V.bl (!b)]) := upd_same
        generalize upd H18 a6 (.tup [V.int (tabT rs es suf r.nm (!b) + stepR rs r), V.bl (!b)]) = H19 at s6' e6' hcl
        have s7' : Same H19 (upd H19 cl (.lst [V.ref a5, V.ref a6])) := Same.new hcl
        have e7' : (upd H19 cl (.lst [V.ref a5, V.ref a6])) cl = some (.lst [V.ref a5, V.ref a6]) := upd_same
        generalize upd H19 cl (.lst [V.ref a5, V.ref a6]) = H20 at s7' e7'
        have e56 := s7' _ _ (s6' _ _ e5')
        have e66 := s7' _ _ e6'
        have s57 := s5'.trans (s6'.trans s7')
        clear s5' e5' s6' e6' s7' ha5 ha6 hcl
        dsimp only [gName_at', List.set_cons_zero, List.set_cons_succ]
        -- the number of the folder
        refine ⟨_, rfl, _, rfl, _, rfl, (by show 2 ≤ sizeLine; decide), fun a7 ha7 => ?_⟩
        have s8' : Same H20 (upd H20 a7 (.tup [V.str r.fo, V.bl b])) := Same.new ha7
        have e8' : (upd H20 a7 (.tup [V.str r.fo, V.bl b])) a7 = some (.tup [V.str r.fo, V.bl b]) := upd_same
        generalize upd H20 a7 (.tup [V.str r.fo, V.bl b]) = H21 at s8' e8'
        have s58 := s57.trans s8'
        refine (tb17.same s58).get fx e8' ?_
        refine ⟨_, rfl, cl, rfl, ⟨_, SqL.of (s8' _ _ e7')⟩, fun G hG => ?_⟩
        have tb21 := tb17.same s58
        have nb : ∀ b', parT j (numT rs es suf) (numT rs es (r :: suf)) r.nm b' = numT rs es suf r.nm b' := fun b' => parT_box (nums _ nbf) j b'
        refine lc_list (K := K) (a := cl) (xs := [V.ref a5, V.ref a6]) (fun i H' => Same H21 H' ∧ H' G = some (.lst (((((cheapL rs r (tabT rs es suf) b).take i).filter fun e => decide (e.1 = leastI rs r (tabT rs es suf) b)).map fun e => numT rs es suf r.nm e.2).map V.int))) ⟨Same.new hG, upd_same⟩ (fun i H' _ m => SqL.of (m.1 _ _ (s8' _ _ e7'))) ?_ ?_
        · rintro i x H22 hx ⟨s22, hG22⟩
          have e522 := s22 _ _ (s8' _ _ e56)
          have e622 := s22 _ _ (s8' _ _ e66)
          have one : ∀ (e : Int × Bool) (a : Addr), H22 a = some (.tup [V.int e.1, V.bl e.2]) → (cheapL rs r (tabT rs es suf) b)[i]? = some e → gTup K 2 (gCons (gName 14) (gCons (gName 15) gNil)) (V.ref a) (wipe [some (V.ref t), some (V.ref ed), some (V.int (endlessI rs)), some (V.ref sd), some (V.bl b), some (V.ref D), some (V.ref F), some (V.str r.nm), some (V.str r.fo), some (V.int (tabT rs es suf r.nm b)), some (V.int (tabT rs es suf r.nm (!b) + stepR rs r)), some (V.ref cl), none, none, none, none] (List.map (fun x => x.2) [("price", 14), ("own", 15)])) H22 fun σ2 H2 =>
              wipe σ2 (List.map (fun x => x.2) [(("price" : Str), 14), (("own" : Str), 15)]) = wipe [some (V.ref t), some (V.ref ed), some (V.int (endlessI rs)), some (V.ref sd), some (V.bl b), some (V.ref D), some (V.ref F), some (V.str r.nm), some (V.str r.fo), some (V.int (tabT rs es suf r.nm b)), some (V.int (tabT rs es suf r.nm (!b) + stepR rs r)), some (V.ref cl), none, none, none, none] (List.map (fun x => x.2) [(("price" : Str), 14), (("own" : Str), 15)]) ∧
              tTest (tOp rEq (tVar 14) (tCB (fun xs H Q => ∃ i j, xs = [.int i, .int j] ∧ Q (.int (if j < i then j else i)) H) (tCons (tVar 9) (tCons (tVar 10) tNil)))) σ2 H2 fun bb H3 => if bb = true then tGetP P w (tVar 6) (tTup (tCons (tVar 7) (tCons (tVar 15) tNil))) σ2 H3 fun y H4 => ∃ acc, H4 G = some (.lst acc) ∧ acc.length < sizeLine ∧ (Same H21 (upd H4 G (.lst (acc ++ [y]))) ∧ (upd H4 G (.lst (acc ++ [y]))) G = some (.lst (((((cheapL rs r (tabT rs es suf) b).take (i + 1)).filter fun e => decide (e.1 = leastI rs r (tabT rs es suf) b)).map fun e => numT rs es suf r.nm e.2).map V.int)))
                else (Same H21 H3 ∧ H3 G = some (.lst (((((cheapL rs r (tabT rs es suf) b).take (i + 1)).filter fun e => decide (e.1 = leastI rs r (tabT rs es suf) b)).map fun e => numT rs es suf r.nm e.2).map V.int))) := by
            intro e a ea he
            have hle : ((((cheapL rs r (tabT rs es suf) b).take i).filter fun e => decide (e.1 = leastI rs r (tabT rs es suf) b)).map fun e => numT rs es suf r.nm e.2).length ≤ 2 := by
              rw [List.length_map]
              refine Nat.le_trans (List.length_filter_le _ _) ?_
              rw [List.length_take]
              exact Nat.le_trans (Nat.min_le_right _ _) (Nat.le_refl 2)
            refine ⟨a, _, rfl, sqT ea, rfl, _, _, rfl, _, _, rfl, rfl, rfl, ?_⟩
            refine ⟨_, rfl, _, rfl, _, rfl, _, _, rfl, ?_⟩
            rw [min_if]
            refine ⟨rfl, _, rfl, ?_⟩
            rw [take_more he, List.filter_append]
            by_cases q : e.1 = leastI rs r (tabT rs es suf) b
            · refine iteT' (decide_eq_true (show V.int e.1 = V.int _ by rw [q]; rfl)) ⟨_, rfl, _, rfl, _, rfl, (by show 2 ≤ sizeLine; decide), fun a8 ha8 => ?_⟩
              have s9' : Same H22 (upd H22 a8 (.tup [V.str r.nm, V.bl e.2])) := Same.new ha8
              refine (tb21.same (s22.trans s9')).get bx upd_same ?_
              rw [nb]
              refine ⟨_, s9' _ _ hG22, small1000 (by rw [List.length_map]; omega), fun c o ec => ?_, ?_⟩
              · rw [upd_ne (ne_of_none ec hG)]; exact s9' _ _ (s22 _ _ ec)
              · rw [upd_same]
                simp [List.filter_cons, q]
            · refine iteF' (decide_eq_false fun x => q (V.int.inj x)) ⟨s22, ?_⟩
              rw [hG22]
              simp [List.filter_cons, q]
          have h2 : (i = 0 ∧ x = V.ref a5) ∨ (i = 1 ∧ x = V.ref a6) := by
            match i, hx with
            | 0, hx => cases hx; exact .inl ⟨rfl, rfl⟩
            | 1, hx => cases hx; exact .inr ⟨rfl, rfl⟩
            | i + 2, hx => simp at hx
          rcases h2 with ⟨rfl, rfl⟩ | ⟨rfl, rfl⟩
          · exact one (tabT rs es suf r.nm b, b) a5 e522 rfl
          · exact one (tabT rs es suf r.nm (!b) + stepR rs r, !b) a6 e622 rfl
        rintro H22 ⟨s22, hG22⟩
        rw [show [V.ref a5, V.ref a6].length = (cheapL rs r (tabT rs es suf) b).length from rfl, List.take_length] at hG22
        refine ⟨G, _, rfl, SqL.of hG22, ?_⟩
        rw [cheapL_sum, parT_at hbj]
        refine ⟨_, _, rfl, rfl, ?_, ?_⟩
        · have hmm : m ≤ rs.length := Nat.le_of_lt hm
          have lsuf : suf.length ≤ 100 := by
            have := congrArg List.length ers
            rw [List.length_append, List.length_cons] at this
            omega
          have w1 := num_log (rs := rs) es (pre := rs.take m ++ [r]) (suf := suf) (by rw [List.append_assoc]; exact hvs) (z := r.fo) (by rw [plc_snoc]; exact List.mem_append_left _ (fo_pre hf)) b
          have w2 := many_log (rs := rs) es hvs b
          show (numT rs es suf r.fo b).natAbs.log2 + (manyI rs r (tabT rs es suf) (numT rs es suf) b).natAbs.log2 < 1000000
          omega
        refine (tb21.same s22).set fx (s22 _ _ e8') fun H23 s23 tb23 => ?_
        obtain ⟨lF, hlF⟩ := (tb21.same s22).has
        have s59 := s58.trans s22
        refine ⟨_, _, _, _, rfl, fun c o n1 n2 e => s23 _ _ n2 (s59 _ _ (k17 _ _ n1 n2 e)), (ta18.same s59).other s23 hlF (fun xs e => nomatch e) nDF, tb23.imp fun z hz b' => ?_⟩
        rw [← parT_step (f := numT rs es suf) (f' := numT rs es (r :: suf)) hbj nums z b']
        have e : numT rs es (r :: suf) r.fo b = numT rs es suf r.fo b * manyI rs r (tabT rs es suf) (numT rs es suf) b := if_pos rfl
        rw [e]
        split <;> rfl
      · rintro σ H12 ⟨v4', v9', v10', v11', rfl, k12, ta12, tb12⟩
        rw [show [V.bl false, V.bl true].length = 2 from rfl, parT_2] at ta12 tb12
        exact ⟨_, _, _, _, _, _, rfl, k12, ta12, tb12⟩
    rintro σ H11 ⟨v4, v7, v8, v9, v10, v11, rfl, k11, ta11, tb11⟩
    rw [List.length_reverse, ln, Nat.sub_self, List.drop_zero] at ta11 tb11
    refine ⟨_, rfl, _, rfl, (by show 2 ≤ sizeLine; decide), fun tq htq => ?_⟩
    have s12 := Same.new (o := .tup [V.ref D, V.ref F]) htq
    exact hq tq D F _ ((show Same H H11 from fun b o e => k11 _ _ (ne_of_none e hDH) (ne_of_none e hFH0) (S10 _ _ e)).trans s12) upd_same (ta11.same s12) (tb11.same s12)
end
end Ts

set_option maxRecDepth 100000
set_option maxHeartbeats 8000000
namespace Ts
open PySem L2
theorem if_var {c : Bool} {i j : Nat} {σ : L2.St} {H : Hp} {Q : VK} {v1 v2 v : V} (h1 : σ[i]? = some (some v1)) (h2 : σ[j]? = some (some v2)) (e : v = if c = true then v1 else v2) (h : Q v H) : if c = true then tVar i σ H Q else tVar j σ H Q := by
  cases c
  · exact ⟨v2, h2, by rw [e] at h; exact h⟩
  · exact ⟨v1, h1, by rw [e] at h; exact h⟩
theorem if_zero {c : Bool} {i j : Nat} {σ : L2.St} {H : Hp} {Q : VK} {d : Addr} {x : V} {p v : Int} (h1 : σ[i]? = some (some (.ref d))) (h2 : σ[j]? = some (some x)) (g : DGet H d x (some (.int p))) (e : v = if c = true then 0 else p) (h : Q (.int v) H) : if c = true then tC (.int 0) σ H Q else tDGet (tVar i) (tVar j) σ H Q := by
  cases c
  · exact ⟨_, h1, _, h2, d, _, rfl, g, by rw [e] at h; exact h⟩
  · show Q (.int 0) H
    rw [e] at h; exact h
theorem dec_bl (a b : Bool) : decide (V.bl a = V.bl b) = decide (a = b) := by cases a <;> cases b <;> rfl
def spFav (P : Program) (w : World) (C CM : Addr) : Sp := fun vs H Q _ => ∃ (t pa : Addr) (rs : List Row) (f : Tab) (fav : Bool), vs = [.ref t, .ref pa, .bl fav] ∧ TreeAt C H t rs ∧ PTI P w H pa rs f ∧ NoLk rs (favV rs f fav) ∧ ∀ m H', Same H H' → MV C CM H' m t rs (favV rs f fav) → Q (.ref m) H'
section
variable {P : Program} {w : World} {K : PySem.W.Frag} {mg : Str → Option Value} {base : Heap} {C CM CB : Addr}
abbrev nFv : List Str := ["tree", "prices", "favour", "steps", "other", "values", "box", "folder", "with_favour", "with_other"]
theorem sc_fav : FnScope nFv ["tree", "prices", "favour"] (defScope s_favoured) := ⟨rfl, rfl, rfl, by decide +kernel, rfl, by decide +kernel, by decide +kernel⟩
theorem ok_fav (D : DefAt K mg "favoured" s_favoured ["tree", "prices", "favour"]) (TC : TxC K mg) (T : TxT K mg C)
    (Ds : DefAt K mg "step_prices" s_step_prices ["tree"]) (Gs : FnOk P w K mg base CX0 7 Ds.f Ds.fd ["tree"] (spSteps2 C))
    (Dw : DefAt K mg "with_values" s_with_values ["tree", "values"]) (Gw : FnOk P w K mg base CX0 9 Dw.f Dw.fd ["tree", "values"] (spWith C CM))
    (mB : MethAt K C "below" "Tree.below" s_Tree_below ["self", "box"]) (GB : FnOk P w K mg base CX0 5 mB.f mB.fd ["self", "box"] (spListOf C belowL))
    (mF : MethAt K C "folder" "Tree.folder" s_Tree_folder ["self", "box"]) (GF : FnOk P w K mg base CX0 4 mF.f mF.fd ["self", "box"] (spGet C fun r => .str r.fo)) : FnOk P w K mg base CX0 10 D.f D.fd ["tree", "prices", "favour"] (spFav P w C CM) := by
  obtain ⟨t1, gT⟩ := TC.top
  refine D.F.ok sc_fav (fun vs H Q E h => ?_) (fun cdv A outer s H vs Q E hr h => ?_)
  · obtain ⟨t, pa, rs, f, fav, rfl, _⟩ := h
    rfl
  · obtain ⟨t, pa, rs, f, fav, rfl, ht, htab, hnl, hq⟩ := h
    have hu := hu_of hr
    have r4 : Room 4 _ := hr.mono (by decide)
    have r5 : Room 5 _ := hr.mono (by decide)
    have r7 : Room 7 _ := hr.mono (by decide)
    refine ⟨_, pss_cons (ps_set (i := 3) sc_fav.nd rfl (.inl rfl) (pe_call Gs r7 rfl Ds.g Ds.F.kp Ds.b .nil pass0 (pa_cons (pv 0) pa_nil)))
      (pss_cons (ps_set (i := 4) sc_fav.nd rfl (.inl rfl) (pe_not (pv 2)))
      (pss_cons (ps_set (i := 5) sc_fav.nd rfl (.inl rfl) (pe_disp (pps_cons (pe_glob (by rfl) gT (v := .str ("top" : Str)) ⟨_, rfl⟩) (pe_ifExp (pt_cmpR op_le (pe_getP hu (pv 1) (pe_tup (pa_cons (pe_glob (by rfl) gT (v := .str ("top" : Str)) ⟨_, rfl⟩) (pa_cons (pv 2) pa_nil))) (fun _ _ => rfl)) (pe_getP hu (pv 1) (pe_tup (pa_cons (pe_glob (by rfl) gT (v := .str ("top" : Str)) ⟨_, rfl⟩) (pa_cons (pv 4) pa_nil))) (fun _ _ => rfl)) (nomark _)) (pv 2) (pv 4)) pps_nil) (by rfl) (by rfl) (fun z => by cases z) (by decide)))
      (pss_cons (ps_for PassesOwn.never rfl (pi_list (pe_meth (pv 0) T.cl mB.m GB r5 mB.b .nil pass0 (pa_cons (pe_glob (by rfl) gT (v := .str ("top" : Str)) ⟨_, rfl⟩) pa_nil))) (pg_name (i := 6) sc_fav.nd rfl (.inl rfl))
        (pss_cons (ps_set (i := 7) sc_fav.nd rfl (.inl rfl) (pe_dget hu (pv 5) (pe_meth (pv 0) T.cl mF.m GF r4 mF.b .nil pass0 (pa_cons (pv 6) pa_nil)) (fun _ _ => rfl)))
        (pss_cons (ps_set (i := 8) sc_fav.nd rfl (.inl rfl) (pe_op op_add (pe_getP hu (pv 1) (pe_tup (pa_cons (pv 6) (pa_cons (pv 2) pa_nil))) (fun _ _ => rfl)) (pe_ifExp (pt_cmpR op_eq (pv 7) (pv 2) (nomark _)) pe_int (pe_dget hu (pv 3) (pv 6) (fun _ _ => rfl)))))
        (pss_cons (ps_set (i := 9) sc_fav.nd rfl (.inl rfl) (pe_op op_add (pe_getP hu (pv 1) (pe_tup (pa_cons (pv 6) (pa_cons (pv 4) pa_nil))) (fun _ _ => rfl)) (pe_ifExp (pt_cmpR op_eq (pv 7) (pv 4) (nomark _)) pe_int (pe_dget hu (pv 3) (pv 6) (fun _ _ => rfl)))))
        (pss_one (ps_dput hu (pv 5) (pv 6) (pe_ifExp (pt_cmpR op_le (pv 8) (pv 9) (nomark _)) (pv 2) (pv 4)) rfl))))))
      (pss_one (ps_ret (pe_call Gw hr rfl Dw.g Dw.F.kp Dw.b .nil pass0 (pa_cons (pv 0) (pa_cons (pv 5) pa_nil)))))))), ?_⟩
    have hv := ht.val
    have l100 := ht.len
    obtain ⟨dx, q, fo_, k, p, qs, h1, _⟩ := id ht.ex
    have noB : (tf q fo_ k p).lookup ("below" : Str) = none := tf_no _ _ _ _ (by decide +kernel) (by decide +kernel) (by decide +kernel) (by decide +kernel)
    have noF : (tf q fo_ k p).lookup ("folder" : Str) = none := tf_no _ _ _ _ (by decide +kernel) (by decide +kernel) (by decide +kernel) (by decide +kernel)
    have topm : ("top" : Str) ∈ plc rs := mem_plc.mpr (.inl rfl)
    refine ⟨_, rfl, t, rs, rfl, ht, fun sd H1 hsd s1 esd => ?_⟩
    refine ⟨_, rfl, _, rfl, ?_⟩
    refine fun wd hwd => ?_
    have sw : Same H1 (upd H1 wd (.dK [])) := Same.new hwd
    have ew : (upd H1 wd (.dK [])) wd = some (.dK []) := upd_same
    generalize upd H1 wd (.dK []) = H2 at sw ew
    have tb1 : PTI P w H1 pa rs f := htab.same s1
    have tb2 := tb1.same sw
    refine ⟨_, rfl, _, rfl, (by show 2 ≤ sizeLine; decide), fun a1 ha1 => ?_⟩
    have s3 : Same H2 (upd H2 a1 (.tup [V.str ("top" : Str), V.bl fav])) := Same.new ha1
    refine (tb2.same s3).get topm upd_same ?_
    generalize upd H2 a1 (.tup [V.str ("top" : Str), V.bl fav]) = H3 at s3
    refine ⟨_, rfl, _, rfl, (by show 2 ≤ sizeLine; decide), fun a2 ha2 => ?_⟩
    have s4 : Same H3 (upd H3 a2 (.tup [V.str ("top" : Str), V.bl (!fav)])) := Same.new ha2
    refine (tb2.same (s3.trans s4)).get topm upd_same ?_
    have s24 := s3.trans s4
    generalize upd H3 a2 (.tup [V.str ("top" : Str), V.bl (!fav)]) = H4 at s24
    have ew4 := s24 _ _ ew
    clear s3 s4 ha1 ha2
    refine ⟨_, _, rfl, rfl, _, rfl, ?_⟩
    refine if_var (v := .bl (favV rs f fav "top")) rfl rfl (by rw [favV_top hv]; by_cases c : f "top" fav ≤ f "top" (!fav) <;> simp [c]) ?_
    refine ⟨ew4, [(.inr ("top" : Str), .bl (favV rs f fav "top"))], rfl, (by show 1 ≤ 15; decide), ?_⟩
    have nH : H wd = none := s1.free hwd
    have S5 : Same H (upd H4 wd (.dK (mergeK [] [(.inr ("top" : Str), .bl (favV rs f fav "top"))]))) := fun b o e => by
      rw [upd_ne (ne_of_none e nH)]; exact s24 _ _ (sw _ _ (s1 _ _ e))
    have e5 : (upd H4 wd (.dK (mergeK [] [(.inr ("top" : Str), .bl (favV rs f fav "top"))]))) wd = some (.dK (((plc rs).take 1).map fun z => ((.inr z : Key), V.bl (favV rs f fav z)))) := upd_same
    have esd5 : (upd H4 wd (.dK (mergeK [] [(.inr ("top" : Str), .bl (favV rs f fav "top"))]))) sd = some (.dK (kvF (fun r => .int (stepR rs r)) rs)) := by
      rw [upd_ne (ne_of_none esd hwd)]; exact s24 _ _ (sw _ _ esd)
    have nsw : sd ≠ wd := ne_of_none esd hwd
    clear s24 ew4 tb2 tb1 ew sw
    generalize upd H4 wd (.dK (mergeK [] [(.inr ("top" : Str), .bl (favV rs f fav "top"))])) = H5 at S5 e5 esd5
    refine ⟨_, rfl, t, dx, _, rfl, S5 _ _ h1, noB, t, ("top" : Str), rs, rfl, ht.same S5, .inl rfl, fun bl H6 hbl s6 e6 => ?_⟩
    rw [below_top hv] at e6
    have S6 := S5.trans s6
    have esd6 := s6 _ _ esd5
    have nbw : bl ≠ wd := fun x => by rw [← x, hbl] at e5; cases e5
    have ln : ((names rs).map V.str).length = rs.length := by unfold names; rw [List.length_map, List.length_map]
    refine ⟨bl, rfl, ⟨_, SqL.of e6⟩, ?_⟩
    refine for_list (K := K) (a := bl) (xs := (names rs).map V.str) (fun i σ H' => ∃ v6 v7 v8 v9 : Option V, σ = [some (.ref t), some (.ref pa), some (.bl fav), some (.ref sd), some (.bl (!fav)), some (.ref wd), v6, v7, v8, v9] ∧ SB wd H6 H' ∧ H' wd = some (.dK (((plc rs).take (i + 1)).map fun z => ((.inr z : Key), V.bl (favV rs f fav z))))) ⟨none, none, none, none, rfl, SB.refl _ _, s6 _ _ e5⟩ (fun i σ H' _ ⟨_, _, _, _, _, sb, _⟩ => SqL.of (sb _ _ nbw e6)) ?_ ?_
    · rintro i x σ H7 hx ⟨v6, v7, v8, v9, rfl, sb7, e7⟩
      obtain ⟨r, rfl, hr'⟩ := nms_at hx
      have hrm := List.mem_of_getElem? hr'
      have il : i < rs.length := (List.getElem?_eq_some_iff.mp hr').1
      have S7 : Same H H7 := fun b o e => sb7 _ _ (ne_of_none e nH) (S6 _ _ e)
      have tb7 : PTI P w H7 pa rs f := htab.same S7
      have hz : (plc rs)[i + 1]? = some r.nm := by
        unfold plc names
        rw [List.getElem?_cons_succ, List.getElem?_map, hr']; rfl
      have hfo : r.fo ∈ (plc rs).take (i + 1) := by
        have := fo_pre (hv i r hr')
        unfold plc names at this ⊢
        rw [List.take_succ_cons, ← List.map_take]
        exact this
      have dgf : DGet H7 wd (.str r.fo) (some (.bl (favV rs f fav r.fo))) := .inl ⟨_, .inr r.fo, .inl e7, rfl, (valV_list (favV rs f fav) hfo).symm⟩
      refine ⟨_, rfl, _, rfl, t, dx, _, rfl, S7 _ _ h1, noF, _, rfl, t, r.nm, rs, r, rfl, ht.same S7, rowOf_at hv hr', wd, _, rfl, dgf, ?_⟩
      -- with the favour
      refine ⟨_, rfl, _, rfl, _, rfl, (by show 2 ≤ sizeLine; decide), fun a1 ha1 => ?_⟩
      have s8 : Same H7 (upd H7 a1 (.tup [V.str r.nm, V.bl fav])) := Same.new ha1
      refine (tb7.same s8).get (nm_plc hrm) upd_same ?_
      generalize upd H7 a1 (.tup [V.str r.nm, V.bl fav]) = H8 at s8
      have dgs : ∀ {H' : Hp}, Same H7 H' → DGet H' sd (.str r.nm) (some (.int (stepR rs r))) := fun {H'} s => .inl ⟨_, .inr r.nm, .inl (s _ _ (sb7 _ _ nsw esd6)), rfl, (kvF_val (g := fun r => .int (stepR rs r)) hv hrm).symm⟩
      refine ⟨_, rfl, _, rfl, rfl, _, rfl, ?_⟩
      refine if_zero (v := if favV rs f fav r.fo = fav then 0 else stepR rs r) rfl rfl (dgs s8) (by rw [dec_bl]; by_cases c : favV rs f fav r.fo = fav <;> simp [c]) ?_
      refine ⟨_, _, rfl, rfl, ?_⟩
      -- with the other
      refine ⟨_, rfl, _, rfl, _, rfl, (by show 2 ≤ sizeLine; decide), fun a2 ha2 => ?_⟩
      have s9 : Same H8 (upd H8 a2 (.tup [V.str r.nm, V.bl (!fav)])) := Same.new ha2
      have s79 := s8.trans s9
      refine (tb7.same s79).get (nm_plc hrm) upd_same ?_
      generalize upd H8 a2 (.tup [V.str r.nm, V.bl (!fav)]) = H9 at s79
      refine ⟨_, rfl, _, rfl, rfl, _, rfl, ?_⟩
      refine if_zero (v := if favV rs f fav r.fo = !fav then 0 else stepR rs r) rfl rfl (dgs s79) (by rw [dec_bl]; by_cases c : favV rs f fav r.fo = !fav <;> simp [c]) ?_
      refine ⟨_, _, rfl, rfl, ?_⟩
      dsimp only [gName_at', List.set_cons_zero, List.set_cons_succ]
      refine ⟨_, rfl, _, rfl, _, _, rfl, rfl, _, rfl, ?_⟩
      refine if_var (v := .bl (favV rs f fav r.nm)) rfl rfl ?_ ?_
      · rw [favV_row hv f fav hrm]
        unfold pickV
        rw [stepI_row hv hrm]
        by_cases c : f r.nm fav + (if favV rs f fav r.fo = fav then 0 else stepR rs r) ≤ f r.nm (!fav) + (if favV rs f fav r.fo = !fav then 0 else stepR rs r)
        · rw [if_pos c, if_pos (decide_eq_true c)]
        · rw [if_neg c, if_neg (by rw [decide_eq_false c]; exact Bool.false_ne_true)]
      refine ⟨_, rfl, _, rfl, wd, _, rfl, DPut.k (k := Sum.inr r.nm) (s79 _ _ e7) (small1000 (by rw [List.length_map, List.length_take]; omega)), ?_⟩
      refine ⟨_, _, _, _, rfl, fun b o nb eb => by rw [upd_ne nb]; exact s79 _ _ (sb7 _ _ nb eb), ?_⟩
      rw [upd_same]
      exact congrArg (fun z => some (HO.dK z)) (kvP_more (plc_nodup hv) (favV rs f fav) hz)
    rintro σ H7 ⟨v6, v7, v8, v9, rfl, sb7, e7⟩
    have S7 : Same H H7 := fun b o e => sb7 _ _ (ne_of_none e nH) (S6 _ _ e)
    rw [ln, show (plc rs).take (rs.length + 1) = plc rs from List.take_of_length_le (by unfold plc names; rw [List.length_cons, List.length_map]; exact Nat.le_refl _)] at e7
    refine ⟨_, rfl, _, rfl, t, wd, rs, _, rfl, ht.same S7, e7, hnl, fun m H8 s8 hm => hq m H8 (S7.trans s8) hm⟩
end
end Ts

set_option maxRecDepth 100000
set_option maxHeartbeats 8000000
namespace Ts
open PySem L2
/-! ### parts and ways -/
abbrev Part := Int × Str
abbrev Way3 := Int × Str × Str
def PtA (H : Hp) : List Addr → List Part → Prop := Paired fun a e => H a = some (.tup [.int e.1, .str e.2])
def PtL (H : Hp) (a : Addr) (l : List Part) : Prop := ∃ as, H a = some (.lst (as.map V.ref)) ∧ PtA H as l
def WyA (H : Hp) : List Addr → List Way3 → Prop := Paired fun a e => H a = some (.tup [.int e.1, .str e.2.1, .str e.2.2])
def WyL (H : Hp) (a : Addr) (l : List Way3) : Prop := ∃ as, H a = some (.lst (as.map V.ref)) ∧ WyA H as l
/-- tuples stay -/
def TupS (H H' : Hp) : Prop := ∀ b xs, H b = some (.tup xs) → H' b = some (.tup xs)
theorem same_t {H H' : Hp} (s : Same H H') : TupS H H' := fun b xs e => s _ _ e
theorem TupS.upd {H : Hp} {a : Addr} {o o' : HO} (h : H a = some o) (n : ∀ xs, o ≠ .tup xs) : TupS H (upd H a o') := fun b xs e => by
  rw [upd_ne fun x => by rw [x, h] at e; exact n _ (Option.some.inj e)]; exact e
theorem TupS.trans {H H' H2 : Hp} (h : TupS H H') (h2 : TupS H' H2) : TupS H H2 := fun b xs e => h2 _ _ (h _ _ e)
theorem PtA.t {H H' : Hp} {as : List Addr} {l : List Part} (h : PtA H as l) (s : TupS H H') : PtA H' as l := h.mono fun _ _ e => s _ _ e
theorem WyA.t {H H' : Hp} {as : List Addr} {l : List Way3} (h : WyA H as l) (s : TupS H H') : WyA H' as l := h.mono fun _ _ e => s _ _ e
theorem PtL.same {H H' : Hp} {a : Addr} {l : List Part} (h : PtL H a l) (s : Same H H') : PtL H' a l := let ⟨as, h1, h2⟩ := h; ⟨as, s _ _ h1, h2.t (same_t s)⟩
theorem WyL.same {H H' : Hp} {a : Addr} {l : List Way3} (h : WyL H a l) (s : Same H H') : WyL H' a l := let ⟨as, h1, h2⟩ := h; ⟨as, s _ _ h1, h2.t (same_t s)⟩
def shorterL : List Part → Int → List Part
  | [], _ => []
  | (n, p) :: rest, m => (if m < n then [(n - m, p)] else []) ++ rest
def pairF : Nat → List Part → List Part → List Way3 → List Way3 × List Part × List Part
  | 0, o, f, w => (w, o, f)
  | n + 1, (a, x) :: o, (b, y) :: f, w => pairF n (shorterL ((a, x) :: o) (min a b)) (shorterL ((b, y) :: f) (min a b)) (w ++ [(min a b, x, y)])
  | _ + 1, [], f, w => (w, [], f)
  | _ + 1, o, [], w => (w, o, [])
def pairL (o f : List Part) : List Way3 × List Part × List Part := pairF (o.length + f.length) o f []
def letL : List Part → Int → List Part
  | [], _ => []
  | (a, x) :: l, p => (if 0 < min a p then [(min a p, x)] else []) ++ letL l (p - min a p)
theorem shorter_len {l : List Part} {m : Int} : (shorterL l m).length ≤ l.length := by
  match l with
  | [] => exact Nat.le_refl _
  | (n, p) :: l =>
    show ((if m < n then [(n - m, p)] else []) ++ l).length ≤ _
    by_cases h : m < n
    · rw [if_pos h]; simp
    · rw [if_neg h]; simp
theorem shorter_two (a b : Int) (x y : Str) (o f : List Part) : (shorterL ((a, x) :: o) (min a b)).length + (shorterL ((b, y) :: f) (min a b)).length < ((a, x) :: o).length + ((b, y) :: f).length := by
  show ((if min a b < a then [(a - min a b, x)] else []) ++ o).length + ((if min a b < b then [(b - min a b, y)] else []) ++ f).length < _
  by_cases h : min a b < a
  · have h2 : ¬ min a b < b := by omega
    rw [if_pos h, if_neg h2]; simp <;> omega
  · rw [if_neg h]
    by_cases h2 : min a b < b
    · rw [if_pos h2]; simp <;> omega
    · rw [if_neg h2]; simp <;> omega
theorem let_len : ∀ (l : List Part) (p : Int), (letL l p).length ≤ l.length
  | [], _ => Nat.le_refl _
  | (a, x) :: l, p => by
    have := let_len l (p - min a p)
    unfold letL
    rw [List.length_append, List.length_cons]
    split <;> simp <;> omega
theorem pairF_nil1 (n : Nat) (f : List Part) (w : List Way3) : pairF n [] f w = (w, [], f) := by cases n <;> rfl
theorem pairF_nil2 (n : Nat) (o : List Part) (w : List Way3) : pairF n o [] w = (w, o, []) := by
  cases n with
  | zero => rfl
  | succ n => cases o <;> rfl
theorem pairF_len : ∀ (n : Nat) (o f : List Part) (w : List Way3), (pairF n o f w).1.length + (pairF n o f w).2.1.length + (pairF n o f w).2.2.length ≤ w.length + o.length + f.length
  | 0, o, f, w => Nat.le_refl _
  | n + 1, [], f, w => by rw [pairF_nil1]; exact Nat.le_refl _
  | n + 1, e :: o, [], w => by rw [pairF_nil2]; exact Nat.le_refl _
  | n + 1, (a, x) :: o, (b, y) :: f, w => by
    have h := pairF_len n (shorterL ((a, x) :: o) (min a b)) (shorterL ((b, y) :: f) (min a b)) (w ++ [(min a b, x, y)])
    have h2 := shorter_two a b x y o f
    have e : pairF (n + 1) ((a, x) :: o) ((b, y) :: f) w = pairF n (shorterL ((a, x) :: o) (min a b)) (shorterL ((b, y) :: f) (min a b)) (w ++ [(min a b, x, y)]) := rfl
    rw [e]
    rw [List.length_append] at h
    simp only [List.length_cons, List.length_nil] at h h2 ⊢
    omega
theorem sIx_n (n k : Nat) (d : Nat) : HT.sIx n d (some (k : Int)) = min k n := by
  unfold HT.sIx
  simp only []
  split
  · omega
  · omega
theorem cut_drop (xs : List V) (k : Nat) : cutV xs (some (k : Int)) none = xs.drop k := by
  unfold cutV
  rw [HT.sIx_none, sIx_n]
  rcases Nat.le_total k xs.length with h | h
  · rw [Nat.min_eq_left h, List.take_of_length_le (by rw [List.length_drop]; exact Nat.le_refl _)]
  · rw [Nat.min_eq_right h, List.drop_of_length_le (Nat.le_refl _), List.drop_of_length_le h]
    simp
def spShorter : Sp := fun vs H Q _ => ∃ (a : Addr) (m : Int) (e : Part) (l : List Part), vs = [.ref a, .int m] ∧ PtL H a (e :: l) ∧ l.length ≤ 900 ∧ ∀ b H', H b = none → Same H H' → PtL H' b (shorterL (e :: l) m) → Q (.ref b) H'
def spPaired : Sp := fun vs H Q _ => ∃ (a b : Addr) (o f : List Part), vs = [.ref a, .ref b] ∧ PtL H a o ∧ PtL H b f ∧ o.length + f.length ≤ 400 ∧
  ∀ (T W A B : Addr) (H' : Hp), Same H H' → H' T = some (.tup [.ref W, .ref A, .ref B]) → WyL H' W (pairL o f).1 → PtL H' A (pairL o f).2.1 → PtL H' B (pairL o f).2.2 → (A = a ∨ H A = none) → (B = b ∨ H B = none) → Q (.ref T) H'
def spLet : Sp := fun vs H Q _ => ∃ (a : Addr) (p : Int) (l : List Part), vs = [.ref a, .int p] ∧ PtL H a l ∧ l.length ≤ 900 ∧ ∀ b H', H b = none → Same H H' → PtL H' b (letL l p) → Q (.ref b) H'
section
variable {P : Program} {w : World} {K : PySem.W.Frag} {mg : Str → Option Value} {base : Heap} {C CM CB : Addr}
abbrev nSh : List Str := ["parts", "amount", "first", "place", "rest"]
theorem sc_shorter : FnScope nSh ["parts", "amount"] (defScope s_shorter) := ⟨rfl, rfl, rfl, by decide +kernel, rfl, by decide +kernel, by decide +kernel⟩
theorem ok_shorter (D : DefAt K mg "shorter" s_shorter ["parts", "amount"]) : FnOk P w K mg base CX0 1 D.f D.fd ["parts", "amount"] spShorter := by
  refine D.F.ok sc_shorter (fun vs H Q E h => ?_) (fun cdv A outer s H vs Q E hr h => ?_)
  · obtain ⟨a, m, e, l, rfl, _⟩ := h
    rfl
  · obtain ⟨a, m, e, l, rfl, ⟨as, ha, hp⟩, hl, hq⟩ := h
    refine ⟨_, pss_cons (ps_asg (pe_ix ix_list (pv 0) pe_int (fun _ _ => rfl)) (pg_tup rfl (pgs_cons (pg_name (i := 2) sc_shorter.nd rfl (.inl rfl)) (pgs_cons (pg_name (i := 3) sc_shorter.nd rfl (.inl rfl)) pgs_nil))))
      (pss_cons (ps_set (i := 4) sc_shorter.nd rfl (.inl rfl) (pe_ifExp (pt_cmpR op_gt (pv 2) (pv 1) (nomark _)) (pe_lst (pa_cons (pe_tup (pa_cons (pe_op op_sub (pv 2) (pv 1)) (pa_cons (pv 3) pa_nil))) pa_nil)) (pe_lst pa_nil)))
      (pss_one (ps_ret (pe_op op_cat (pv 4) (pe_slice sl_list (pv 0) (po_some pe_int) po_none))))), ?_⟩
    obtain ⟨x, p⟩ := e
    cases hp with
    | cons h1 h2 =>
      rename_i a0 as'
      have l2 : as'.length = l.length := h2.length
      refine ⟨_, rfl, a, _, _, _, rfl, rfl, SqL.of ha, atI_nat (j := 0) rfl, ?_⟩
      refine ⟨a0, _, rfl, sqT h1, rfl, _, _, rfl, _, _, rfl, rfl, ?_⟩
      refine ⟨_, rfl, _, rfl, _, _, rfl, rfl, _, rfl, ?_⟩
      by_cases hc : m < x
      · refine iteT' (decide_eq_true hc) ⟨_, rfl, _, rfl, _, _, rfl, rfl, _, rfl, (by show 2 ≤ sizeLine; decide), fun t1 ht1 => ⟨(by show 1 ≤ sizeLine; decide), fun r1 hr1 => ?_⟩⟩
        have s1 : Same H (upd H t1 (.tup [V.int (x - m), V.str p])) := Same.new ht1
        have e1 : (upd H t1 (.tup [V.int (x - m), V.str p])) t1 = some (.tup [V.int (x - m), V.str p]) := upd_same
        generalize upd H t1 (.tup [V.int (x - m), V.str p]) = H1 at s1 e1 hr1
        have s2 : Same H1 (upd H1 r1 (.lst [V.ref t1])) := Same.new hr1
        have e2 : (upd H1 r1 (.lst [V.ref t1])) r1 = some (.lst [V.ref t1]) := upd_same
        generalize upd H1 r1 (.lst [V.ref t1]) = H2 at s2 e2
        refine ⟨_, rfl, _, rfl, _, rfl, a, _, rfl, SqL.of ((s1.trans s2) _ _ ha), fun u1 hu1 => ?_⟩
        rw [show (some (1 : Int)) = some ((1 : Nat) : Int) from rfl, cut_drop]
        have s3 : Same H2 (upd H2 u1 (.lst (((a0 :: as').map V.ref).drop 1))) := Same.new hu1
        have e3 : (upd H2 u1 (.lst (((a0 :: as').map V.ref).drop 1))) u1 = some (.lst (as'.map V.ref)) := upd_same
        generalize upd H2 u1 (.lst (((a0 :: as').map V.ref).drop 1)) = H3 at s3 e3
        refine ⟨r1, u1, _, _, rfl, rfl, s3 _ _ e2, e3, Nat.le_of_lt (small1000 (by rw [List.length_map]; show 1 + as'.length ≤ 1000; omega)), fun g hg => ?_⟩
        have S3 := s1.trans (s2.trans s3)
        refine hq g _ (S3.free hg) (S3.trans (Same.new hg)) ⟨t1 :: as', upd_same, ?_⟩
        have sg : TupS H3 (upd H3 g (.lst ([V.ref t1] ++ as'.map V.ref))) := same_t (Same.new hg)
        show PtA _ _ ((if m < x then [(x - m, p)] else []) ++ l)
        rw [if_pos hc]
        exact .cons (sg _ _ ((s2.trans s3) _ _ e1)) ((show PtA H as' l from h2).t ((same_t S3).trans sg))
      · refine iteF' (decide_eq_false hc) ⟨Nat.zero_le _, fun r1 hr1 => ?_⟩
        have s2 : Same H (upd H r1 (.lst [])) := Same.new hr1
        have e2 : (upd H r1 (.lst [])) r1 = some (.lst []) := upd_same
        generalize upd H r1 (.lst []) = H2 at s2 e2
        refine ⟨_, rfl, _, rfl, _, rfl, a, _, rfl, SqL.of (s2 _ _ ha), fun u1 hu1 => ?_⟩
        rw [show (some (1 : Int)) = some ((1 : Nat) : Int) from rfl, cut_drop]
        have s3 : Same H2 (upd H2 u1 (.lst (((a0 :: as').map V.ref).drop 1))) := Same.new hu1
        have e3 : (upd H2 u1 (.lst (((a0 :: as').map V.ref).drop 1))) u1 = some (.lst (as'.map V.ref)) := upd_same
        generalize upd H2 u1 (.lst (((a0 :: as').map V.ref).drop 1)) = H3 at s3 e3
        refine ⟨r1, u1, _, _, rfl, rfl, s3 _ _ e2, e3, Nat.le_of_lt (small1000 (by rw [List.length_map]; show 0 + as'.length ≤ 1000; omega)), fun g hg => ?_⟩
        have S3 := s2.trans s3
        refine hq g _ (S3.free hg) (S3.trans (Same.new hg)) ⟨as', upd_same, ?_⟩
        show PtA _ _ ((if m < x then [(x - m, p)] else []) ++ l)
        rw [if_neg hc]
        exact (show PtA H as' l from h2).t ((same_t S3).trans (same_t (Same.new hg)))
abbrev nPd : List Str := ["ons", "offs", "ways", "amount"]
theorem sc_paired : FnScope nPd ["ons", "offs"] (defScope s_paired) := ⟨rfl, rfl, rfl, by decide +kernel, rfl, by decide +kernel, by decide +kernel⟩
def lenA (H : Hp) (a : Addr) : Nat := match H a with
  | some (.lst xs) => xs.length
  | _ => 0
def muPd : List (Option V) → Hp → Nat
  | [some (.ref a), some (.ref b), _, _], H => lenA H a + lenA H b
  | _, _ => 0
theorem PtL.lenA {H : Hp} {a : Addr} {l : List Part} (h : PtL H a l) : Ts.lenA H a = l.length := by
  obtain ⟨as, h1, h2⟩ := h
  unfold Ts.lenA
  rw [h1]
  show (as.map V.ref).length = _
  rw [List.length_map]; exact h2.length
theorem ok_paired (D : DefAt K mg "paired" s_paired ["ons", "offs"]) (hM : mg "min" = none) (Dh : DefAt K mg "shorter" s_shorter ["parts", "amount"]) (Gh : FnOk P w K mg base CX0 1 Dh.f Dh.fd ["parts", "amount"] spShorter) : FnOk P w K mg base CX0 2 D.f D.fd ["ons", "offs"] spPaired := by
  refine D.F.ok sc_paired (fun vs H Q E h => ?_) (fun cdv A outer s H vs Q E hr h => ?_)
  · obtain ⟨a, b, o, f, rfl, _⟩ := h
    rfl
  · obtain ⟨a, b, o, f, rfl, ho, hf, hl, hq⟩ := h
    refine ⟨_, pss_cons (ps_set (i := 2) sc_paired.nd rfl (.inl rfl) (pe_lst pa_nil))
      (pss_cons (ps_while PassesOwn.never (PW.pt (pw_and (pt_truth (pv 0) (by intro _; rfl)) (pw_and1 (pt_truth (pv 1) (by intro _; rfl)))))
        (pss_cons (ps_set (i := 3) sc_paired.nd rfl (.inl rfl) (pe_callB (call_min2 rfl) (by rfl) hM (by decide +kernel) (pa_cons (pe_ix ix_tup (pe_ix ix_list (pv 0) pe_int (fun _ _ => rfl)) pe_int (fun _ _ => rfl)) (pa_cons (pe_ix ix_tup (pe_ix ix_list (pv 1) pe_int (fun _ _ => rfl)) pe_int (fun _ _ => rfl)) pa_nil))))
        (pss_cons (ps_expr (pe_bm PySem.F.plainAttrs_list PySem.F.slot_list_append PySem.F.type_list_append mt_append (pv 2) (pa_cons (pe_tup (pa_cons (pv 3) (pa_cons (pe_ix ix_tup (pe_ix ix_list (pv 0) pe_int (fun _ _ => rfl)) pe_int (fun _ _ => rfl)) (pa_cons (pe_ix ix_tup (pe_ix ix_list (pv 1) pe_int (fun _ _ => rfl)) pe_int (fun _ _ => rfl)) pa_nil)))) pa_nil)))
        (pss_one (ps_par rfl sc_paired.nd (i := 0) (j := 1) rfl rfl (by decide) rfl rfl (pa_cons (pe_call Gh hr rfl Dh.g Dh.F.kp Dh.b .nil pass0 (pa_cons (pv 0) (pa_cons (pv 3) pa_nil))) (pa_cons (pe_call Gh hr rfl Dh.g Dh.F.kp Dh.b .nil pass0 (pa_cons (pv 1) (pa_cons (pv 3) pa_nil))) pa_nil)) rfl)))))
      (pss_one (ps_ret (pe_tup (pa_cons (pv 2) (pa_cons (pv 0) (pa_cons (pv 1) pa_nil))))))), ?_⟩
    refine ⟨Nat.zero_le _, fun wl hwl => ?_⟩
    have s1 : Same H (upd H wl (.lst [])) := Same.new hwl
    have e1 : (upd H wl (.lst [])) wl = some (.lst []) := upd_same
    generalize upd H wl (.lst []) = H1 at s1 e1
    have ho1 := ho.same s1
    have hf1 := hf.same s1
    have na : a ≠ wl := by obtain ⟨as, h, _⟩ := ho; exact ne_of_none h hwl
    have nb : b ≠ wl := by obtain ⟨as, h, _⟩ := hf; exact ne_of_none h hwl
    refine while_by (fun σ H' => ∃ (a' b' : Addr) (o' f' : List Part) (w' : List Way3) (v3 : Option V) (n : Nat), σ = [some (.ref a'), some (.ref b'), some (.ref wl), v3] ∧ Same H H' ∧ PtL H' a' o' ∧ PtL H' b' f' ∧ WyL H' wl w' ∧ a' ≠ wl ∧ b' ≠ wl ∧ (a' = a ∨ H a' = none) ∧ (b' = b ∨ H b' = none) ∧ o'.length + f'.length ≤ n ∧ pairF n o' f' w' = pairL o f ∧ w'.length + o'.length + f'.length ≤ 400) muPd
      ⟨a, b, o, f, [], none, o.length + f.length, rfl, s1, ho1, hf1, ⟨[], e1, .nil⟩, na, nb, .inl rfl, .inl rfl, Nat.le_refl _, rfl, by simpa using hl⟩ ?_ (fun σ H Q Q' hQ h => ?_)
    · rintro σ H2 ⟨a', b', o', f', w', v3, n, rfl, s2, ha', hb', hw', na', nb', oa', ob', hn, hp, hsz⟩
      obtain ⟨as, ea, pa⟩ := id ha'
      obtain ⟨bs, eb, pb⟩ := id hb'
      obtain ⟨ws, ew, pw⟩ := id hw'
      have done : pairL o f = (w', o', f') → tRet (tTup (tCons (tVar 2) (tCons (tVar 0) (tCons (tVar 1) tNil)))) { nx := fun _ H' => Q .non H', rt := Q } [some (.ref a'), some (.ref b'), some (.ref wl), v3] H2 := fun e => by
        refine ⟨_, rfl, _, rfl, _, rfl, (by show 3 ≤ sizeLine; decide), fun T hT => ?_⟩
        have sT := Same.new (o := .tup [V.ref wl, V.ref a', V.ref b']) hT
        exact hq T wl a' b' _ (s2.trans sT) upd_same (by rw [e]; exact hw'.same sT) (by rw [e]; exact ha'.same sT) (by rw [e]; exact hb'.same sT) oa' ob'
      refine ⟨_, rfl, !(as.map V.ref).isEmpty, .inl ⟨_, SqL.of ea, rfl⟩, ?_⟩
      cases pa with
      | nil => exact iteF' rfl (iteF (done (by rw [← hp, pairF_nil1])))
      | cons x1 x2 =>
        rename_i a0 e0 as' o1
        refine iteT' rfl ⟨_, rfl, !(bs.map V.ref).isEmpty, .inl ⟨_, SqL.of eb, rfl⟩, ?_⟩
        cases pb with
        | nil => exact iteF' rfl (done (by rw [← hp, pairF_nil2]))
        | cons y1 y2 =>
          rename_i b0 e0' bs' f1
          refine iteT' rfl ?_
          obtain ⟨x, ax⟩ := e0
          obtain ⟨y, by_⟩ := e0'
          have hn1 : n ≠ 0 := by simp only [List.length_cons] at hn; omega
          obtain ⟨n', rfl⟩ := Nat.exists_eq_succ_of_ne_zero hn1
          refine ⟨_, rfl, a', _, _, _, rfl, rfl, SqL.of ea, atI_nat (j := 0) rfl, a0, _, _, _, rfl, rfl, sqT x1, atI_nat (j := 0) rfl, ?_⟩
          refine ⟨_, rfl, b', _, _, _, rfl, rfl, SqL.of eb, atI_nat (j := 0) rfl, b0, _, _, _, rfl, rfl, sqT y1, atI_nat (j := 0) rfl, ?_⟩
          refine ⟨_, _, rfl, ?_⟩
          rw [min_if]
          refine ⟨_, rfl, .inl ⟨rfl, _, SqL.of ew⟩, ?_⟩
          refine ⟨_, rfl, _, rfl, a', _, _, _, rfl, rfl, SqL.of ea, atI_nat (j := 0) rfl, a0, _, _, _, rfl, rfl, sqT x1, atI_nat (j := 1) rfl, ?_⟩
          refine ⟨_, rfl, b', _, _, _, rfl, rfl, SqL.of eb, atI_nat (j := 0) rfl, b0, _, _, _, rfl, rfl, sqT y1, atI_nat (j := 1) rfl, (by show 3 ≤ sizeLine; decide), fun tw htw => ?_⟩
          have s3 : Same H2 (upd H2 tw (.tup [V.int (min x y), V.str ax, V.str by_])) := Same.new htw
          have e3 : (upd H2 tw (.tup [V.int (min x y), V.str ax, V.str by_])) tw = some (.tup [V.int (min x y), V.str ax, V.str by_]) := upd_same
          generalize upd H2 tw (.tup [V.int (min x y), V.str ax, V.str by_]) = H3 at s3 e3
          have lw : ws.length = w'.length := pw.length
          have ew3 := s3 _ _ ew
          refine ⟨wl, _, _, rfl, rfl, ew3, small1000 (by rw [List.length_map]; omega), ?_⟩
          have t4 : TupS H3 (upd H3 wl (.lst (ws.map V.ref ++ [V.ref tw]))) := TupS.upd ew3 (fun xs e => nomatch e)
          have k4 : ∀ c o, c ≠ wl → H3 c = some o → (upd H3 wl (.lst (ws.map V.ref ++ [V.ref tw]))) c = some o := fun c o n e => by rw [upd_ne n]; exact e
          have e4 : (upd H3 wl (.lst (ws.map V.ref ++ [V.ref tw]))) wl = some (.lst ((ws ++ [tw]).map V.ref)) := by rw [upd_same, List.map_append]; rfl
          generalize upd H3 wl (.lst (ws.map V.ref ++ [V.ref tw])) = H4 at t4 k4 e4
          have S4 : Same H H4 := fun c o e => k4 _ _ (ne_of_none e hwl) (s3 _ _ (s2 _ _ e))
          have t24 : TupS H2 H4 := (same_t s3).trans t4
          have pa4 : PtL H4 a' ((x, ax) :: o1) := ⟨_, k4 _ _ na' (s3 _ _ ea), PtA.t (H := H2) (.cons x1 x2) t24⟩
          have pb4 : PtL H4 b' ((y, by_) :: f1) := ⟨_, k4 _ _ nb' (s3 _ _ eb), PtA.t (H := H2) (.cons y1 y2) t24⟩
          have pw4 : WyL H4 wl (w' ++ [(min x y, ax, by_)]) := ⟨_, e4, ((show WyA H2 ws w' from pw).t t24).snoc (t4 _ _ e3)⟩
          simp only [List.length_cons] at hsz hn
          clear ea eb ew x1 x2 y1 y2 pw hw' s3 e3 ew3 t4 k4 e4 t24 done htw
          refine ⟨_, rfl, _, rfl, a', min x y, (x, ax), o1, rfl, pa4, by omega, fun a5 H5 ha5 s5 pa5 => ?_⟩
          have pb5 := pb4.same s5
          refine ⟨_, rfl, _, rfl, b', min x y, (y, by_), f1, rfl, pb5, by omega, fun b6 H6 hb6 s6 pb6 => ?_⟩
          have pa6 := pa5.same s6
          have pw6 := (pw4.same s5).same s6
          have nw : ∀ {c : Addr} {Hx : Hp}, Hx c = none → Same H4 Hx → c ≠ wl := fun {c Hx} hc sx e => by
            obtain ⟨_, e4, _⟩ := pw4
            rw [e, sx _ _ e4] at hc; cases hc
          refine ⟨_, _, rfl, ⟨a5, b6, _, _, _, _, n', rfl, S4.trans (s5.trans s6), pa6, pb6, pw6, nw ha5 (Same.refl _), nw hb6 s5, .inr (S4.free ha5), .inr ((S4.trans s5).free hb6), ?_, hp, ?_⟩, ?_⟩
          · have := shorter_two x y ax by_ o1 f1
            simp only [List.length_cons] at this
            omega
          · have := shorter_two x y ax by_ o1 f1
            simp only [List.length_cons] at this
            rw [List.length_append]
            simp only [List.length_cons, List.length_nil]
            omega
          · have h1 := shorter_two x y ax by_ o1 f1
            show lenA H6 a5 + lenA H6 b6 < lenA H2 a' + lenA H2 b'
            rw [pa6.lenA, pb6.lenA, ha'.lenA, hb'.lenA]
            exact h1
    · obtain ⟨v, e, k, tk, q⟩ := h
      refine ⟨v, e, k, tk, ?_⟩
      cases k with
      | false => exact hQ _ _ q
      | true =>
        obtain ⟨v2, e2, k2, tk2, q2⟩ := q
        exact ⟨v2, e2, k2, tk2, hQ _ _ q2⟩
abbrev nLt : List Str := ["parts", "price", "through", "amount", "place", "borne"]
theorem sc_let : FnScope nLt ["parts", "price"] (defScope s_let_through) := ⟨rfl, rfl, rfl, by decide +kernel, rfl, by decide +kernel, by decide +kernel⟩
def letF : Int → List Part → List Part → List Part
  | _, acc, [] => acc
  | p, acc, (a, x) :: l => letF (p - min a p) (acc ++ if 0 < min a p then [(min a p, x)] else []) l
theorem letF_eq : ∀ (l : List Part) (p : Int) (acc : List Part), letF p acc l = acc ++ letL l p
  | [], p, acc => (List.append_nil acc).symm
  | (a, x) :: l, p, acc => by
    show letF _ _ l = acc ++ ((if 0 < min a p then [(min a p, x)] else []) ++ letL l (p - min a p))
    rw [letF_eq l, List.append_assoc]
theorem ok_let (D : DefAt K mg "let_through" s_let_through ["parts", "price"]) (hM : mg "min" = none) : FnOk P w K mg base CX0 1 D.f D.fd ["parts", "price"] spLet := by
  refine D.F.ok sc_let (fun vs H Q E h => ?_) (fun cdv A outer s H vs Q E hr h => ?_)
  · obtain ⟨a, p, l, rfl, _⟩ := h
    rfl
  · obtain ⟨a, p, l, rfl, ⟨as, ha, hp⟩, hl, hq⟩ := h
    refine ⟨_, pss_cons (ps_set (i := 2) sc_let.nd rfl (.inl rfl) (pe_lst pa_nil))
      (pss_cons (ps_for PassesOwn.never rfl (pi_list (pv 0)) (pg_tup rfl (pgs_cons (pg_name (i := 3) sc_let.nd rfl (.inl rfl)) (pgs_cons (pg_name (i := 4) sc_let.nd rfl (.inl rfl)) pgs_nil)))
        (pss_cons (ps_set (i := 5) sc_let.nd rfl (.inl rfl) (pe_callB (call_min2 rfl) (by rfl) hM (by decide +kernel) (pa_cons (pv 3) (pa_cons (pv 1) pa_nil))))
        (pss_cons (ps_set (i := 1) sc_let.nd rfl (.inl rfl) (pe_op op_sub (pv 1) (pv 5)))
        (pss_one (ps_if (pt_cmpR op_gt (pv 5) pe_int (nomark _)) (pss_one (ps_expr (pe_bm PySem.F.plainAttrs_list PySem.F.slot_list_append PySem.F.type_list_append mt_append (pv 2) (pa_cons (pe_tup (pa_cons (pv 5) (pa_cons (pv 4) pa_nil))) pa_nil)))) pss_nil)))))
      (pss_one (ps_ret (pv 2)))), ?_⟩
    refine ⟨Nat.zero_le _, fun tl htl => ?_⟩
    have s1 : Same H (upd H tl (.lst [])) := Same.new htl
    have e1 : (upd H tl (.lst [])) tl = some (.lst []) := upd_same
    generalize upd H tl (.lst []) = H1 at s1 e1
    have na : a ≠ tl := ne_of_none ha htl
    refine ⟨_, rfl, a, rfl, ⟨_, SqL.of (s1 _ _ ha)⟩, ?_⟩
    have ll : as.length = l.length := hp.length
    refine for_list (K := K) (a := a) (xs := as.map V.ref) (fun i σ H' => ∃ (p' : Int) (acc : List Part) (v3 v4 v5 : Option V), σ = [some (.ref a), some (.int p'), some (.ref tl), v3, v4, v5] ∧ Same H H' ∧ PtL H' tl acc ∧ acc.length ≤ i ∧ letF p' acc (l.drop i) = letF p [] l)
      ⟨p, [], none, none, none, rfl, s1, ⟨[], e1, .nil⟩, Nat.le_refl _, rfl⟩ (fun i σ H' _ ⟨_, _, _, _, _, _, s, _⟩ => SqL.of (s _ _ ha)) ?_ ?_
    · rintro i x σ H2 hx ⟨p', acc, v3, v4, v5, rfl, s2, hacc, hai, hlet⟩
      rw [List.getElem?_map] at hx
      obtain ⟨a0, ha0, rfl⟩ := Option.map_eq_some_iff.mp hx
      obtain ⟨⟨n, z⟩, he, h0⟩ := paired_get hp ha0
      have hil : i < l.length := (List.getElem?_eq_some_iff.mp he).1
      have ed : l.drop i = (n, z) :: l.drop (i + 1) := by
        rw [List.drop_eq_getElem_cons hil]
        rw [List.getElem?_eq_getElem hil] at he
        rw [Option.some.inj he]
      rw [ed] at hlet
      have hlet : letF (p' - min n p') (acc ++ if 0 < min n p' then [(min n p', z)] else []) (l.drop (i + 1)) = letF p [] l := hlet
      refine ⟨a0, _, rfl, sqT (s2 _ _ h0), rfl, _, _, rfl, _, _, rfl, rfl, ?_⟩
      refine ⟨_, rfl, _, rfl, _, _, rfl, ?_⟩
      rw [min_if]
      refine ⟨_, rfl, _, rfl, _, _, rfl, rfl, ?_⟩
      refine ⟨_, rfl, _, _, rfl, rfl, _, rfl, ?_⟩
      by_cases hc : 0 < min n p'
      · rw [if_pos hc] at hlet
        obtain ⟨ts, ets, pts⟩ := hacc
        have lts : ts.length = acc.length := pts.length
        refine iteT' (decide_eq_true hc) ⟨_, rfl, .inl ⟨rfl, _, SqL.of ets⟩, _, rfl, _, rfl, (by show 2 ≤ sizeLine; decide), fun t1 ht1 => ?_⟩
        have s3 : Same H2 (upd H2 t1 (.tup [V.int (min n p'), V.str z])) := Same.new ht1
        have e3 : (upd H2 t1 (.tup [V.int (min n p'), V.str z])) t1 = some (.tup [V.int (min n p'), V.str z]) := upd_same
        generalize upd H2 t1 (.tup [V.int (min n p'), V.str z]) = H3 at s3 e3
        refine ⟨tl, _, _, rfl, rfl, s3 _ _ ets, small1000 (by rw [List.length_map]; omega), ?_⟩
        have t4 : TupS H3 (upd H3 tl (.lst (ts.map V.ref ++ [V.ref t1]))) := TupS.upd (s3 _ _ ets) (fun xs e => nomatch e)
        refine ⟨_, _, _, _, _, rfl, fun c o e => by rw [upd_ne (ne_of_none e htl)]; exact s3 _ _ (s2 _ _ e), ⟨ts ++ [t1], by rw [upd_same, List.map_append]; rfl, ((show PtA H2 ts acc from pts).t ((same_t s3).trans t4)).snoc (t4 _ _ e3)⟩, by rw [List.length_append]; exact Nat.succ_le_succ hai, hlet⟩
      · rw [if_neg hc, List.append_nil] at hlet
        exact iteF' (decide_eq_false hc) ⟨_, _, _, _, _, rfl, s2, hacc, by omega, hlet⟩
    rintro σ H2 ⟨p', acc, v3, v4, v5, rfl, s2, hacc, hai, hlet⟩
    rw [List.length_map, ll, List.drop_length] at hlet
    have e : acc = letL l p := by
      have : acc = letF p [] l := hlet
      rw [this, letF_eq]; rfl
    refine ⟨_, rfl, hq tl _ htl s2 (by rw [← e]; exact hacc)⟩
end
end Ts

set_option maxRecDepth 100000
set_option maxHeartbeats 8000000
namespace Ts
open PySem L2
abbrev Wait := Str → Bool → List Part
def endP (rs : List Row) (es : Wsh) (W : Wait) (z : Str) (b : Bool) : List Part := if endO es z = some b then [(endlessI rs, z)] else W z b
def meetP (rs : List Row) (es : Wsh) (W : Wait) (z : Str) : List Way3 × List Part × List Part := pairL (endP rs es W z true) (endP rs es W z false)
def sideP (m : List Way3 × List Part × List Part) (b : Bool) : List Part := if b = true then m.2.1 else m.2.2
def stepW (rs : List Row) (es : Wsh) (r : Row) (S : List Way3 × Wait) : List Way3 × Wait := (S.1 ++ (meetP rs es S.2 r.nm).1, fun z b => if z = r.fo then S.2 z b ++ letL (sideP (meetP rs es S.2 r.nm) b) (stepR rs r) else S.2 z b)
def waysS (rs : List Row) (es : Wsh) : List Row → List Way3 × Wait
  | [] => ([], fun _ _ => [])
  | r :: l => stepW rs es r (waysS rs es l)
def waysF (rs : List Row) (es : Wsh) : List Way3 := (waysS rs es rs).1 ++ (meetP rs es (waysS rs es rs).2 "top").1
theorem end_len (rs : List Row) (es : Wsh) (W : Wait) (z : Str) : (endP rs es W z true).length + (endP rs es W z false).length ≤ (W z true).length + (W z false).length + 1 := by
  unfold endP
  cases c : endO es z with
  | none => simp
  | some b => cases b <;> simp <;> omega
theorem meet_len (rs : List Row) (es : Wsh) (W : Wait) (z : Str) : (meetP rs es W z).1.length + (meetP rs es W z).2.1.length + (meetP rs es W z).2.2.length ≤ (W z true).length + (W z false).length + 1 := by
  have h1 := end_len rs es W z
  have h2 := pairF_len ((endP rs es W z true).length + (endP rs es W z false).length) (endP rs es W z true) (endP rs es W z false) []
  unfold meetP pairL
  simp only [List.length_nil] at h2
  omega
def wLen (W : Wait) (z : Str) : Nat := (W z true).length + (W z false).length
theorem sum_le_one {l : List Str} (nd : l.Nodup) {a : Str} (ha : a ∈ l) {f g : Str → Nat} {m : Nat} (h : ∀ z ∈ l, z ≠ a → f z = g z) (h2 : f a ≤ g a + m) : (l.map f).sum ≤ (l.map g).sum + m := by
  induction l with
  | nil => cases ha
  | cons b l ih =>
    rw [List.nodup_cons] at nd
    rw [List.map_cons, List.map_cons, List.sum_cons, List.sum_cons]
    by_cases q : b = a
    · have e : l.map f = l.map g := List.map_congr_left fun z hz => h z (List.mem_cons_of_mem _ hz) fun x => nd.1 (by rw [q, ← x]; exact hz)
      rw [e, q]; omega
    · have := ih nd.2 ((List.mem_cons.mp ha).resolve_left fun x => q x.symm) fun z hz => h z (List.mem_cons_of_mem _ hz)
      rw [h b (List.mem_cons_self ..) q]; omega
theorem ways_pot (rs : List Row) (es : Wsh) : ∀ (suf pre : List Row), Valid (pre ++ suf) → (waysS rs es suf).1.length + ((plc pre).map (wLen (waysS rs es suf).2)).sum ≤ suf.length
  | [], pre, _ => by
    have : ∀ l : List Str, (l.map (wLen fun _ _ => [])).sum = 0 := fun l => by
      induction l with
      | nil => rfl
      | cons a l ih => rw [List.map_cons, List.sum_cons, ih]; rfl
    show 0 + ((plc pre).map (wLen fun _ _ => [])).sum ≤ 0
    rw [this]; exact Nat.le_refl _
  | r :: suf, pre, h => by
    have ih := ways_pot rs es suf (pre ++ [r]) (by rw [List.append_assoc]; exact h)
    have hf := fits_at h
    rw [plc_snoc, List.map_append, List.sum_append] at ih
    simp only [List.map_cons, List.map_nil, List.sum_cons, List.sum_nil] at ih
    show (stepW rs es r (waysS rs es suf)).1.length + ((plc pre).map (wLen (stepW rs es r (waysS rs es suf)).2)).sum ≤ suf.length + 1
    generalize waysS rs es suf = S at ih
    have hm := meet_len rs es S.2 r.nm
    have l1 := let_len (meetP rs es S.2 r.nm).2.1 (stepR rs r)
    have l2 := let_len (meetP rs es S.2 r.nm).2.2 (stepR rs r)
    have hs := sum_le_one (plc_nodup (valid_pre h)) (fo_pre hf) (f := wLen (stepW rs es r S).2) (g := wLen S.2) (m := (meetP rs es S.2 r.nm).2.1.length + (meetP rs es S.2 r.nm).2.2.length) (fun z _ hz => by
      unfold wLen stepW
      simp only [if_neg hz]) (by
      unfold wLen stepW sideP
      simp only [if_true, Bool.false_eq_true, if_false, List.length_append]
      omega)
    show (S.1 ++ (meetP rs es S.2 r.nm).1).length + _ ≤ _
    rw [List.length_append]
    unfold wLen at ih hs ⊢
    omega
theorem wlen_mem {l : List Str} {g : Str → Nat} {a : Str} (ha : a ∈ l) : g a ≤ (l.map g).sum := by
  induction l with
  | nil => cases ha
  | cons b l ih =>
    rw [List.map_cons, List.sum_cons]
    rcases List.mem_cons.mp ha with rfl | ha
    · omega
    · have := ih ha; omega
theorem PtA.app {H : Hp} {as bs : List Addr} {l l2 : List Part} (h : PtA H as l) (h2 : PtA H bs l2) : PtA H (as ++ bs) (l ++ l2) := by
  unfold PtA at h h2 ⊢
  induction h with
  | nil => exact h2
  | cons q t ih => exact .cons q ih
theorem WyA.app {H : Hp} {as bs : List Addr} {l l2 : List Way3} (h : WyA H as l) (h2 : WyA H bs l2) : WyA H (as ++ bs) (l ++ l2) := by
  unfold WyA at h h2 ⊢
  induction h with
  | nil => exact h2
  | cons q t ih => exact .cons q ih
/-! ### what waits, as it stands -/
structure WtI (P : Program) (w : World) (H0 H : Hp) (wd wl rl : Addr) (ps : List Str) (W : Wait) (ad : Str → Bool → Addr) : Prop where
  tab : PTab P w H wd ps (fun z b => .ref (ad z b))
  lst : ∀ z ∈ ps, ∀ b, PtL H (ad z b) (W z b)
  new : ∀ z ∈ ps, ∀ b, H0 (ad z b) = none ∧ ad z b ≠ rl ∧ ad z b ≠ wl
  inj : ∀ z ∈ ps, ∀ z' ∈ ps, ∀ b b', ad z b = ad z' b' → z = z' ∧ b = b'
section
variable {P : Program} {w : World} {H0 H H' : Hp} {wd wl rl : Addr} {ps : List Str} {W : Wait} {ad : Str → Bool → Addr}
theorem WtI.same (h : WtI P w H0 H wd wl rl ps W ad) (s : Same H H') : WtI P w H0 H' wd wl rl ps W ad := ⟨h.tab.same s, fun z hz b => (h.lst z hz b).same s, h.new, h.inj⟩
theorem WtI.sub {qs : List Str} (h : WtI P w H0 H wd wl rl ps W ad) (s : ∀ z ∈ qs, z ∈ ps) : WtI P w H0 H wd wl rl qs W ad :=
  ⟨let ⟨l, h1, h2, h3⟩ := h.tab; ⟨l, h1, h2, fun z hz => h3 z (s z hz)⟩, fun z hz => h.lst z (s z hz), fun z hz => h.new z (s z hz), fun z hz z' hz' => h.inj z (s z hz) z' (s z' hz')⟩
theorem WtI.dW (h : WtI P w H0 H wd wl rl ps W ad) : ∃ l, H wd = some (DicP P w none wd l) := h.tab.has
theorem WtI.nd (h : WtI P w H0 H wd wl rl ps W ad) {z : Str} (hz : z ∈ ps) (b : Bool) : ad z b ≠ wd := fun e => by
  obtain ⟨l, hl⟩ := h.dW
  obtain ⟨as, h1, _⟩ := h.lst z hz b
  rw [e, hl] at h1
  cases h1
/-- another list takes the place of one -/
theorem WtI.set {H1 : Hp} {Q : Hp → Prop} {z : Str} {b : Bool} {n a : Addr} {l1 : List Part} (h : WtI P w H0 H wd wl rl ps W ad) (s : Same H H1) (hn : H n = none) (hn0 : H0 n = none) (nr : n ≠ rl) (nl : n ≠ wl) (hl : PtL H1 n l1) (hz : z ∈ ps) (ha : H1 a = some (.tup [.str z, .bl b]))
    (q : ∀ H2, (∀ c o, c ≠ wd → H1 c = some o → H2 c = some o) → WtI P w H0 H2 wd wl rl ps (fun y c => if y = z ∧ c = b then l1 else W y c) (fun y c => if y = z ∧ c = b then n else ad y c) → Q H2) : rSetP P w (.ref wd) (.ref a) (.ref n) H1 Q := by
  have h1 := h.same s
  refine h1.tab.set hz ha fun H2 s2 t2 => q H2 s2 ?_
  have nnd : n ≠ wd := by
    obtain ⟨l, hl⟩ := h.dW
    exact fun e => by rw [e, hl] at hn; cases hn
  have nad : ∀ y ∈ ps, ∀ c, n ≠ ad y c := fun y hy c e => by
    obtain ⟨as, h1, _⟩ := h.lst y hy c
    rw [← e, hn] at h1; cases h1
  obtain ⟨lD, hD⟩ := h1.dW
  have tp : TupS H1 H2 := fun c xs e => s2 c _ (fun x => by rw [x, hD] at e; cases e) e
  have keep : ∀ {c : Addr} {l : List Part}, c ≠ wd → PtL H1 c l → PtL H2 c l := fun {c l} nc ⟨as, e1, e2⟩ => ⟨as, s2 _ _ nc e1, e2.t tp⟩
  refine ⟨t2.imp fun y hy c => ?_, fun y hy c => ?_, fun y hy c => ?_, fun y hy y' hy' c c' e => ?_⟩
  · by_cases k : z = y ∧ b = c
    · rw [if_pos k, if_pos ⟨k.1.symm, k.2.symm⟩]
    · rw [if_neg k, if_neg fun x => k ⟨x.1.symm, x.2.symm⟩]
  · show PtL H2 (if y = z ∧ c = b then n else ad y c) (if y = z ∧ c = b then l1 else W y c)
    by_cases k : y = z ∧ c = b
    · rw [if_pos k, if_pos k]; exact keep nnd hl
    · rw [if_neg k, if_neg k]; exact keep (h.nd hy c) (h1.lst y hy c)
  · show H0 (if y = z ∧ c = b then n else ad y c) = none ∧ (if y = z ∧ c = b then n else ad y c) ≠ rl ∧ (if y = z ∧ c = b then n else ad y c) ≠ wl
    by_cases k : y = z ∧ c = b
    · rw [if_pos k]; exact ⟨hn0, nr, nl⟩
    · rw [if_neg k]; exact h.new y hy c
  · have e : (if y = z ∧ c = b then n else ad y c) = (if y' = z ∧ c' = b then n else ad y' c') := e
    by_cases k : y = z ∧ c = b <;> by_cases k' : y' = z ∧ c' = b
    · exact ⟨k.1.trans k'.1.symm, k.2.trans k'.2.symm⟩
    · rw [if_pos k, if_neg k'] at e; exact absurd e (nad y' hy' c')
    · rw [if_neg k, if_pos k'] at e; exact absurd e.symm (nad y hy c)
    · rw [if_neg k, if_neg k'] at e; exact h.inj y hy y' hy' c c' e
/-- a list grows -/
theorem WtI.ext {z : Str} {b : Bool} {as bs : List Addr} {l2 : List Part} (h : WtI P w H0 H wd wl rl ps W ad) (hz : z ∈ ps) (ha : H (ad z b) = some (.lst (as.map V.ref))) (hb : PtA H bs l2) :
    WtI P w H0 (upd H (ad z b) (.lst (as.map V.ref ++ bs.map V.ref))) wd wl rl ps (fun y c => if y = z ∧ c = b then W y c ++ l2 else W y c) ad := by
  have tp : TupS H (upd H (ad z b) (.lst (as.map V.ref ++ bs.map V.ref))) := TupS.upd ha fun xs e => nomatch e
  refine ⟨h.tab.other (d := ad z b) (fun c o n e => by rw [upd_ne n]; exact e) ha (fun xs e => nomatch e) (h.nd hz b).symm, fun y hy c => ?_, h.new, h.inj⟩
  obtain ⟨cs, e1, e2⟩ := h.lst y hy c
  show PtL _ (ad y c) (if y = z ∧ c = b then W y c ++ l2 else W y c)
  by_cases k : y = z ∧ c = b
  · obtain ⟨rfl, rfl⟩ := k
    rw [if_pos ⟨rfl, rfl⟩]
    have : cs = as := by
      rw [e1] at ha
      have := HO.lst.inj (Option.some.inj ha)
      exact (List.map_inj_right (f := V.ref) fun x y e => V.ref.inj e).mp this
    subst this
    refine ⟨cs ++ bs, by rw [upd_same, List.map_append], ?_⟩
    exact (e2.t tp).app (hb.t tp)
  · rw [if_neg k]
    exact ⟨cs, by rw [upd_ne fun x => k (h.inj y hy z hz c b x)]; exact e1, e2.t tp⟩
/-- the list of the ways grows -/
theorem WtI.oth {o' : List V} (h : WtI P w H0 H wd wl rl ps W ad) (k : ∀ c o, c ≠ wl → H c = some o → H' c = some o) (hw : H wl = some (.lst o')) (nd : wd ≠ wl) : WtI P w H0 H' wd wl rl ps W ad := by
  have tp : TupS H H' := fun c xs e => k c _ (fun x => by rw [x, hw] at e; cases e) e
  exact ⟨h.tab.other k hw (fun xs e => nomatch e) nd, fun z hz b => let ⟨as, e1, e2⟩ := h.lst z hz b; ⟨as, k _ _ (h.new z hz b).2.2 e1, e2.t tp⟩, h.new, h.inj⟩
theorem WtI.imp {W' : Wait} (h : WtI P w H0 H wd wl rl ps W ad) (e : ∀ z ∈ ps, ∀ b, W z b = W' z b) : WtI P w H0 H wd wl rl ps W' ad := ⟨h.tab, fun z hz b => by rw [← e z hz b]; exact h.lst z hz b, h.new, h.inj⟩
end
end Ts

set_option maxRecDepth 100000
set_option maxHeartbeats 8000000
namespace Ts
open PySem L2
/-- the dict of the waiting parts while it is made: each value an empty list of its own -/
structure WtC (P : Program) (w : World) (H0 H : Hp) (D : Addr) (l : List EnP) : Prop where
  d : H D = some (DicP P w none D l)
  k : KeysP H l
  n : (keysP l).Nodup
  v : ∀ y ∈ l, ∃ c, y.v = .ref c ∧ H c = some (.lst []) ∧ H0 c = none
  i : ∀ y ∈ l, ∀ y' ∈ l, y.v = y'.v → (y.z, y.b) = (y'.z, y'.b)
theorem WtC.same {P : Program} {w : World} {H0 H H' : Hp} {D : Addr} {l : List EnP} (h : WtC P w H0 H D l) (s : Same H H') : WtC P w H0 H' D l :=
  ⟨s _ _ h.d, h.k.keep fun b xs e => s _ _ e, h.n, fun y hy => let ⟨c, e, e1, e2⟩ := h.v y hy; ⟨c, e, s _ _ e1, e2⟩, h.i⟩
theorem WtC.snoc {P : Program} {w : World} {H0 H : Hp} {D a n : Addr} {l : List EnP} {z : Str} {b : Bool} (h : WtC P w H0 H D l) (hD : H0 D = none) (ha : H a = some (.tup [.str z, .bl b])) (hn : atP l z b = none) (en : H n = some (.lst [])) (nD : n ≠ D) (nl : ∀ y ∈ l, y.v ≠ .ref n) (n0 : H0 n = none) :
    WtC P w H0 (upd H D (DicP P w none D (l ++ [⟨z, b, a, .ref n⟩]))) D (l ++ [⟨z, b, a, .ref n⟩]) := by
  have kk : ∀ c o, c ≠ D → H c = some o → (upd H D (DicP P w none D (l ++ [⟨z, b, a, .ref n⟩]))) c = some o := fun c o e x => by rw [upd_ne e]; exact x
  have nt : ∀ {c : Addr} {o : HO}, H c = some o → (∀ l, o ≠ DicP P w none D l) → c ≠ D := fun {c o} e no x => by
    rw [x, h.d] at e
    exact no _ (Option.some.inj e).symm
  refine ⟨upd_same, (KeysP.snoc h.k ha).keep fun c xs e => kk _ _ (nt e fun l x => nomatch x) e, ndP_snoc h.n hn, fun y hy => ?_, fun y hy y' hy' e => ?_⟩
  · rcases List.mem_append.mp hy with m | m
    · obtain ⟨c, e, e1, e2⟩ := h.v y m
      exact ⟨c, e, kk _ _ (nt e1 fun l x => nomatch x) e1, e2⟩
    · rw [List.mem_singleton.mp m]
      exact ⟨n, rfl, kk _ _ nD en, n0⟩
  · rcases List.mem_append.mp hy with m | m <;> rcases List.mem_append.mp hy' with m' | m'
    · exact h.i y m y' m' e
    · rw [List.mem_singleton.mp m'] at e; exact absurd e (nl y m)
    · rw [List.mem_singleton.mp m] at e; exact absurd e.symm (nl y' m')
    · rw [List.mem_singleton.mp m, List.mem_singleton.mp m']
theorem atP_val {z : Str} {b : Bool} {v : V} : ∀ {l : List EnP}, atP l z b = some v → ∃ y ∈ l, y.z = z ∧ y.b = b ∧ y.v = v
  | [], h => nomatch h
  | y :: l, h => by
    unfold atP at h
    rw [List.find?_cons] at h
    by_cases q : y.z = z ∧ y.b = b
    · rw [decide_eq_true q] at h
      exact ⟨y, List.mem_cons_self .., q.1, q.2, Option.some.inj h⟩
    · rw [decide_eq_false q] at h
      obtain ⟨x, hx, e⟩ := atP_val (l := l) h
      exact ⟨x, List.mem_cons_of_mem _ hx, e⟩
def adOf (D : Addr) (l : List EnP) (z : Str) (b : Bool) : Addr := match atP l z b with
  | some (.ref c) => c
  | _ => D
theorem adOf_eq {D c : Addr} {l : List EnP} {z : Str} {b : Bool} (h : atP l z b = some (.ref c)) : adOf D l z b = c := by
  unfold adOf
  rw [h]
theorem WtC.toI {P : Program} {w : World} {H0 H H' : Hp} {D wl rl : Addr} {l : List EnP} {ps : List Str} (h : WtC P w H0 H D l) (all : ∀ z ∈ ps, ∀ b, (atP l z b).isSome = true) (s : Same H H') (hr : H rl = none) (hw : H wl = none) : ∃ ad, WtI P w H0 H' D wl rl ps (fun _ _ => []) ad := by
  have key : ∀ z ∈ ps, ∀ b, ∃ c, atP l z b = some (.ref c) ∧ H c = some (.lst []) ∧ H0 c = none ∧ ∃ y ∈ l, y.z = z ∧ y.b = b ∧ y.v = .ref c := fun z hz b => by
    obtain ⟨v, ev⟩ := Option.isSome_iff_exists.mp (all z hz b)
    obtain ⟨y, hy, e1, e2, e3⟩ := atP_val ev
    obtain ⟨c, ec, e4, e5⟩ := h.v y hy
    have e6 : v = .ref c := e3.symm.trans ec
    exact ⟨c, by rw [ev, e6], e4, e5, y, hy, e1, e2, ec⟩
  refine ⟨adOf D l, ?_, fun z hz b => ?_, fun z hz b => ?_, fun z hz z' hz' b b' e => ?_⟩
  · refine ⟨l, s _ _ h.d, h.k.keep fun b xs e => s _ _ e, fun z hz b => ?_⟩
    obtain ⟨c, e, _⟩ := key z hz b
    show _ = some (V.ref (adOf D l z b))
    rw [adOf_eq e]; exact e
  · obtain ⟨c, e, e1, _⟩ := key z hz b
    rw [adOf_eq e]
    exact ⟨[], s _ _ e1, .nil⟩
  · obtain ⟨c, e, e1, e2, _⟩ := key z hz b
    rw [adOf_eq e]
    exact ⟨e2, (fun x => by rw [x, hr] at e1; cases e1), (fun x => by rw [x, hw] at e1; cases e1)⟩
  · obtain ⟨c, e1, _, _, y, hy, y1, y2, y3⟩ := key z hz b
    obtain ⟨c', e1', _, _, y', hy', y1', y2', y3'⟩ := key z' hz' b'
    rw [adOf_eq e1, adOf_eq e1'] at e
    have := h.i y hy y' hy' (by rw [y3, y3', e])
    rw [y1, y2, y1', y2'] at this
    exact ⟨congrArg Prod.fst this, congrArg Prod.snd this⟩
def spWays (C : Addr) : Sp := fun vs H Q _ => ∃ (t ed : Addr) (rs : List Row) (es : Wsh), vs = [.ref t, .ref ed] ∧ TreeAt C H t rs ∧ H ed = some (.dK (kvE es)) ∧ EndsOk rs es ∧ ∀ W H', H W = none → Same H H' → WyL H' W (waysF rs es) → Q (.ref W) H'
section
variable {P : Program} {w : World} {K : PySem.W.Frag} {mg : Str → Option Value} {base : Heap} {C CM CB : Addr}
abbrev nWb : List Str := ["tree", "ends", "steps", "place", "waiting", "ways", "found", "ons", "offs", "value"]
theorem sc_ways : FnScope nWb ["tree", "ends"] (defScope s_ways_between) := ⟨rfl, rfl, rfl, by decide +kernel, rfl, by decide +kernel, by decide +kernel⟩
theorem ok_ways (D : DefAt K mg "ways_between" s_ways_between ["tree", "ends"]) (TC : TxC K mg) (T : TxT K mg C) (U : TxU K mg)
    (De : DefAt K mg "endless" s_endless ["tree"]) (Ge : FnOk P w K mg base CX0 6 De.f De.fd ["tree"] (spEndless C))
    (Ds : DefAt K mg "step_prices" s_step_prices ["tree"]) (Gs : FnOk P w K mg base CX0 7 Ds.f Ds.fd ["tree"] (spSteps2 C))
    (Dp : DefAt K mg "paired" s_paired ["ons", "offs"]) (Gp : FnOk P w K mg base CX0 2 Dp.f Dp.fd ["ons", "offs"] spPaired)
    (Dl : DefAt K mg "let_through" s_let_through ["parts", "price"]) (Gl_ : FnOk P w K mg base CX0 1 Dl.f Dl.fd ["parts", "price"] spLet)
    (mB : MethAt K C "below" "Tree.below" s_Tree_below ["self", "box"]) (GB : FnOk P w K mg base CX0 5 mB.f mB.fd ["self", "box"] (spListOf C belowL))
    (mF : MethAt K C "folder" "Tree.folder" s_Tree_folder ["self", "box"]) (GF : FnOk P w K mg base CX0 4 mF.f mF.fd ["self", "box"] (spGet C fun r => .str r.fo)) : FnOk P w K mg base CX0 8 D.f D.fd ["tree", "ends"] (spWays C) := by
  obtain ⟨t1, gT⟩ := TC.top
  refine D.F.ok sc_ways (fun vs H Q E h => ?_) (fun cdv A outer s H vs Q E hr h => ?_)
  · obtain ⟨t, ed, rs, es, rfl, _⟩ := h
    rfl
  · obtain ⟨t, ed, rs, es, rfl, ht, hd, hok, hq⟩ := h
    have hu := hu_of hr
    have r1 : Room 1 _ := hr.mono (by decide)
    have r2 : Room 2 _ := hr.mono (by decide)
    have r4 : Room 4 _ := hr.mono (by decide)
    have r5 : Room 5 _ := hr.mono (by decide)
    have r6 : Room 6 _ := hr.mono (by decide)
    refine ⟨_, pss_cons (ps_set (i := 2) sc_ways.nd rfl (.inl rfl) (pe_call Gs hr rfl Ds.g Ds.F.kp Ds.b .nil pass0 (pa_cons (pv 0) pa_nil)))
      (pss_cons (ps_setDc2 (i := 4) (own := [("place", 3), ("value", 9)]) (vsb := [9]) (ga := gName 3) (qa := tYes) (wb := iTup K (tC (.ref U.A))) (gb := gName 9) (qb := tYes) (tk := tTup (tCons (tVar 3) (tCons (tVar 9) tNil))) (tv := tLst tNil) (storeP P w) hu rfl sc_ways.nd rfl rfl (swd_true rfl rfl rfl (by decide +kernel))
          (pi_list (pe_op op_cat (pe_lst (pa_cons (pe_glob (by rfl) gT (v := .str ("top" : Str)) ⟨_, rfl⟩) pa_nil)) (pe_meth (pv 0) T.cl mB.m GB r5 mB.b .nil pass0 (pa_cons (pe_glob (by rfl) gT (v := .str ("top" : Str)) ⟨_, rfl⟩) pa_nil)))) (blkOk_by (N := nWb) (sc := defScope s_ways_between) (by decide +kernel)) (by decide)
          (fun _ _ _ _ _ => pg_name (i := 3) sc_ways.nd rfl (Or.inl rfl)) (fun _ _ _ _ _ => pts_nil) (fun _ _ _ _ _ => pi_tup (pe_glob (by rfl) U.g (v := .ref U.A) rfl)) (fun _ _ _ _ _ => pg_name (i := 9) sc_ways.nd rfl (Or.inl rfl)) (fun _ _ _ _ _ => pts_nil)
          (fun _ _ _ _ _ => by exact pe_tup (pa_cons (pv 3) (pa_cons (pv 9) pa_nil))) (fun _ _ _ _ _ => by exact pe_lst pa_nil))
      (pss_cons (ps_set (i := 5) sc_ways.nd rfl (.inl rfl) (pe_lst pa_nil))
      (pss_cons (ps_for PassesOwn.never rfl (pi_list (pe_op op_cat (pe_revL (pe_meth (pv 0) T.cl mB.m GB r5 mB.b .nil pass0 (pa_cons (pe_glob (by rfl) gT (v := .str ("top" : Str)) ⟨_, rfl⟩) pa_nil))) (pe_lst (pa_cons (pe_glob (by rfl) gT (v := .str ("top" : Str)) ⟨_, rfl⟩) pa_nil)))) (pg_name (i := 3) sc_ways.nd rfl (.inl rfl))
        (C8.pss_cut (ps_if (pt_cmp (pc_din hu (pv 3) (pv 1)))
            (pss_one (ps_asg (pe_lst (pa_cons (pe_tup (pa_cons (pe_call Ge r6 rfl De.g De.F.kp De.b .nil pass0 (pa_cons (pv 0) pa_nil)) (pa_cons (pv 3) pa_nil))) pa_nil)) (pg_sub (pv 4) (pe_tup (pa_cons (pv 3) (pa_cons (pe_dget hu (pv 1) (pv 3) (fun _ _ => rfl)) pa_nil))) (pset_P hu)))) pss_nil)
        (pss_cons (ps_asg (pe_call Gp r2 rfl Dp.g Dp.F.kp Dp.b .nil pass0 (pa_cons (pe_getP hu (pv 4) (pe_tup (pa_cons (pv 3) (pa_cons pe_bl pa_nil))) (fun _ _ => rfl)) (pa_cons (pe_getP hu (pv 4) (pe_tup (pa_cons (pv 3) (pa_cons pe_bl pa_nil))) (fun _ _ => rfl)) pa_nil)))
            (pg_tup rfl (pgs_cons (pg_name (i := 6) sc_ways.nd rfl (.inl rfl)) (pgs_cons (pg_name (i := 7) sc_ways.nd rfl (.inl rfl)) (pgs_cons (pg_name (i := 8) sc_ways.nd rfl (.inl rfl)) pgs_nil)))))
        (pss_cons (ps_expr (pe_bm PySem.F.plainAttrs_list PySem.F.slot_list_extend PySem.F.type_list_extend mt_extend (pv 5) (pa_cons (pv 6) pa_nil)))
        (pss_one (ps_if (pt_cmpR op_ne (pv 3) (pe_glob (by rfl) gT (v := .str ("top" : Str)) ⟨_, rfl⟩) (nomark _))
          (pss_cons (ps_expr (pe_bm PySem.F.plainAttrs_list PySem.F.slot_list_extend PySem.F.type_list_extend mt_extend (pe_getP hu (pv 4) (pe_tup (pa_cons (pe_meth (pv 0) T.cl mF.m GF r4 mF.b .nil pass0 (pa_cons (pv 3) pa_nil)) (pa_cons pe_bl pa_nil))) (fun _ _ => rfl)) (pa_cons (pe_call Gl_ r1 rfl Dl.g Dl.F.kp Dl.b .nil pass0 (pa_cons (pv 7) (pa_cons (pe_dget hu (pv 2) (pv 3) (fun _ _ => rfl)) pa_nil))) pa_nil)))
          (pss_one (ps_expr (pe_bm PySem.F.plainAttrs_list PySem.F.slot_list_extend PySem.F.type_list_extend mt_extend (pe_getP hu (pv 4) (pe_tup (pa_cons (pe_meth (pv 0) T.cl mF.m GF r4 mF.b .nil pass0 (pa_cons (pv 3) pa_nil)) (pa_cons pe_bl pa_nil))) (fun _ _ => rfl)) (pa_cons (pe_call Gl_ r1 rfl Dl.g Dl.F.kp Dl.b .nil pass0 (pa_cons (pv 8) (pa_cons (pe_dget hu (pv 2) (pv 3) (fun _ _ => rfl)) pa_nil))) pa_nil))))) pss_nil))))))
      (pss_one (ps_ret (pv 5)))))), ?_⟩
    have hv := ht.val
    have l100 := ht.len
    obtain ⟨dx, q, f, k, p, qs, h1, _⟩ := id ht.ex
    have noB : (tf q f k p).lookup ("below" : Str) = none := tf_no _ _ _ _ (by decide +kernel) (by decide +kernel) (by decide +kernel) (by decide +kernel)
    have noF : (tf q f k p).lookup ("folder" : Str) = none := tf_no _ _ _ _ (by decide +kernel) (by decide +kernel) (by decide +kernel) (by decide +kernel)
    refine ⟨_, rfl, t, rs, rfl, ht, fun sd H2 hsd S2 esd => ?_⟩
    refine ⟨(by show 1 ≤ sizeLine; decide), fun l1 hl1 => ?_⟩
    have s3 : Same H2 (upd H2 l1 (.lst [V.str ("top" : Str)])) := Same.new hl1
    have e3 : (upd H2 l1 (.lst [V.str ("top" : Str)])) l1 = some (.lst [V.str ("top" : Str)]) := upd_same
    generalize upd H2 l1 (.lst [V.str ("top" : Str)]) = H3 at s3 e3
    refine ⟨_, rfl, t, dx, _, rfl, (S2.trans s3) _ _ h1, noB, t, ("top" : Str), rs, rfl, ht.same (S2.trans s3), .inl rfl, fun bl H4 hbl s4 e4 => ?_⟩
    rw [below_top hv] at e4
    have ln : ((names rs).map V.str).length = rs.length := by unfold names; rw [List.length_map, List.length_map]
    refine ⟨l1, bl, _, _, rfl, rfl, s4 _ _ e3, e4, Nat.le_of_lt (small1000 (by rw [ln]; show 1 + rs.length ≤ 1000; omega)), fun pl hpl => ?_⟩
    have s5 : Same H4 (upd H4 pl (.lst ([V.str ("top" : Str)] ++ (names rs).map V.str))) := Same.new hpl
    have e5 : (upd H4 pl (.lst ([V.str ("top" : Str)] ++ (names rs).map V.str))) pl = some (.lst ((plc rs).map V.str)) := upd_same
    generalize upd H4 pl (.lst ([V.str ("top" : Str)] ++ (names rs).map V.str)) = H5 at s5 e5
    have S5 : Same H H5 := S2.trans (s3.trans (s4.trans s5))
    have esd5 := (s3.trans (s4.trans s5)) _ _ esd
    have pl101 : (plc rs).length ≤ 101 := by unfold plc names; rw [List.length_cons, List.length_map]; omega
    have pnd := plc_nodup hv
    clear hl1 s3 e3 s4 e4 hpl s5
    refine ⟨pl, rfl, ⟨_, SqL.of e5⟩, fun D hD => ?_⟩
    refine walk2 (walk_list (K := K) (a := pl) (xs := (plc rs).map V.str)) (fun i H' => Same H5 H' ∧ ∃ l, WtC P w H5 H' D l ∧ l.length = 2 * i ∧ ∀ z b, ((atP l z b).isSome ↔ z ∈ (plc rs).take i))
      ⟨Same.new hD, [], ⟨upd_same, (fun y hy => by cases hy), List.nodup_nil, (fun y hy => by cases hy), (fun y hy => by cases hy)⟩, rfl, (fun z b => by show (none : Option V).isSome ↔ _; simp)⟩ (fun i H' _ m => SqL.of (m.1 _ _ e5)) ?_ ?_
    · rintro i x H6x H6 hi ⟨s6, l, hl, hll, hat⟩ ⟨rfl, hx⟩
      rw [List.getElem?_map] at hx
      obtain ⟨z, hz, rfl⟩ := Option.map_eq_some_iff.mp hx
      rw [List.length_map] at hi
      have hzn : z ∉ (plc rs).take i := fun m => by
        obtain ⟨j, hj, ej⟩ := List.mem_iff_getElem.mp m
        rw [List.length_take] at hj
        rw [List.getElem_take] at ej
        have := (List.getElem?_inj (i := j) (j := i) (by omega) pnd).mp (by rw [hz, List.getElem?_eq_getElem (by omega), ej])
        omega
      refine ⟨rfl, tYes_if ⟨U.A, rfl, ⟨_, U.t _⟩, ?_⟩⟩
      refine walk2 (walk_tup (K := K) (a := U.A) (xs := [V.bl false, V.bl true])) (fun j H' => Same H5 H' ∧ ∃ l, WtC P w H5 H' D l ∧ l.length = 2 * i + j ∧ ∀ y b, ((atP l y b).isSome ↔ (y ∈ (plc rs).take i ∨ (y = z ∧ ((b = false ∧ 1 ≤ j) ∨ (b = true ∧ 2 ≤ j))))))
        ⟨s6, l, hl, hll, fun y b => by rw [hat]; simp⟩ (fun j H' _ m => U.t _) ?_ ?_
      · rintro j y H7x H7 hj ⟨s7, l, hl, hll, hat⟩ ⟨rfl, hy⟩
        obtain ⟨b, rfl, hbj⟩ := vals_at hy
        have hn : atP l z b = none := by
          cases e : atP l z b with
          | none => rfl
          | some v =>
            rcases (hat z b).mp (by rw [e]; rfl) with m | ⟨_, m⟩
            · exact absurd m hzn
            · rcases hbj with ⟨rfl, rfl⟩ | ⟨rfl, rfl⟩ <;> simp at m
        refine ⟨rfl, tYes_if ?_⟩
        refine ⟨_, rfl, _, rfl, (by show 2 ≤ sizeLine; decide), fun a ha => ?_⟩
        have s8 : Same H7 (upd H7 a (.tup [V.str z, V.bl b])) := Same.new ha
        have e8 : (upd H7 a (.tup [V.str z, V.bl b])) a = some (.tup [V.str z, V.bl b]) := upd_same
        generalize upd H7 a (.tup [V.str z, V.bl b]) = H8 at s8 e8
        refine ⟨Nat.zero_le _, fun n hn8 => ?_⟩
        have s9 : Same H8 (upd H8 n (.lst [])) := Same.new hn8
        have e9 : (upd H8 n (.lst [])) n = some (.lst []) := upd_same
        generalize upd H8 n (.lst []) = H9 at s9 e9
        have s89 := s8.trans s9
        have hl9 := hl.same s89
        have nD : n ≠ D := fun x => by rw [x, s8 _ _ hl.d] at hn8; cases hn8
        have nl : ∀ y ∈ l, y.v ≠ .ref n := fun y hy x => by
          obtain ⟨c, ec, e1, _⟩ := hl.v y hy
          rw [ec] at x
          rw [V.ref.inj x] at e1
          rw [s8 _ _ e1] at hn8; cases hn8
        have hj2 : j < 2 := hj
        refine ⟨none, l, a, z, b, rfl, hl9.d, hl9.k, s9 _ _ e8, hn, small1000 (by omega), fun c o ec => ?_, _, hl9.snoc hD (s9 _ _ e8) hn e9 nD nl (s7.free (s8.free hn8)), by rw [List.length_append, hll]; rfl, fun y b' => ?_⟩
        · rw [upd_ne (ne_of_none ec hD)]; exact s89 _ _ (s7 _ _ ec)
        · rw [atP_snoc]
          have hh := hat y b'
          by_cases c2 : z = y ∧ b = b'
          · obtain ⟨rfl, rfl⟩ := c2
            rw [hn, if_pos (show (EnP.mk z b a (V.ref n)).z = z ∧ (EnP.mk z b a (V.ref n)).b = b from ⟨rfl, rfl⟩)]
            refine ⟨fun _ => .inr ⟨rfl, ?_⟩, fun _ => rfl⟩
            rcases hbj with ⟨rfl, rfl⟩ | ⟨rfl, rfl⟩
            · exact .inl ⟨rfl, by omega⟩
            · exact .inr ⟨rfl, by omega⟩
          · rw [if_neg (show ¬ ((EnP.mk z b a (V.ref n)).z = y ∧ (EnP.mk z b a (V.ref n)).b = b') from c2), Option.or_none, hh]
            constructor
            · rintro (m | ⟨m, n | n⟩)
              · exact .inl m
              · exact .inr ⟨m, .inl ⟨n.1, by omega⟩⟩
              · exact .inr ⟨m, .inr ⟨n.1, by omega⟩⟩
            · rintro (m | ⟨m, n⟩)
              · exact .inl m
              · refine .inr ⟨m, ?_⟩
                rcases hbj with ⟨rfl, rfl⟩ | ⟨rfl, rfl⟩
                · rcases n with n | n
                  · exact absurd ⟨m.symm, n.1.symm⟩ c2
                  · exact .inr ⟨n.1, by omega⟩
                · rcases n with n | n
                  · exact .inl ⟨n.1, by omega⟩
                  · exact absurd ⟨m.symm, n.1.symm⟩ c2
      · rintro H7 ⟨s7, l, hl, hll, hat⟩
        refine ⟨s7, l, hl, by rw [hll]; rfl, fun y b => ?_⟩
        rw [hat, take_more hz, List.mem_append, List.mem_singleton]
        constructor
        · rintro (m | m)
          · exact .inl m
          · exact .inr m.1
        · rintro (m | m)
          · exact .inl m
          · refine .inr ⟨m, ?_⟩
            cases b
            · exact .inl ⟨rfl, by decide⟩
            · exact .inr ⟨rfl, by decide⟩
    rintro H6 ⟨s6, l, hl, hll, hat⟩
    rw [List.length_map] at hll hat
    simp only [List.take_length] at hat
    have S6 := S5.trans s6
    have esd6 := s6 _ _ esd5
    refine ⟨Nat.zero_le _, fun wl hwl => ?_⟩
    have s7 : Same H6 (upd H6 wl (.lst [])) := Same.new hwl
    have e7 : (upd H6 wl (.lst [])) wl = some (.lst []) := upd_same
    generalize upd H6 wl (.lst []) = H7 at s7 e7
    have S7 := S6.trans s7
    refine ⟨_, rfl, t, dx, _, rfl, S7 _ _ h1, noB, t, ("top" : Str), rs, rfl, ht.same S7, .inl rfl, fun bl2 H8 hbl2 s8 e8 => ?_⟩
    rw [below_top hv] at e8
    refine ⟨bl2, _, rfl, SqL.of e8, fun r1l hr1 => ⟨(by show 1 ≤ sizeLine; decide), fun r2l hr2 => ?_⟩⟩
    have s9 : Same H8 (upd H8 r1l (.lst ((names rs).map V.str).reverse)) := Same.new hr1
    have e9 : (upd H8 r1l (.lst ((names rs).map V.str).reverse)) r1l = some (.lst ((names rs).map V.str).reverse) := upd_same
    generalize upd H8 r1l (.lst ((names rs).map V.str).reverse) = H9 at s9 e9 hr2
    have s10 : Same H9 (upd H9 r2l (.lst [V.str ("top" : Str)])) := Same.new hr2
    have e10 : (upd H9 r2l (.lst [V.str ("top" : Str)])) r2l = some (.lst [V.str ("top" : Str)]) := upd_same
    generalize upd H9 r2l (.lst [V.str ("top" : Str)]) = H10 at s10 e10
    refine ⟨r1l, r2l, _, _, rfl, rfl, s10 _ _ e9, e10, Nat.le_of_lt (small1000 (by rw [List.length_reverse, ln]; show rs.length + 1 ≤ 1000; omega)), fun rl hrl => ?_⟩
    have s11 : Same H10 (upd H10 rl (.lst (((names rs).map V.str).reverse ++ [V.str ("top" : Str)]))) := Same.new hrl
    have e11 : (upd H10 rl (.lst (((names rs).map V.str).reverse ++ [V.str ("top" : Str)]))) rl = some (.lst (((names rs).map V.str).reverse ++ [V.str ("top" : Str)])) := upd_same
    generalize upd H10 rl (.lst (((names rs).map V.str).reverse ++ [V.str ("top" : Str)])) = H11 at s11 e11
    have s711 := s8.trans (s9.trans (s10.trans s11))
    have s611 := s7.trans s711
    have hrl6 : H6 rl = none := (s7.trans (s8.trans (s9.trans s10))).free hrl
    obtain ⟨ad0, wt0⟩ := hl.toI (rl := rl) (wl := wl) (ps := plc rs) (fun z hz b => (hat z b).mpr hz) s611 hrl6 hwl
    have nrw : rl ≠ wl := fun x => by rw [x, (s8.trans (s9.trans s10)) _ _ e7] at hrl; cases hrl
    have nwD : wl ≠ D := fun x => by rw [x, hl.d] at hwl; cases hwl
    have nrD : rl ≠ D := fun x => by rw [x, hl.d] at hrl6; cases hrl6
    have wy0 : WyL H11 wl [] := ⟨[], s711 _ _ e7, .nil⟩
    have S511 : Same H5 H11 := s6.trans s611
    have hwl5 : H5 wl = none := s6.free hwl
    clear e7 s7 e8 s8 hbl2 hr1 s9 e9 hr2 s10 e10 hrl s11 s711 s611 hl hll hat
    refine ⟨rl, rfl, ⟨_, SqL.of e11⟩, ?_⟩
    refine for_list (K := K) (a := rl) (xs := ((names rs).map V.str).reverse ++ [V.str ("top" : Str)]) (fun i σ H' => ∃ v3 v6 v7 v8 : Option V, σ = [some (.ref t), some (.ref ed), some (.ref sd), v3, some (.ref D), some (.ref wl), v6, v7, v8, none] ∧ Same H5 H' ∧ H' rl = some (.lst (((names rs).map V.str).reverse ++ [V.str ("top" : Str)])) ∧
        ((i ≤ rs.length ∧ ∃ ad, WtI P w H5 H' D wl rl (plc (rs.take (rs.length - i))) (waysS rs es (rs.drop (rs.length - i))).2 ad ∧ WyL H' wl (waysS rs es (rs.drop (rs.length - i))).1) ∨ (i = rs.length + 1 ∧ WyL H' wl (waysF rs es))))
      ⟨none, none, none, none, rfl, S511, e11, .inl ⟨Nat.zero_le _, ad0, by rw [Nat.sub_zero, List.drop_length, List.take_length]; exact wt0, by rw [Nat.sub_zero, List.drop_length]; exact wy0⟩⟩ (fun i σ H' _ ⟨_, _, _, _, _, _, m, _⟩ => SqL.of m) ?_ ?_
    · rintro i x σ H12 hx ⟨v3, v6, v7, v8, rfl, s12, erl, hst⟩
      have hil : i < rs.length + 1 := by
        have := (List.getElem?_eq_some_iff.mp hx).1
        rw [List.length_append, List.length_reverse, ln] at this; exact this
      rcases hst with ⟨_, ad, wt, wy⟩ | ⟨e, _⟩
      case inr => omega
      -- which place
      obtain ⟨z, rfl, hzc⟩ : ∃ z : Str, x = .str z ∧ ((z = ("top" : Str) ∧ i = rs.length) ∨ ∃ (m : Nat) (r : Row), z = r.nm ∧ i < rs.length ∧ rs[m]? = some r ∧ rs.length - i = m + 1 ∧ rs.length - (i + 1) = m) := by
        by_cases q : i < rs.length
        · rw [List.getElem?_append_left (by rw [List.length_reverse, ln]; exact q), List.getElem?_reverse (by rw [ln]; exact q), ln] at hx
          obtain ⟨r, rfl, hr'⟩ := nms_at hx
          exact ⟨r.nm, rfl, .inr ⟨_, r, rfl, q, hr', by omega, by omega⟩⟩
        · have e : i = rs.length := by omega
          rw [List.getElem?_append_right (by rw [List.length_reverse, ln]; omega), List.length_reverse, ln, e, Nat.sub_self] at hx
          cases hx
          exact ⟨_, rfl, .inl ⟨rfl, e⟩⟩
      have hpot := ways_pot rs es (rs.drop (rs.length - i)) (rs.take (rs.length - i)) (by rw [List.take_append_drop]; exact hv)
      have hdl : (rs.drop (rs.length - i)).length ≤ 100 := by rw [List.length_drop]; omega
      have hzp : z ∈ plc (rs.take (rs.length - i)) := by
        rcases hzc with ⟨rfl, _⟩ | ⟨m, r, rfl, _, hr', e1, _⟩
        · exact mem_plc.mpr (.inl rfl)
        · rw [e1, take_more hr']
          refine mem_plc.mpr (.inr ?_)
          unfold names
          rw [List.map_append]
          exact List.mem_append_right _ (List.mem_singleton_self _)
      have hzr : z ∈ plc rs := by
        rcases mem_plc.mp hzp with e | e
        · exact mem_plc.mpr (.inl e)
        · obtain ⟨r, hr, e⟩ := List.mem_map.mp e
          exact mem_plc.mpr (.inr (List.mem_map.mpr ⟨r, List.mem_of_mem_take hr, e⟩))
      obtain ⟨S, eS⟩ : ∃ S, S = waysS rs es (rs.drop (rs.length - i)) := ⟨_, rfl⟩
      obtain ⟨ps, eps⟩ : ∃ ps, ps = plc (rs.take (rs.length - i)) := ⟨_, rfl⟩
      rw [← eS] at wt wy hpot
      rw [← eps] at wt hzp hpot
      have hwz := wlen_mem (g := wLen S.2) hzp
      unfold wLen at hwz hpot
      have S12 := S5.trans s12
      have dge : DGet H12 ed (.str z) ((endO es z).map V.bl) := .inl ⟨_, .inr z, .inl (S12 _ _ hd), rfl, by rw [kvE_val]⟩
      -- an end gives as much as is asked
      refine ⟨fun σ' H' => σ' = [some (.ref t), some (.ref ed), some (.ref sd), some (.str z), some (.ref D), some (.ref wl), v6, v7, v8, none] ∧ Same H5 H' ∧ H' rl = some (.lst (((names rs).map V.str).reverse ++ [V.str ("top" : Str)])) ∧ WyL H' wl S.1 ∧ ∃ ad W, WtI P w H5 H' D wl rl ps W ad ∧ (∀ b, W z b = endP rs es S.2 z b) ∧ ∀ y, y ≠ z → ∀ b, W y b = S.2 y b, ?_, ?_⟩
      · refine ⟨_, rfl, _, rfl, ed, _, rfl, dge, _, rfl, ?_⟩
        cases c : endO es z with
        | none =>
          refine iteF' (by rfl) ⟨rfl, s12, erl, wy, ad, S.2, wt, fun b => ?_, fun y _ b => rfl⟩
          unfold endP
          rw [c, if_neg (by simp)]
        | some b =>
          refine iteT' (by rfl) ⟨_, rfl, t, rs, rfl, ht.same S12, fun H13 s13 => ⟨_, rfl, (by show 2 ≤ sizeLine; decide), fun a1 ha1 => ⟨(by show 1 ≤ sizeLine; decide), fun n1 hn1 => ?_⟩⟩⟩
          have s14 : Same H13 (upd H13 a1 (.tup [V.int (endlessI rs), V.str z])) := Same.new ha1
          have e14 : (upd H13 a1 (.tup [V.int (endlessI rs), V.str z])) a1 = some (.tup [V.int (endlessI rs), V.str z]) := upd_same
          generalize upd H13 a1 (.tup [V.int (endlessI rs), V.str z]) = H14 at s14 e14 hn1
          have s15 : Same H14 (upd H14 n1 (.lst [V.ref a1])) := Same.new hn1
          have e15 : (upd H14 n1 (.lst [V.ref a1])) n1 = some (.lst [V.ref a1]) := upd_same
          generalize upd H14 n1 (.lst [V.ref a1]) = H15 at s15 e15
          have s124 := s13.trans s14
          have wt14 := wt.same s124
          have dge5 : DGet H15 ed (.str z) (some (.bl b)) := .inl ⟨_, .inr z, .inl (s15 _ _ (s124 _ _ (S12 _ _ hd))), rfl, by rw [kvE_val, c]; rfl⟩
          refine ⟨_, rfl, _, rfl, _, rfl, _, rfl, ed, _, rfl, dge5, (by show 2 ≤ sizeLine; decide), fun a2 ha2 => ?_⟩
          have s16 : Same H15 (upd H15 a2 (.tup [V.str z, V.bl b])) := Same.new ha2
          refine wt14.set (s15.trans s16) hn1 (s12.free (s124.free hn1)) (fun x => ?_) (fun x => ?_) ⟨[a1], s16 _ _ e15, .cons (b := ((endlessI rs, z) : Part)) (s16 _ _ (s15 _ _ e14)) .nil⟩ hzp upd_same fun H17 k17 wt17 => ?_
          · rw [x, s124 _ _ erl] at hn1; cases hn1
          · obtain ⟨ws, ew, _⟩ := wy
            rw [x, s124 _ _ ew] at hn1; cases hn1
          have s126 := s124.trans (s15.trans s16)
          obtain ⟨lD, hlD⟩ := (wt.same s126).dW
          have tp : TupS (upd H15 a2 (.tup [V.str z, V.bl b])) H17 := fun c xs e => k17 c _ (fun x => by rw [x, hlD] at e; cases e) e
          obtain ⟨ws, ew, pw⟩ := wy
          refine ⟨rfl, fun c o e => k17 _ _ (ne_of_none e hD) (s126 _ _ (s12 _ _ e)), k17 _ _ nrD (s126 _ _ erl), ⟨ws, k17 _ _ nwD (s126 _ _ ew), (pw.t (same_t s126)).t tp⟩, _, _, wt17, fun c' => ?_, fun y hy c' => if_neg fun x => hy x.1⟩
          show (if z = z ∧ c' = b then [(endlessI rs, z)] else S.2 z c') = endP rs es S.2 z c'
          unfold endP
          rw [c]
          by_cases q : c' = b
          · rw [if_pos ⟨rfl, q⟩, if_pos (by rw [q])]
          · rw [if_neg fun x => q x.2, if_neg fun x => q (Option.some.inj x).symm]
      rintro σ' H13 ⟨rfl, s13, erl13, wy13, ad, W, wt13, hW, hWo⟩
      clear wt wy dge S12 s12 erl
      have hel := end_len rs es S.2 z
      -- put together
      refine ⟨_, rfl, _, rfl, (by show 2 ≤ sizeLine; decide), fun a1 ha1 => ?_⟩
      have s14 : Same H13 (upd H13 a1 (.tup [V.str z, V.bl true])) := Same.new ha1
      refine (wt13.tab.same s14).get hzp upd_same ?_
      generalize upd H13 a1 (.tup [V.str z, V.bl true]) = H14 at s14
      refine ⟨_, rfl, _, rfl, (by show 2 ≤ sizeLine; decide), fun a2 ha2 => ?_⟩
      have s15 : Same H14 (upd H14 a2 (.tup [V.str z, V.bl false])) := Same.new ha2
      refine (wt13.tab.same (s14.trans s15)).get hzp upd_same ?_
      have s135 := s14.trans s15
      generalize upd H14 a2 (.tup [V.str z, V.bl false]) = H15 at s135
      have wt15 := wt13.same s135
      refine ⟨ad z true, ad z false, endP rs es S.2 z true, endP rs es S.2 z false, rfl, by rw [← hW]; exact wt15.lst z hzp true, by rw [← hW]; exact wt15.lst z hzp false, by omega, fun Tq Wf A_ B_ H16 s16 eT wW pA pB oA oB => ?_⟩
      refine ⟨Tq, _, rfl, sqT eT, rfl, _, _, rfl, _, _, rfl, _, _, rfl, rfl, ?_⟩
      have wt16 := wt15.same s16
      have wy16 := wy13.same (s135.trans s16)
      have s136 := s13.trans (s135.trans s16)
      have erl16 := (s135.trans s16) _ _ erl13
      obtain ⟨ws, ew, pw⟩ := wy16
      obtain ⟨fs, ef, pf⟩ := wW
      have hml := meet_len rs es S.2 z
      have eM : pairL (endP rs es S.2 z true) (endP rs es S.2 z false) = meetP rs es S.2 z := rfl
      rw [eM] at pf pA pB
      have lws : ws.length = S.1.length := pw.length
      have lfs : fs.length = (meetP rs es S.2 z).1.length := pf.length
      refine ⟨_, rfl, .inl ⟨rfl, _, SqL.of ew⟩, _, rfl, wl, Wf, _, _, rfl, rfl, ew, ef, Nat.le_of_lt (small1000 (by rw [List.length_map, List.length_map]; omega)), ?_⟩
      have k17 : ∀ c o, c ≠ wl → H16 c = some o → (upd H16 wl (.lst (ws.map V.ref ++ fs.map V.ref))) c = some o := fun c o n e => by rw [upd_ne n]; exact e
      have t17 : TupS H16 (upd H16 wl (.lst (ws.map V.ref ++ fs.map V.ref))) := TupS.upd ew fun xs e => nomatch e
      have wy17 : WyL (upd H16 wl (.lst (ws.map V.ref ++ fs.map V.ref))) wl (S.1 ++ (meetP rs es S.2 z).1) := ⟨ws ++ fs, by rw [upd_same, List.map_append], (pw.t t17 : WyA _ ws S.1).app (pf.t t17)⟩
      have wt17 := wt16.oth k17 ew nwD.symm
      have erl17 := k17 _ _ nrw erl16
      have s17 : Same H5 (upd H16 wl (.lst (ws.map V.ref ++ fs.map V.ref))) := fun c o e => k17 _ _ (ne_of_none e hwl5) (s136 _ _ e)
      have nA : A_ ≠ wl := fun x => by
        rcases oA with e | e
        · exact (wt13.new z hzp true).2.2 (e.symm.trans x)
        · obtain ⟨_, ew13, _⟩ := wy13
          rw [x, s135 _ _ ew13] at e; cases e
      have nB : B_ ≠ wl := fun x => by
        rcases oB with e | e
        · exact (wt13.new z hzp false).2.2 (e.symm.trans x)
        · obtain ⟨_, ew13, _⟩ := wy13
          rw [x, s135 _ _ ew13] at e; cases e
      have pA17 : PtL (upd H16 wl (.lst (ws.map V.ref ++ fs.map V.ref))) A_ (meetP rs es S.2 z).2.1 := let ⟨as, e1, e2⟩ := pA; ⟨as, k17 _ _ nA e1, e2.t t17⟩
      have pB17 : PtL (upd H16 wl (.lst (ws.map V.ref ++ fs.map V.ref))) B_ (meetP rs es S.2 z).2.2 := let ⟨as, e1, e2⟩ := pB; ⟨as, k17 _ _ nB e1, e2.t t17⟩
      clear k17 t17 wt16 s16 eT pA pB ew pw ef pf erl16 s136 ha1 ha2 s14 s15
      generalize upd H16 wl (.lst (ws.map V.ref ++ fs.map V.ref)) = H17 at wy17 wt17 erl17 s17 pA17 pB17
      refine ⟨_, rfl, rfl, _, rfl, ?_⟩
      rcases hzc with ⟨rfl, ei⟩ | ⟨m, r, rfl, _, hr', e1, e2⟩
      · refine iteF' (by simp) ⟨_, _, _, _, rfl, s17, erl17, .inr ⟨by omega, ?_⟩⟩
        rw [ei, Nat.sub_self, List.drop_zero] at eS
        rw [eS] at wy17
        exact wy17
      have hrm := List.mem_of_getElem? hr'
      have hm : m < rs.length := (List.getElem?_eq_some_iff.mp hr').1
      have hfit := hv m r hr'
      have nt : r.nm ≠ ("top" : Str) := hfit.top
      have eps2 : ps = plc (rs.take m) ++ [r.nm] := by rw [eps, e1, take_more hr', plc_snoc]
      have fop : r.fo ∈ ps := by rw [eps2]; exact List.mem_append_left _ (fo_pre hfit)
      have nbf : r.nm ≠ r.fo := fun x => nm_pre hfit (by rw [x]; exact fo_pre hfit)
      have edrop : rs.drop m = r :: rs.drop (m + 1) := by
        rw [List.drop_eq_getElem_cons hm]
        rw [List.getElem?_eq_getElem hm] at hr'
        rw [Option.some.inj hr']
      have eS2 : waysS rs es (rs.drop m) = stepW rs es r S := by rw [edrop, eS, e1]; rfl
      have S17 := S5.trans s17
      have hwf := wlen_mem (g := wLen S.2) fop
      unfold wLen at hwf
      refine iteT' (by rw [decide_eq_false (fun e => nt (V.str.inj e))]; rfl) ?_
      -- what the step bears, from on
      have dgs : ∀ {Hx : Hp}, Same H5 Hx → DGet Hx sd (.str r.nm) (some (.int (stepR rs r))) := fun {Hx} s => .inl ⟨_, .inr r.nm, .inl (s _ _ esd5), rfl, (kvF_val (g := fun r => .int (stepR rs r)) hv hrm).symm⟩
      refine ⟨_, rfl, _, rfl, t, dx, _, rfl, S17 _ _ h1, noF, _, rfl, t, r.nm, rs, r, rfl, ht.same S17, rowOf_at hv hr', (by show 2 ≤ sizeLine; decide), fun a3 ha3 => ?_⟩
      have s18 : Same H17 (upd H17 a3 (.tup [V.str r.fo, V.bl true])) := Same.new ha3
      have wt18 := wt17.same s18
      refine wt18.tab.get fop upd_same ?_
      generalize upd H17 a3 (.tup [V.str r.fo, V.bl true]) = H18 at s18 wt18
      obtain ⟨cs, ec, pc⟩ := wt18.lst r.fo fop true
      refine ⟨.inl ⟨rfl, _, SqL.of ec⟩, ?_⟩
      refine ⟨_, rfl, _, rfl, _, rfl, sd, _, rfl, dgs (s17.trans s18), A_, stepR rs r, _, rfl, pA17.same s18, by omega, fun b1 H19 hb1 s19 pb1 => ?_⟩
      obtain ⟨bs, eb, pb⟩ := pb1
      have ll1 := let_len (meetP rs es S.2 r.nm).2.1 (stepR rs r)
      have ll2 := let_len (meetP rs es S.2 r.nm).2.2 (stepR rs r)
      have lcs : cs.length = (W r.fo true).length := pc.length
      have lbs : bs.length = (letL (meetP rs es S.2 r.nm).2.1 (stepR rs r)).length := pb.length
      have oW : ∀ b, W r.fo b = S.2 r.fo b := hWo r.fo nbf.symm
      rw [oW] at lcs
      have wt19 := wt18.same s19
      have ec19 := s19 _ _ ec
      refine ⟨ad r.fo true, b1, _, _, rfl, rfl, ec19, eb, Nat.le_of_lt (small1000 (by rw [List.length_map, List.length_map]; omega)), ?_⟩
      have wt20 := wt19.ext fop ec19 pb
      have k20 : ∀ c o, c ≠ ad r.fo true → H19 c = some o → (upd H19 (ad r.fo true) (.lst (cs.map V.ref ++ bs.map V.ref))) c = some o := fun c o n e => by rw [upd_ne n]; exact e
      have t20 : TupS H19 (upd H19 (ad r.fo true) (.lst (cs.map V.ref ++ bs.map V.ref))) := TupS.upd ec19 fun xs e => nomatch e
      have new1 := wt13.new r.fo fop true
      have new2 := wt13.new r.fo fop false
      have s189 := s18.trans s19
      have S20 : Same H5 (upd H19 (ad r.fo true) (.lst (cs.map V.ref ++ bs.map V.ref))) := fun c o e => k20 _ _ (ne_of_none e new1.1) (s189 _ _ (s17 _ _ e))
      have erl20 := k20 _ _ new1.2.1.symm (s189 _ _ erl17)
      have wy20 : WyL (upd H19 (ad r.fo true) (.lst (cs.map V.ref ++ bs.map V.ref))) wl (S.1 ++ (meetP rs es S.2 r.nm).1) := let ⟨as, e1, e2⟩ := wy17.same s189; ⟨as, k20 _ _ new1.2.2.symm e1, e2.t t20⟩
      have nBa : B_ ≠ ad r.fo true := fun x => by
        rcases oB with e | e
        · exact nbf (wt13.inj r.nm hzp r.fo fop false true (e.symm.trans x)).1
        · obtain ⟨as, e3, _⟩ := wt15.lst r.fo fop true
          rw [x, e3] at e; cases e
      have pB20 : PtL (upd H19 (ad r.fo true) (.lst (cs.map V.ref ++ bs.map V.ref))) B_ (meetP rs es S.2 r.nm).2.2 := let ⟨as, e1, e2⟩ := pB17.same s189; ⟨as, k20 _ _ nBa e1, e2.t t20⟩
      clear k20 t20 s189 wt19 wt18 s19 s18 ec ec19 pc eb pb hb1 ha3 pB17 wy17 erl17 wt17 pA17
      generalize upd H19 (ad r.fo true) (.lst (cs.map V.ref ++ bs.map V.ref)) = H20 at wt20 S20 erl20 wy20 pB20
      -- and from off
      have S20H := S5.trans S20
      refine ⟨_, rfl, _, rfl, t, dx, _, rfl, S20H _ _ h1, noF, _, rfl, t, r.nm, rs, r, rfl, ht.same S20H, rowOf_at hv hr', (by show 2 ≤ sizeLine; decide), fun a4 ha4 => ?_⟩
      have s21 : Same H20 (upd H20 a4 (.tup [V.str r.fo, V.bl false])) := Same.new ha4
      have wt21 := wt20.same s21
      refine wt21.tab.get fop upd_same ?_
      generalize upd H20 a4 (.tup [V.str r.fo, V.bl false]) = H21 at s21 wt21
      obtain ⟨cs2, ec2, pc2⟩ := wt21.lst r.fo fop false
      rw [if_neg (show ¬ (r.fo = r.fo ∧ false = true) from fun x => nomatch x.2)] at pc2
      refine ⟨.inl ⟨rfl, _, SqL.of ec2⟩, ?_⟩
      refine ⟨_, rfl, _, rfl, _, rfl, sd, _, rfl, dgs (S20.trans s21), B_, stepR rs r, _, rfl, pB20.same s21, by omega, fun b2 H22 hb2 s22 pb2 => ?_⟩
      obtain ⟨bs2, eb2, pb2'⟩ := pb2
      have lcs2 : cs2.length = (W r.fo false).length := pc2.length
      have lbs2 : bs2.length = (letL (meetP rs es S.2 r.nm).2.2 (stepR rs r)).length := pb2'.length
      rw [oW] at lcs2
      have wt22 := wt21.same s22
      have ec22 := s22 _ _ ec2
      refine ⟨ad r.fo false, b2, _, _, rfl, rfl, ec22, eb2, Nat.le_of_lt (small1000 (by rw [List.length_map, List.length_map]; omega)), ?_⟩
      have wt23 := wt22.ext fop ec22 pb2'
      have k23 : ∀ c o, c ≠ ad r.fo false → H22 c = some o → (upd H22 (ad r.fo false) (.lst (cs2.map V.ref ++ bs2.map V.ref))) c = some o := fun c o n e => by rw [upd_ne n]; exact e
      have t23 : TupS H22 (upd H22 (ad r.fo false) (.lst (cs2.map V.ref ++ bs2.map V.ref))) := TupS.upd ec22 fun xs e => nomatch e
      have s212 := s21.trans s22
      refine ⟨_, _, _, _, rfl, fun c o e => k23 _ _ (ne_of_none e new2.1) (s212 _ _ (S20 _ _ e)), k23 _ _ new2.2.1.symm (s212 _ _ erl20), .inl ⟨by omega, ad, ?_, ?_⟩⟩
      · rw [e2, eS2]
        refine (wt23.sub (qs := plc (rs.take m)) fun y hy => by rw [eps2]; exact List.mem_append_left _ hy).imp fun y hy c => ?_
        have ny : y ≠ r.nm := fun x => nm_pre hfit (by rw [← x]; exact hy)
        show (if y = r.fo ∧ c = false then (if y = r.fo ∧ c = true then W y c ++ letL (meetP rs es S.2 r.nm).2.1 (stepR rs r) else W y c) ++ letL (meetP rs es S.2 r.nm).2.2 (stepR rs r) else if y = r.fo ∧ c = true then W y c ++ letL (meetP rs es S.2 r.nm).2.1 (stepR rs r) else W y c) = if y = r.fo then S.2 y c ++ letL (sideP (meetP rs es S.2 r.nm) c) (stepR rs r) else S.2 y c
        rw [hWo y ny]
        by_cases q : y = r.fo
        · cases c <;> simp [q, sideP]
        · simp [q]
      · rw [e2, eS2]
        obtain ⟨as, e3, e4⟩ := wy20.same s212
        exact ⟨as, k23 _ _ new2.2.2.symm e3, e4.t t23⟩
    rintro σ H12 ⟨v3, v6, v7, v8, rfl, s12, erl, hst⟩
    rw [List.length_append, List.length_reverse, ln] at hst
    rcases hst with ⟨hh, _⟩ | ⟨_, wy⟩
    · exact absurd hh (by show ¬ rs.length + 1 ≤ rs.length; omega)
    exact ⟨_, rfl, hq wl H12 (S5.free hwl5) (S5.trans s12) wy⟩
end
end Ts

set_option maxRecDepth 100000
set_option maxHeartbeats 8000000
namespace Ts
open PySem L2
structure TxH (K : PySem.W.Frag) (mg : Str → Option Value) (CH : Addr) : Prop where
  cl : Cls K CH
  nc : NoAttr K CH "cost"
  nw : NoAttr K CH "wide"
  nn : NoAttr K CH "narrow"
  ny : NoAttr K CH "ways"
  g : mg "Cheapest" = some (.ref CH)
def chf (c w n y : V) : List (Str × V) := putF "ways" y (putF "narrow" n (putF "wide" w (putF "cost" c [])))
theorem chf_c (c w n y : V) : (chf c w n y).lookup ("cost" : Str) = some c := by unfold chf; rfl
theorem chf_w (c w n y : V) : (chf c w n y).lookup ("wide" : Str) = some w := by unfold chf; rfl
theorem chf_n (c w n y : V) : (chf c w n y).lookup ("narrow" : Str) = some n := by unfold chf; rfl
theorem chf_y (c w n y : V) : (chf c w n y).lookup ("ways" : Str) = some y := by unfold chf; rfl
def spChInit (CH : Addr) : Sp := fun vs H Q _ => ∃ (m dx : Addr) (c w n y : V), vs = [.ref m, c, w, n, y] ∧ H m = some (.ins CH dx []) ∧ ∀ H', SB m H H' → H' m = some (.ins CH dx (chf c w n y)) → Q .non H'
/-- what is cheapest, as it stands -/
structure CheAt (C CM CH : Addr) (H : Hp) (c t : Addr) (rs : List Row) (ee : Wsh) : Prop where
  ex : ∃ dx mw mn wl : Addr, H c = some (.ins CH dx (chf (.int (cheapI rs ee)) (.ref mw) (.ref mn) (.ref wl))) ∧ MV C CM H mw t rs (favV rs (tabF rs ee) true) ∧ MV C CM H mn t rs (favV rs (tabF rs ee) false) ∧ WyL H wl (waysF rs ee)
theorem CheAt.same {C CM CH : Addr} {H H' : Hp} {c t : Addr} {rs : List Row} {ee : Wsh} (h : CheAt C CM CH H c t rs ee) (s : Same H H') : CheAt C CM CH H' c t rs ee := let ⟨dx, mw, mn, wl, h1, h2, h3, h4⟩ := h.ex; ⟨⟨dx, mw, mn, wl, s _ _ h1, h2.same s, h3.same s, h4.same s⟩⟩
def spCheapest (C CM CB CH : Addr) : Sp := fun vs H Q E => ∃ (t wd : Addr) (rs : List Row) (es : Wsh) (d : Option Bool), vs = [.ref t, .ref wd, dfV d] ∧ TreeAt C H t rs ∧ H wd = some (.dK (kvE es)) ∧ EndsOk rs es ∧ es.length ≤ 150 ∧
  (OkW rs es d → ∀ c H', Same H H' → CheAt C CM CH H' c t rs (topE d es) → Q (.ref c) H') ∧ ∀ x y, BarW rs es d x y → ∀ e H', H e = none → Same H H' → H' e = some (.xd [("other", .str y), ("one", .str x)]) → E (.ref CB) (some e) H'
theorem ok_or_bar (rs : List Row) (es : Wsh) (d : Option Bool) : OkW rs es d ∨ ∃ x y, BarW rs es d x y := by
  by_cases h1 : ∀ b, endO es "top" = some b → d ≠ some (!b)
  · by_cases h2 : OpenE rs (topE d es)
    · exact .inl ⟨h1, h2⟩
    · refine .inr ?_
      unfold OpenE at h2
      simp only [Classical.not_forall] at h2
      obtain ⟨e, he, e', he', hl, hn⟩ := h2
      cases c : e.2
      · have c' : e'.2 = true := by cases q : e'.2 <;> simp_all
        exact ⟨e'.1, e.1, .inr ⟨h1, by rw [← c']; exact he', by rw [← c]; exact he, hl.symm⟩⟩
      · have c' : e'.2 = false := by cases q : e'.2 <;> simp_all
        exact ⟨e.1, e'.1, .inr ⟨h1, by rw [← c]; exact he, by rw [← c']; exact he', hl⟩⟩
  · simp only [Classical.not_forall, Classical.not_not] at h1
    obtain ⟨b, hb, hd⟩ := h1
    exact .inr ⟨_, _, .inl ⟨rfl, rfl, b, hb, hd⟩⟩
section
variable {P : Program} {w : World} {K : PySem.W.Frag} {mg : Str → Option Value} {base : Heap} {C CM CB CH : Addr}
abbrev nCI : List Str := ["self", "cost", "wide", "narrow", "ways"]
theorem sc_ChInit : FnScope nCI nCI (defScope s_Cheapest_init) := ⟨rfl, rfl, rfl, by decide +kernel, rfl, by decide +kernel, by decide +kernel⟩
theorem ok_Ch_init {f : Addr} {fd : FuncData} (F : Fun K "__init__" "Cheapest.__init__" s_Cheapest_init f fd) (X : TxH K mg CH) : FnOk P w K mg base CX0 1 f fd nCI (spChInit CH) := by
  refine F.ok sc_ChInit (fun vs H Q E h => ?_) (fun cdv A outer s H vs Q E hr h => ?_)
  · obtain ⟨m, dx, c, w_, n, y, rfl, _⟩ := h
    rfl
  · obtain ⟨m, dx, c, w_, n, y, rfl, hm, hq⟩ := h
    refine ⟨_, pss_cons (ps_fld (pv 0) (pv 1) rfl) (pss_cons (ps_fld (pv 0) (pv 2) rfl) (pss_cons (ps_fld (pv 0) (pv 3) rfl) (pss_one (ps_fld (pv 0) (pv 4) rfl)))), ?_⟩
    refine ⟨_, rfl, _, rfl, m, CH, dx, _, rfl, hm, X.cl, X.nc, (by show 0 < 1000; decide), ?_⟩
    refine ⟨_, rfl, _, rfl, m, CH, dx, _, rfl, upd_same, X.cl, X.nw, (Nat.lt_of_le_of_lt (putF_len _ _ _) (by decide)), ?_⟩
    refine ⟨_, rfl, _, rfl, m, CH, dx, _, rfl, upd_same, X.cl, X.nn, (Nat.lt_of_le_of_lt (putF_len _ _ _) (Nat.lt_of_le_of_lt (Nat.succ_le_succ (putF_len _ _ _)) (by decide))), ?_⟩
    refine ⟨_, rfl, _, rfl, m, CH, dx, _, rfl, upd_same, X.cl, X.ny, (Nat.lt_of_le_of_lt (putF_len _ _ _) (Nat.lt_of_le_of_lt (Nat.succ_le_succ (putF_len _ _ _)) (Nat.lt_of_le_of_lt (Nat.succ_le_succ (Nat.succ_le_succ (putF_len _ _ _))) (by decide)))), ?_⟩
    exact hq _ (fun b o n e => by rw [upd_ne n, upd_ne n, upd_ne n, upd_ne n]; exact e) upd_same
abbrev nCp : List Str := ["tree", "wish", "default", "ends", "prices", "numbers", "cost"]
theorem sc_cheapest : FnScope nCp ["tree", "wish", "default"] (defScope s_cheapest) := ⟨rfl, rfl, rfl, by decide +kernel, rfl, by decide +kernel, by decide +kernel⟩
theorem ok_cheapest {f fH : Addr} {fd fdH : FuncData} {dvs : List V} (F : FunD K "cheapest" "cheapest" (defArgs s_cheapest) (defBody s_cheapest) (defScope s_cheapest) dvs [] f fd) (TC : TxC K mg) (hM : mg "min" = none)
    (Do : DefAt K mg "open_ends" s_open_ends ["tree", "wish", "default"]) (Go : FnOk P w K mg base (L2.CX P w) 7 Do.f Do.fd ["tree", "wish", "default"] (spOpenEnds C CB))
    (Dc : DefAt K mg "choices" s_choices ["tree", "ends"]) (Gc : FnOk P w K mg base CX0 8 Dc.f Dc.fd ["tree", "ends"] (spChoices P w C))
    (Df : DefAt K mg "favoured" s_favoured ["tree", "prices", "favour"]) (Gf : FnOk P w K mg base CX0 10 Df.f Df.fd ["tree", "prices", "favour"] (spFav P w C CM))
    (Dw : DefAt K mg "ways_between" s_ways_between ["tree", "ends"]) (Gw : FnOk P w K mg base CX0 8 Dw.f Dw.fd ["tree", "ends"] (spWays C))
    (X : TxH K mg CH) (MH : Mk K CH fH) (bH : Binds K fdH nCI []) (GH : FnOk P w K mg base CX0 1 fH fdH nCI (spChInit CH)) : FnOk P w K mg base (L2.CX P w) 11 f fd ["tree", "wish", "default"] (spCheapest C CM CB CH) := by
  obtain ⟨t1, gT⟩ := TC.top
  refine F.ok sc_cheapest (fun vs H Q E h => ?_) (fun cdv A outer s H vs Q E hr h => ?_)
  · obtain ⟨t, wd, rs, es, d, rfl, _⟩ := h
    rfl
  · obtain ⟨t, wd, rs, es, d, rfl, ht, hd, hok, hl, hq, hE⟩ := h
    have hu := hu_of hr
    have r1 : Room 2 _ := hr.mono (by decide)
    have r7 : Room 7 _ := hr.mono (by decide)
    have r8 : Room 8 _ := hr.mono (by decide)
    have hv := ht.val
    have topm : ("top" : Str) ∈ plc rs := mem_plc.mpr (.inl rfl)
    refine ⟨_, pss_cons (ps_set (i := 3) sc_cheapest.nd rfl (.inl rfl) (pe_call Go r7 rfl Do.g Do.F.kp Do.b .nil (passes_call (takes_of rfl rfl rfl rfl) (fun _ _ _ _ h => h)) (pa_cons (pv 0) (pa_cons (pv 1) (pa_cons (pv 2) pa_nil)))))
      (pss_cons (ps_asg (pe_call Gc r8 rfl Dc.g Dc.F.kp Dc.b .nil pass0 (pa_cons (pv 0) (pa_cons (pv 3) pa_nil))) (pg_tup rfl (pgs_cons (pg_name (i := 4) sc_cheapest.nd rfl (.inl rfl)) (pgs_cons (pg_name (i := 5) sc_cheapest.nd rfl (.inl rfl)) pgs_nil))))
      (pss_cons (ps_set (i := 6) sc_cheapest.nd rfl (.inl rfl) (pe_callB (call_min2 rfl) (by rfl) hM (by decide +kernel) (pa_cons (pe_getP hu (pv 4) (pe_tup (pa_cons (pe_glob (by rfl) gT (v := .str ("top" : Str)) ⟨_, rfl⟩) (pa_cons pe_bl pa_nil))) (fun _ _ => rfl)) (pa_cons (pe_getP hu (pv 4) (pe_tup (pa_cons (pe_glob (by rfl) gT (v := .str ("top" : Str)) ⟨_, rfl⟩) (pa_cons pe_bl pa_nil))) (fun _ _ => rfl)) pa_nil))))
      (pss_one (ps_ret (pe_make MH GH r1 rfl X.g bH .nil pass0 (pa_cons (pv 6) (pa_cons (pe_call Gf hr rfl Df.g Df.F.kp Df.b .nil pass0 (pa_cons (pv 0) (pa_cons (pv 4) (pa_cons pe_bl pa_nil)))) (pa_cons (pe_call Gf hr rfl Df.g Df.F.kp Df.b .nil pass0 (pa_cons (pv 0) (pa_cons (pv 4) (pa_cons pe_bl pa_nil)))) (pa_cons (pe_call Gw r8 rfl Dw.g Dw.F.kp Dw.b .nil pass0 (pa_cons (pv 0) (pa_cons (pv 3) pa_nil))) pa_nil))))))))), ?_⟩
    refine ⟨_, rfl, _, rfl, _, rfl, t, wd, rs, es, d, rfl, ht, hd, hok, hl, fun ho D H1 hD s1 e1 => ?_, fun x y hxy e H1 he s1 e1 => hE x y hxy e H1 he s1 e1⟩
    have hok2 := topE_ok hok hl d
    have ht1 := ht.same s1
    refine ⟨_, rfl, _, rfl, t, D, rs, topE d es, rfl, ht1, e1, hok2, fun Tq A_ B_ H2 s2 eT tA tB => ?_⟩
    refine ⟨Tq, _, rfl, sqT eT, rfl, _, _, rfl, _, _, rfl, rfl, ?_⟩
    refine ⟨_, rfl, (by show 2 ≤ sizeLine; decide), fun a1 ha1 => ?_⟩
    have s3 : Same H2 (upd H2 a1 (.tup [V.str ("top" : Str), V.bl false])) := Same.new ha1
    refine (tA.same s3).get topm upd_same ?_
    generalize upd H2 a1 (.tup [V.str ("top" : Str), V.bl false]) = H3 at s3
    refine ⟨_, rfl, (by show 2 ≤ sizeLine; decide), fun a2 ha2 => ?_⟩
    have s4 : Same H3 (upd H3 a2 (.tup [V.str ("top" : Str), V.bl true])) := Same.new ha2
    refine (tA.same (s3.trans s4)).get topm upd_same ?_
    have s24 := s3.trans s4
    generalize upd H3 a2 (.tup [V.str ("top" : Str), V.bl true]) = H4 at s24
    refine ⟨_, _, rfl, ?_⟩
    rw [min_if]
    have S4 := s1.trans (s2.trans s24)
    obtain ⟨g1, g2, g3⟩ := fav_good hv hok2 ho.2 true
    obtain ⟨g4, g5, g6⟩ := fav_good hv hok2 ho.2 false
    refine ⟨_, rfl, _, rfl, _, rfl, t, A_, rs, _, true, rfl, ht.same S4, tA.same s24, g1, fun mw H5 s5 hmw => ?_⟩
    refine ⟨_, rfl, _, rfl, t, A_, rs, _, false, rfl, ht.same (S4.trans s5), (tA.same s24).same s5, g4, fun mn H6 s6 hmn => ?_⟩
    refine ⟨_, rfl, _, rfl, t, D, rs, topE d es, rfl, ht.same (S4.trans (s5.trans s6)), (s2.trans (s24.trans (s5.trans s6))) _ _ e1, hok2, fun wl H7 hwl s7 hwy => ?_⟩
    refine fun m dm nm nd _ => ⟨m, dm, _, _, _, _, rfl, upd_same, fun H8 sb8 hm => ⟨rfl, ?_⟩⟩
    have s78 := mk_same nm nd sb8
    exact hq ho m H8 (S4.trans (s5.trans (s6.trans (s7.trans s78)))) ⟨⟨dm, mw, mn, wl, hm, hmw.same (s6.trans (s7.trans s78)), hmn.same (s7.trans s78), hwy.same s78⟩⟩
end
end Ts

set_option maxRecDepth 100000
set_option maxHeartbeats 4000000
namespace Ts
open PySem L2
/-! ### what the cheapest choices share -/
theorem phi_gap {rs : List Row} {es : Wsh} {v : Str → Bool} : ∀ (suf pre : List Row), Valid (pre ++ suf) → ∀ pre' r suf', pre ++ suf = pre' ++ r :: suf' → pre.length ≤ pre'.length → phi rs es v pre suf + gapI rs (tabT rs es suf') v r ≤ phi rs es v (pre ++ suf) []
  | [], pre, _, pre', r, suf', e, hl => by
    have := congrArg List.length e
    simp only [List.append_nil, List.length_append, List.length_cons] at this
    omega
  | q :: suf, pre, h, pre', r, suf', e, hl => by
    have h1 := phi_step (rs := rs) (es := es) (v := v) h
    have h' : Valid ((pre ++ [q]) ++ suf) := by rw [List.append_assoc]; exact h
    have h3 := gap_pos (rs := rs) (f := tabT rs es suf) (v := v) (r := q)
    by_cases hq : pre.length = pre'.length
    · obtain ⟨e1, e2⟩ := List.append_inj e hq
      cases e2
      have h2 := phi_le (rs := rs) (es := es) (v := v) suf (pre ++ [q]) h'
      rw [List.append_assoc] at h2
      have h4 : phi rs es v (pre ++ [q]) suf ≤ phi rs es v (pre ++ q :: suf) [] := h2
      omega
    · have h2 := phi_gap (rs := rs) (es := es) (v := v) suf (pre ++ [q]) h' pre' r suf' (by rw [List.append_assoc]; exact e) (by rw [List.length_append]; show _ + 1 ≤ _; omega)
      rw [List.append_assoc] at h2
      have h4 : phi rs es v (pre ++ [q]) suf + gapI rs (tabT rs es suf') v r ≤ phi rs es v (pre ++ q :: suf) [] := h2
      omega
/-- the cheapest choices are tight at each box -/
theorem opt_gap {rs : List Row} (hv : Valid rs) {es : Wsh} (nd : (es.map (·.1)).Nodup) {v : Str → Bool} (h1 : NoLk rs v) (h2 : Keeps es v) (hc : priceV rs v = cheapI rs es) {r : Row} (hr : r ∈ rs) : gapI rs (tabF rs es) v r = 0 := by
  obtain ⟨pre, suf, e⟩ := List.append_of_mem hr
  have h := phi_gap (rs := rs) (es := es) (v := v) rs [] hv pre r suf e (Nat.zero_le _)
  rw [phi_nil] at h
  have h' : tabF rs es "top" (v "top") + gapI rs (tabT rs es suf) v r ≤ fullW rs es v := h
  rw [full_nice hv nd h1 h2, hc] at h'
  have g0 := gap_pos (rs := rs) (f := tabT rs es suf) (v := v) (r := r)
  have t : cheapI rs es ≤ tabF rs es "top" (v "top") := by
    unfold cheapI
    cases v "top" <;> omega
  have g : gapI rs (tabT rs es suf) v r = 0 := by omega
  rw [← g]
  unfold gapI
  rw [tab_fix hv es e, tab_fix hv es e, tab_fix hv es e]
theorem opt_top {rs : List Row} (hv : Valid rs) {es : Wsh} (nd : (es.map (·.1)).Nodup) {v : Str → Bool} (h1 : NoLk rs v) (h2 : Keeps es v) (hc : priceV rs v = cheapI rs es) : tabF rs es "top" (v "top") = cheapI rs es := by
  have h := tab_le hv es v
  rw [full_nice hv nd h1 h2, hc] at h
  have t : cheapI rs es ≤ tabF rs es "top" (v "top") := by
    unfold cheapI
    cases v "top" <;> omega
  omega
theorem step_pos {rs : List Row} (hv : Valid rs) {r : Row} (hr : r ∈ rs) : 0 ≤ stepR rs r := by
  have h := hv.prI hr
  have e := endless_pos hv
  unfold stepR
  unfold Ts.prI at h
  cases c : r.pr with
  | none => show 0 ≤ endlessI rs; omega
  | some p => rw [c] at h; exact h
/-- a value that one of the cheapest has, the favoured has -/
theorem fav_opt {rs : List Row} (hv : Valid rs) {es : Wsh} (nd : (es.map (·.1)).Nodup) {v : Str → Bool} (h1 : NoLk rs v) (h2 : Keeps es v) (hc : priceV rs v = cheapI rs es) (fav : Bool) : ∀ z ∈ plc rs, v z = fav → favV rs (tabF rs es) fav z = fav := by
  have top : v "top" = fav → favV rs (tabF rs es) fav "top" = fav := fun e => by
    have t := opt_top hv nd h1 h2 hc
    rw [favV_top hv, if_pos]
    rw [e] at t
    rw [t]
    unfold cheapI
    cases fav <;> simp only [Bool.not_true, Bool.not_false] <;> omega
  have key : ∀ (n : Nat), n ≤ rs.length → ∀ r ∈ rs.take n, v r.nm = fav → favV rs (tabF rs es) fav r.nm = fav := by
    intro n
    induction n with
    | zero => exact fun _ r hr => by cases hr
    | succ n ih =>
      intro hn r hr e
      have hrn : rs[n]? = some rs[n] := List.getElem?_eq_getElem (by omega)
      rw [take_more hrn] at hr
      rcases List.mem_append.mp hr with hr | hr
      · exact ih (by omega) r hr e
      have er : r = rs[n] := List.mem_singleton.mp hr
      have hrm : r ∈ rs := by rw [er]; exact List.getElem_mem _
      have home := (hv n r (by rw [er]; exact hrn)).home
      have up : v r.fo = fav → favV rs (tabF rs es) fav r.fo = fav := fun eu => by
        rcases home with eh | ⟨q, hq, eh, _⟩
        · rw [eh] at eu ⊢; exact top eu
        · rw [← eh] at eu ⊢; exact ih (by omega) q hq eu
      have g := opt_gap hv nd h1 h2 hc hrm
      have s0 := step_pos hv hrm
      rw [favV_row hv _ _ hrm]
      unfold pickV
      rw [stepI_row hv hrm]
      unfold gapI turnI at g
      rw [e] at g
      refine if_pos ?_
      generalize tabF rs es r.nm = f at g
      generalize stepR rs r = p at g s0
      generalize hw : favV rs (tabF rs es) fav r.fo = w at up ⊢
      generalize v r.fo = u at g up
      cases fav <;> cases u <;> cases w <;> simp only [Bool.not_true, Bool.not_false, if_true, Bool.false_eq_true, if_false, Bool.true_eq_false, Int.add_zero, reduceCtorEq, forall_const, false_implies, true_implies] at g up ⊢ <;> omega
  intro z hz e
  rcases mem_plc.mp hz with rfl | hz
  · exact top e
  · obtain ⟨r, hr, rfl⟩ := List.mem_map.mp hz
    exact key rs.length (Nat.le_refl _) r (by rw [List.take_length]; exact hr) e
/-! ### two ends with locked steps between bar each other -/
theorem lock_same {rs : List Row} (hv : Valid rs) {v : Str → Bool} (h : NoLk rs v) : ∀ z ∈ plc rs, v z = v (lockR rs z) := by
  have key : ∀ (n : Nat), n ≤ rs.length → ∀ r ∈ rs.take n, v r.nm = v (lockR rs r.nm) := by
    intro n
    induction n with
    | zero => exact fun _ r hr => by cases hr
    | succ n ih =>
      intro hn r hr
      have hrn : rs[n]? = some rs[n] := List.getElem?_eq_getElem (by omega)
      rw [take_more hrn] at hr
      rcases List.mem_append.mp hr with hr | hr
      · exact ih (by omega) r hr
      have er : r = rs[n] := List.mem_singleton.mp hr
      have hrm : r ∈ rs := by rw [er]; exact List.getElem_mem _
      rw [lockR_row hv hrm]
      by_cases q : r.pr = none
      · rw [if_pos q, h r hrm q]
        rcases (hv n r (by rw [er]; exact hrn)).home with eh | ⟨q', hq, eh, _⟩
        · rw [eh, lockR_top hv]
        · rw [← eh]; exact ih (by omega) q' hq
      · rw [if_neg q]
  intro z hz
  rcases mem_plc.mp hz with rfl | hz
  · rw [lockR_top hv]
  · obtain ⟨r, hr, rfl⟩ := List.mem_map.mp hz
    exact key rs.length (Nat.le_refl _) r (by rw [List.take_length]; exact hr)
end Ts

set_option maxRecDepth 100000
set_option maxHeartbeats 4000000
namespace Ts
open PySem L2
/-! ### all values that keep some ends and turn no locked step -/
abbrev Sta := (Str → Bool) × Int
def putV (v : Str → Bool) (z : Str) (b : Bool) : Str → Bool := fun y => if y = z then b else v y
def nextS (es : Wsh) (r : Row) (s : Sta) : List Sta :=
  (if endO es r.nm = some (!(s.1 r.fo)) then [] else [(putV s.1 r.nm (s.1 r.fo), s.2)]) ++
  (match r.pr with
   | none => []
   | some p => if endO es r.nm = some (s.1 r.fo) then [] else [(putV s.1 r.nm (!(s.1 r.fo)), s.2 + p)])
def initS (es : Wsh) : List Sta := ([false, true].filter fun b => !decide (endO es "top" = some (!b))).map fun b => (fun _ => b, 0)
def allS (es : Wsh) (rs : List Row) : List Sta := rs.foldl (fun S r => S.flatMap (nextS es r)) (initS es)
theorem allS_snoc (es : Wsh) (pre : List Row) (r : Row) : allS es (pre ++ [r]) = (allS es pre).flatMap (nextS es r) := by
  unfold allS
  rw [List.foldl_append]; rfl
theorem next_len (es : Wsh) (r : Row) (s : Sta) : (nextS es r s).length ≤ 2 := by
  unfold nextS
  rw [List.length_append]
  have h1 : (if endO es r.nm = some (!(s.1 r.fo)) then ([] : List Sta) else [(putV s.1 r.nm (s.1 r.fo), s.2)]).length ≤ 1 := by split <;> simp
  have h2 : (match r.pr with
   | none => ([] : List Sta)
   | some p => if endO es r.nm = some (s.1 r.fo) then [] else [(putV s.1 r.nm (!(s.1 r.fo)), s.2 + p)]).length ≤ 1 := by
    cases r.pr with
    | none => simp
    | some p => show (if _ then ([] : List Sta) else [_]).length ≤ 1; split <;> simp
  omega
theorem flat_len {α β : Type} {f : α → List β} {m : Nat} : ∀ l : List α, (∀ x ∈ l, (f x).length ≤ m) → (l.flatMap f).length ≤ m * l.length
  | [], _ => by simp
  | a :: l, h => by
    have := flat_len l fun x hx => h x (List.mem_cons_of_mem _ hx)
    have h1 := h a (List.mem_cons_self ..)
    rw [List.flatMap_cons, List.length_append, List.length_cons, Nat.mul_succ]
    omega
theorem init_len (es : Wsh) : (initS es).length ≤ 2 := by
  unfold initS
  rw [List.length_map]
  exact List.length_filter_le _ _
theorem allS_len (es : Wsh) : ∀ (rs : List Row) (n : Nat), n ≤ rs.length → (allS es (rs.take n)).length ≤ 2 ^ (n + 1)
  | rs, 0, _ => by rw [List.take_zero]; exact init_len es
  | rs, n + 1, h => by
    have hr : rs[n]? = some rs[n] := List.getElem?_eq_getElem (by omega)
    rw [take_more hr, allS_snoc]
    have h1 := allS_len es rs n (by omega)
    have h2 := flat_len (allS es (rs.take n)) fun s _ => next_len es rs[n] s
    rw [Nat.pow_succ]
    omega
theorem mem_next {es : Wsh} {r : Row} {s t : Sta} : t ∈ nextS es r s ↔ (endO es r.nm ≠ some (!(s.1 r.fo)) ∧ t = (putV s.1 r.nm (s.1 r.fo), s.2)) ∨ ∃ p, r.pr = some p ∧ endO es r.nm ≠ some (s.1 r.fo) ∧ t = (putV s.1 r.nm (!(s.1 r.fo)), s.2 + p) := by
  unfold nextS
  rw [List.mem_append]
  refine or_congr ?_ ?_
  · by_cases q : endO es r.nm = some (!(s.1 r.fo))
    · rw [if_pos q]; simp [q]
    · rw [if_neg q]; simp [q]
  · cases c : r.pr with
    | none => simp
    | some p =>
      show t ∈ (if _ then ([] : List Sta) else [_]) ↔ _
      by_cases q : endO es r.nm = some (s.1 r.fo)
      · rw [if_pos q]; simp [q]
      · rw [if_neg q]; simp [q]
theorem putV_ne {v : Str → Bool} {z y : Str} {b : Bool} (h : y ≠ z) : putV v z b y = v y := if_neg h
theorem putV_eq {v : Str → Bool} {z : Str} {b : Bool} : putV v z b z = b := if_pos rfl
theorem put_cost {pre : List Row} (hp : Valid pre) {r : Row} (hf : Fits pre r) (v : Str → Bool) (b : Bool) : priceV pre (putV v r.nm b) = priceV pre v := by
  unfold priceV
  refine congrArg List.sum (List.map_congr_left fun q hq => ?_)
  have n1 : q.nm ≠ r.nm := fun e => hf.new (by rw [← e]; exact List.mem_map.mpr ⟨q, hq, rfl⟩)
  have n2 : q.fo ≠ r.nm := fun e => nm_pre hf (by rw [← e]; exact fo_plc hp hq)
  unfold costV
  rw [putV_ne n1, putV_ne n2]
/-- a set of values that is found -/
def GoodS (es : Wsh) (pre : List Row) (s : Sta) : Prop := NoLk pre s.1 ∧ (∀ z ∈ plc pre, endO es z ≠ some (!(s.1 z))) ∧ s.2 = priceV pre s.1
theorem price_snoc (pre : List Row) (r : Row) (v : Str → Bool) : priceV (pre ++ [r]) v = priceV pre v + costV v r := by
  unfold priceV
  rw [List.map_append, List.sum_append]; simp
theorem allS_sound {es : Wsh} : ∀ (n : Nat) (rs : List Row), Valid rs → n ≤ rs.length → ∀ s ∈ allS es (rs.take n), GoodS es (rs.take n) s
  | 0, rs, hv, _, s, hs => by
    rw [List.take_zero] at hs ⊢
    obtain ⟨b, hb, rfl⟩ := List.mem_map.mp hs
    have hb := (List.mem_filter.mp hb).2
    refine ⟨(fun r hr => by cases hr), fun z hz => ?_, rfl⟩
    rcases mem_plc.mp hz with rfl | hz
    · simpa using hb
    · cases hz
  | n + 1, rs, hv, h, s, hs => by
    have hr : rs[n]? = some rs[n] := List.getElem?_eq_getElem (by omega)
    have hf : Fits (rs.take n) rs[n] := hv n _ hr
    have hp : Valid (rs.take n) := by
      have : rs = rs.take n ++ rs.drop n := (List.take_append_drop n rs).symm
      rw [this] at hv
      exact valid_pre hv
    rw [take_more hr] at hs ⊢
    rw [allS_snoc] at hs
    obtain ⟨s0, hs0, hn⟩ := List.mem_flatMap.mp hs
    obtain ⟨g1, g2, g3⟩ := allS_sound n rs hv (by omega) s0 hs0
    generalize rs.take n = pre at hf hp g1 g2 g3
    generalize rs[n] = r at hf hn
    have nf : r.fo ≠ r.nm := fun e => nm_pre hf (by rw [← e]; exact fo_pre hf)
    have old : ∀ b, ∀ q ∈ pre, putV s0.1 r.nm b q.nm = s0.1 q.nm ∧ putV s0.1 r.nm b q.fo = s0.1 q.fo := fun b q hq =>
      ⟨putV_ne fun e => hf.new (by rw [← e]; exact List.mem_map.mpr ⟨q, hq, rfl⟩), putV_ne fun e => nm_pre hf (by rw [← e]; exact fo_plc hp hq)⟩
    have lk : ∀ b, (r.pr = none → b = s0.1 r.fo) → NoLk (pre ++ [r]) (putV s0.1 r.nm b) := fun b hb q hq e => by
      rcases List.mem_append.mp hq with hq | hq
      · rw [(old b q hq).1, (old b q hq).2]; exact g1 q hq e
      · rw [List.mem_singleton.mp hq] at e ⊢
        rw [putV_eq, putV_ne nf]; exact hb e
    have kp : ∀ b, endO es r.nm ≠ some (!b) → ∀ z ∈ plc (pre ++ [r]), endO es z ≠ some (!(putV s0.1 r.nm b z)) := fun b hb z hz => by
      rw [plc_snoc] at hz
      rcases List.mem_append.mp hz with hz | hz
      · rw [putV_ne fun e => nm_pre hf (by rw [← e]; exact hz)]; exact g2 z hz
      · rw [List.mem_singleton.mp hz, putV_eq]; exact hb
    have co : ∀ b, priceV (pre ++ [r]) (putV s0.1 r.nm b) = s0.2 + if b = s0.1 r.fo then 0 else prI r := fun b => by
      rw [price_snoc, put_cost hp hf, ← g3]
      unfold costV
      rw [putV_eq, putV_ne nf]
    rcases mem_next.mp hn with ⟨h1, rfl⟩ | ⟨p, hpr, h1, rfl⟩
    · exact ⟨lk _ fun _ => rfl, kp _ h1, by rw [co, if_pos rfl]; omega⟩
    · refine ⟨lk _ (fun e => by rw [hpr] at e; cases e), kp _ (by rw [Bool.not_not]; exact h1), ?_⟩
      rw [co, if_neg (by cases s0.1 r.fo <;> simp)]
      unfold prI
      rw [hpr]; rfl
theorem allS_full {es : Wsh} {v : Str → Bool} : ∀ (n : Nat) (rs : List Row), Valid rs → n ≤ rs.length → GoodS es rs (v, priceV rs v) → ∃ s ∈ allS es (rs.take n), (∀ z ∈ plc (rs.take n), s.1 z = v z) ∧ s.2 = priceV (rs.take n) v
  | 0, rs, hv, _, g => by
    rw [List.take_zero]
    refine ⟨(fun _ => v "top", 0), List.mem_map.mpr ⟨v "top", List.mem_filter.mpr ⟨by cases v "top" <;> simp, ?_⟩, rfl⟩, fun z hz => ?_, rfl⟩
    · have := g.2.1 "top" (mem_plc.mpr (.inl rfl))
      simpa using this
    · rcases mem_plc.mp hz with rfl | hz
      · rfl
      · cases hz
  | n + 1, rs, hv, h, g => by
    have hr : rs[n]? = some rs[n] := List.getElem?_eq_getElem (by omega)
    have hf : Fits (rs.take n) rs[n] := hv n _ hr
    have hrm : rs[n] ∈ rs := List.getElem_mem _
    have hp : Valid (rs.take n) := by
      have : rs = rs.take n ++ rs.drop n := (List.take_append_drop n rs).symm
      rw [this] at hv
      exact valid_pre hv
    obtain ⟨s0, hs0, e1, e2⟩ := allS_full n rs hv (by omega) g
    rw [take_more hr, allS_snoc]
    have k1 := g.1 _ hrm
    have k2 := g.2.1 rs[n].nm (mem_plc.mpr (.inr (List.mem_map.mpr ⟨_, hrm, rfl⟩)))
    generalize rs.take n = pre at hf hp hs0 e1 e2
    generalize rs[n] = r at hf k1 k2
    have ef : s0.1 r.fo = v r.fo := e1 _ (fo_pre hf)
    have vals : ∀ b, b = v r.nm → ∀ z ∈ plc (pre ++ [r]), putV s0.1 r.nm b z = v z := fun b hb z hz => by
      rw [plc_snoc] at hz
      rcases List.mem_append.mp hz with hz | hz
      · rw [putV_ne fun e => nm_pre hf (by rw [← e]; exact hz)]; exact e1 z hz
      · rw [List.mem_singleton.mp hz, putV_eq]; exact hb
    by_cases q : v r.nm = v r.fo
    · refine ⟨_, List.mem_flatMap.mpr ⟨s0, hs0, mem_next.mpr (.inl ⟨?_, rfl⟩)⟩, vals _ (by rw [ef, q]), ?_⟩
      · rw [ef, ← q]; exact k2
      · rw [price_snoc]
        unfold costV
        rw [if_pos q, ← e2]; show s0.2 = s0.2 + 0; omega
    · have eb : (!(v r.fo)) = v r.nm := by cases h1 : v r.nm <;> cases h2 : v r.fo <;> simp_all
      cases c : r.pr with
      | none => exact absurd (k1 c) q
      | some p =>
        refine ⟨_, List.mem_flatMap.mpr ⟨s0, hs0, mem_next.mpr (.inr ⟨p, c, ?_, rfl⟩)⟩, vals _ (by rw [ef, eb]), ?_⟩
        · rw [ef]
          have : v r.fo = !(v r.nm) := by rw [← eb, Bool.not_not]
          rw [this]; exact k2
        · rw [price_snoc]
          unfold costV prI
          rw [if_neg q, ← e2, c]; rfl
theorem good_iff {rs : List Row} {es : Wsh} (ok : EndsOk rs es) (v : Str → Bool) (c : Int) : GoodS es rs (v, c) ↔ NoLk rs v ∧ Keeps es v ∧ c = priceV rs v := by
  refine and_congr Iff.rfl (and_congr ⟨fun h e he => ?_, fun h z _ e => ?_⟩ Iff.rfl)
  · have := h e.1 (ok.inp e he)
    rw [endO_mem ok.nd he] at this
    cases h1 : v e.1 <;> cases h2 : e.2 <;> simp_all
  · have := h _ (endO_some e)
    have this : v z = !(v z) := this
    exact absurd this (by cases v z <;> decide)
theorem mem_allS {rs : List Row} (hv : Valid rs) {es : Wsh} (ok : EndsOk rs es) {s : Sta} (h : s ∈ allS es rs) : NoLk rs s.1 ∧ Keeps es s.1 ∧ s.2 = priceV rs s.1 := by
  have := allS_sound rs.length rs hv (Nat.le_refl _) s (by rw [List.take_length]; exact h)
  rw [List.take_length] at this
  exact (good_iff ok s.1 s.2).mp this
theorem allS_has {rs : List Row} (hv : Valid rs) {es : Wsh} (ok : EndsOk rs es) {v : Str → Bool} (h1 : NoLk rs v) (h2 : Keeps es v) : ∃ s ∈ allS es rs, (∀ z ∈ plc rs, s.1 z = v z) ∧ s.2 = priceV rs v := by
  have := allS_full rs.length rs hv (Nat.le_refl _) ((good_iff ok v _).mpr ⟨h1, h2, rfl⟩)
  rw [List.take_length] at this
  exact this
theorem allS_nil {rs : List Row} (hv : Valid rs) {es : Wsh} (ok : EndsOk rs es) : allS es rs = [] ↔ ¬ OpenE rs es := by
  refine ⟨fun h o => ?_, fun h => ?_⟩
  · obtain ⟨s, hs, _⟩ := allS_has hv ok (feas_nolk hv es) (feas_keeps o)
    rw [h] at hs; cases hs
  · cases e : allS es rs with
    | nil => rfl
    | cons s S =>
      refine absurd (fun e1 h1 e2 h2 hl => ?_) h
      obtain ⟨k1, k2, _⟩ := mem_allS hv ok (s := s) (by rw [e]; exact List.mem_cons_self ..)
      rw [← k2 e1 h1, ← k2 e2 h2, lock_same hv k1 _ (ok.inp e1 h1), lock_same hv k1 _ (ok.inp e2 h2), hl]
end Ts

set_option maxRecDepth 100000
set_option maxHeartbeats 4000000
namespace Ts
open PySem L2
/-! ### the numbers count the cheapest choices -/
def prodI (l : List Str) (f : Str → Int) : Int := (l.map f).foldr (· * ·) 1
theorem prod_cons (a : Str) (l : List Str) (f : Str → Int) : prodI (a :: l) f = f a * prodI l f := rfl
theorem prod_snoc (a : Str) (f : Str → Int) : ∀ l : List Str, prodI (l ++ [a]) f = prodI l f * f a
  | [] => by show f a * 1 = 1 * f a; omega
  | b :: l => by rw [List.cons_append, prod_cons, prod_cons, prod_snoc a f l, Int.mul_assoc]
theorem prod_congr {f g : Str → Int} : ∀ {l : List Str}, (∀ z ∈ l, f z = g z) → prodI l f = prodI l g
  | [], _ => rfl
  | b :: l, h => by rw [prod_cons, prod_cons, h b (List.mem_cons_self ..), prod_congr fun z hz => h z (List.mem_cons_of_mem _ hz)]
theorem prod_at {a : Str} {g : Str → Int} {m : Int} : ∀ {l : List Str}, l.Nodup → a ∈ l → prodI l (fun z => if z = a then g z * m else g z) = prodI l g * m
  | [], _, h => by cases h
  | b :: l, nd, h => by
    rw [List.nodup_cons] at nd
    rw [prod_cons, prod_cons]
    by_cases q : b = a
    · have e : prodI l (fun z => if z = a then g z * m else g z) = prodI l g := prod_congr fun z hz => if_neg fun x => nd.1 (by rw [q, ← x]; exact hz)
      rw [if_pos q, e, Int.mul_assoc, Int.mul_assoc, Int.mul_comm m]
    · rw [if_neg q, prod_at nd.2 ((List.mem_cons.mp h).resolve_left fun x => q x.symm), Int.mul_assoc]
theorem prod_ones : ∀ l : List Str, prodI l (fun _ => 1) = 1
  | [] => rfl
  | b :: l => by rw [prod_cons, prod_ones l]; rfl
def compl (es : Wsh) (suf : List Row) (s : Sta) : List Sta := suf.foldl (fun S r => S.flatMap (nextS es r)) [s]
theorem fold_flat (es : Wsh) : ∀ (suf : List Row) (S : List Sta), suf.foldl (fun S r => S.flatMap (nextS es r)) S = S.flatMap (compl es suf)
  | [], S => by
    show S = S.flatMap fun s => [s]
    induction S with
    | nil => rfl
    | cons a S ih => rw [List.flatMap_cons, ← ih]; rfl
  | r :: suf, S => by
    have e : compl es (r :: suf) = fun s => (nextS es r s).flatMap (compl es suf) := by
      funext s
      show suf.foldl _ (List.flatMap (nextS es r) [s]) = _
      rw [List.flatMap_cons, List.flatMap_nil, List.append_nil, fold_flat es suf]
    show suf.foldl _ (S.flatMap (nextS es r)) = _
    rw [fold_flat es suf, e, List.flatMap_assoc]
theorem compl_cons (es : Wsh) (r : Row) (suf : List Row) (s : Sta) : compl es (r :: suf) s = (nextS es r s).flatMap (compl es suf) := by
  show suf.foldl _ (List.flatMap (nextS es r) [s]) = _
  rw [List.flatMap_cons, List.flatMap_nil, List.append_nil, fold_flat es suf]
def cntI (c : Int) (l : List Sta) : Int := ((l.filter fun t => decide (t.2 = c)).length : Nat)
theorem cnt_app (c : Int) (l m : List Sta) : cntI c (l ++ m) = cntI c l + cntI c m := by
  unfold cntI
  rw [List.filter_append, List.length_append]; push_cast; rfl
theorem cnt_flat (c : Int) (f : Sta → List Sta) : ∀ l : List Sta, cntI c (l.flatMap f) = (l.map fun s => cntI c (f s)).sum
  | [] => rfl
  | a :: l => by rw [List.flatMap_cons, cnt_app, List.map_cons, List.sum_cons, cnt_flat c f l]
def phiS (rs : List Row) (es : Wsh) (pre suf : List Row) (s : Sta) : Int := s.2 + ((plc pre).map fun z => tabT rs es suf z (s.1 z)).sum
theorem tab_pen {rs : List Row} (hv : Valid rs) (es : Wsh) : ∀ (suf : List Row), (∀ r ∈ suf, r ∈ rs) → ∀ z b, pen rs es z b ≤ tabT rs es suf z b ∧ 0 ≤ tabT rs es suf z b
  | [], _, z, b => by
    have e := endless_pos hv
    refine ⟨Int.le_refl _, ?_⟩
    show 0 ≤ pen rs es z b
    unfold pen
    split <;> omega
  | r :: suf, h, z, b => by
    have ih := tab_pen hv es suf fun q hq => h q (List.mem_cons_of_mem _ hq)
    have h0 := ih z b
    have h1 := ih r.nm b
    have h2 := ih r.nm (!b)
    have hr := h r (List.mem_cons_self ..)
    have s0 : 0 ≤ stepR rs r := by
      have hp := hv.prI hr
      have e := endless_pos hv
      unfold stepR
      unfold Ts.prI at hp
      cases c : r.pr with
      | none => show 0 ≤ endlessI rs; omega
      | some p => rw [c] at hp; exact hp
    show pen rs es z b ≤ stepT rs r (tabT rs es suf) z b ∧ 0 ≤ stepT rs r (tabT rs es suf) z b
    unfold stepT
    split <;> omega
theorem sum_ge {α : Type} {l : List α} {f : α → Int} (h : ∀ x ∈ l, 0 ≤ f x) : 0 ≤ (l.map f).sum := sum_pos fun x hx => by
  obtain ⟨y, hy, rfl⟩ := List.mem_map.mp hx
  exact h y hy
theorem cnt_main {rs : List Row} (hv : Valid rs) {es : Wsh} (hsm : cheapI rs es < endlessI rs) : ∀ (suf pre : List Row) (s : Sta), rs = pre ++ suf → GoodS es pre s → 0 ≤ s.2 → cheapI rs es ≤ phiS rs es pre suf s →
    cntI (cheapI rs es) (compl es suf s) = if phiS rs es pre suf s = cheapI rs es then prodI (plc pre) (fun z => numT rs es suf z (s.1 z)) else 0
  | [], pre, s, e, g, s0, hle => by
    have e0 : ((plc pre).map fun z => tabT rs es [] z (s.1 z)).sum = 0 := by
      have : (plc pre).map (fun z => tabT rs es [] z (s.1 z)) = (plc pre).map fun _ => (0 : Int) := List.map_congr_left fun z hz => by
        show pen rs es z (s.1 z) = 0
        unfold pen
        exact if_neg (g.2.1 z hz)
      rw [this]
      generalize plc pre = l
      induction l with
      | nil => rfl
      | cons a l ih => rw [List.map_cons, List.sum_cons, ih]; rfl
    have e1 : phiS rs es pre [] s = s.2 := by unfold phiS; rw [e0]; omega
    rw [e1]
    have e2 : prodI (plc pre) (fun z => numT rs es [] z (s.1 z)) = 1 := prod_ones _
    rw [e2]
    show ((([s] : List Sta).filter fun t => decide (t.2 = cheapI rs es)).length : Int) = _
    by_cases q : s.2 = cheapI rs es
    · rw [if_pos q, List.filter_cons_of_pos (by simp [q])]; rfl
    · rw [if_neg q, List.filter_cons_of_neg (by simp [q])]; rfl
  | r :: suf, pre, s, e, g, s0, hle => by
    have hv' := hv
    rw [e] at hv'
    have hf := fits_at hv'
    have hp := valid_pre hv'
    have hrm : r ∈ rs := by rw [e]; simp
    have e' : rs = (pre ++ [r]) ++ suf := by rw [List.append_assoc]; exact e
    have nfo : r.fo ≠ r.nm := fun x => nm_pre hf (by rw [← x]; exact fo_pre hf)
    have tp := tab_pen hv es suf fun q hq => by rw [e]; simp [hq]
    have st0 : 0 ≤ stepR rs r := by
      have h1 := tab_pen hv es [] (fun q hq => by cases hq) r.nm true
      have hp' := hv.prI hrm
      have ep := endless_pos hv
      unfold stepR
      unfold Ts.prI at hp'
      cases c : r.pr with
      | none => show 0 ≤ endlessI rs; omega
      | some p => rw [c] at hp'; exact hp'
    -- what the places ahead have in the table
    have sumS : phiS rs es pre (r :: suf) s = s.2 + ((plc pre).map fun z => tabT rs es suf z (s.1 z)).sum + leastI rs r (tabT rs es suf) (s.1 r.fo) := by
      unfold phiS
      have : ((plc pre).map fun z => tabT rs es (r :: suf) z (s.1 z)) = (plc pre).map fun z => if z = r.fo then tabT rs es suf z (s.1 z) + leastI rs r (tabT rs es suf) (s.1 r.fo) else tabT rs es suf z (s.1 z) := by
        refine List.map_congr_left fun z _ => ?_
        show stepT rs r (tabT rs es suf) z (s.1 z) = _
        unfold stepT leastI
        by_cases q : z = r.fo
        · rw [if_pos q, if_pos q, q]
        · rw [if_neg q, if_neg q]
      rw [this, sum_one (plc_nodup hp) (fo_pre hf)]
      omega
    have prodS : prodI (plc pre) (fun z => numT rs es (r :: suf) z (s.1 z)) = prodI (plc pre) (fun z => numT rs es suf z (s.1 z)) * manyI rs r (tabT rs es suf) (numT rs es suf) (s.1 r.fo) := by
      rw [← prod_at (plc_nodup hp) (fo_pre hf)]
      refine prod_congr fun z _ => ?_
      show stepN rs r (tabT rs es suf) (numT rs es suf) z (s.1 z) = _
      unfold stepN
      by_cases q : z = r.fo
      · rw [if_pos q, if_pos q, q]
      · rw [if_neg q, if_neg q]
    have base0 : 0 ≤ ((plc pre).map fun z => tabT rs es suf z (s.1 z)).sum := sum_ge fun z _ => (tp z _).2
    -- one choice
    have one : ∀ (b : Bool) (c : Int), GoodS es (pre ++ [r]) (putV s.1 r.nm b, s.2 + c) → 0 ≤ c → leastI rs r (tabT rs es suf) (s.1 r.fo) ≤ tabT rs es suf r.nm b + c →
        cntI (cheapI rs es) (compl es suf (putV s.1 r.nm b, s.2 + c)) = if phiS rs es pre (r :: suf) s = cheapI rs es ∧ tabT rs es suf r.nm b + c = leastI rs r (tabT rs es suf) (s.1 r.fo) then prodI (plc pre) (fun z => numT rs es suf z (s.1 z)) * numT rs es suf r.nm b else 0 := by
      intro b c hg c0 hl
      have ep : phiS rs es (pre ++ [r]) suf (putV s.1 r.nm b, s.2 + c) = s.2 + ((plc pre).map fun z => tabT rs es suf z (s.1 z)).sum + (tabT rs es suf r.nm b + c) := by
        unfold phiS
        rw [plc_snoc, List.map_append, List.sum_append]
        have : ((plc pre).map fun z => tabT rs es suf z (putV s.1 r.nm b z)) = (plc pre).map fun z => tabT rs es suf z (s.1 z) := List.map_congr_left fun z hz => by rw [putV_ne fun x => nm_pre hf (by rw [← x]; exact hz)]
        show s.2 + c + (((plc pre).map fun z => tabT rs es suf z (putV s.1 r.nm b z)).sum + ([tabT rs es suf r.nm (putV s.1 r.nm b r.nm)] : List Int).sum) = _
        rw [this, putV_eq]
        simp only [List.sum_cons, List.sum_nil]
        omega
      have eq : prodI (plc (pre ++ [r])) (fun z => numT rs es suf z (putV s.1 r.nm b z)) = prodI (plc pre) (fun z => numT rs es suf z (s.1 z)) * numT rs es suf r.nm b := by
        rw [plc_snoc, prod_snoc, putV_eq]
        congr 1
        exact prod_congr fun z hz => by rw [putV_ne fun x => nm_pre hf (by rw [← x]; exact hz)]
      rw [cnt_main hv hsm suf (pre ++ [r]) _ e' hg (by show 0 ≤ s.2 + c; omega) (by rw [ep]; omega), ep, eq]
      by_cases q1 : phiS rs es pre (r :: suf) s = cheapI rs es
      · by_cases q2 : tabT rs es suf r.nm b + c = leastI rs r (tabT rs es suf) (s.1 r.fo)
        · exact (if_pos (by omega)).trans (if_pos ⟨q1, q2⟩).symm
        · exact (if_neg (by omega)).trans (if_neg fun h => q2 h.2).symm
      · exact (if_neg (by omega)).trans (if_neg fun h => q1 h.1).symm
    rw [compl_cons, cnt_flat, prodS]
    -- a choice that is not among them is dearer
    have bad : ∀ (b : Bool) (c : Int), phiS rs es pre (r :: suf) s = cheapI rs es → tabT rs es suf r.nm b + c = leastI rs r (tabT rs es suf) (s.1 r.fo) → endlessI rs ≤ tabT rs es suf r.nm b + c → False := fun b c h1 h2 h3 => by omega
    have goodT : ∀ t ∈ nextS es r s, GoodS es (pre ++ [r]) t := fun t ht => by
      have hv2 := hv'
      have lk : ∀ b, (r.pr = none → b = s.1 r.fo) → NoLk (pre ++ [r]) (putV s.1 r.nm b) := fun b hb q hq e => by
        rcases List.mem_append.mp hq with hq | hq
        · rw [putV_ne fun x => hf.new (by rw [← x]; exact List.mem_map.mpr ⟨q, hq, rfl⟩), putV_ne fun x => nm_pre hf (by rw [← x]; exact fo_plc hp hq)]
          exact g.1 q hq e
        · rw [List.mem_singleton.mp hq] at e ⊢
          rw [putV_eq, putV_ne nfo]; exact hb e
      have kp : ∀ b, endO es r.nm ≠ some (!b) → ∀ z ∈ plc (pre ++ [r]), endO es z ≠ some (!(putV s.1 r.nm b z)) := fun b hb z hz => by
        rw [plc_snoc] at hz
        rcases List.mem_append.mp hz with hz | hz
        · rw [putV_ne fun x => nm_pre hf (by rw [← x]; exact hz)]; exact g.2.1 z hz
        · rw [List.mem_singleton.mp hz, putV_eq]; exact hb
      have co : ∀ b, priceV (pre ++ [r]) (putV s.1 r.nm b) = s.2 + if b = s.1 r.fo then 0 else prI r := fun b => by
        rw [price_snoc, put_cost hp hf, ← g.2.2]
        unfold costV
        rw [putV_eq, putV_ne nfo]
      rcases mem_next.mp ht with ⟨h1, rfl⟩ | ⟨p, hpr, h1, rfl⟩
      · exact ⟨lk _ fun _ => rfl, kp _ h1, by rw [co, if_pos rfl]; omega⟩
      · refine ⟨lk _ (fun e => by rw [hpr] at e; cases e), kp _ (by rw [Bool.not_not]; exact h1), ?_⟩
        rw [co, if_neg (by cases s.1 r.fo <;> simp)]
        unfold prI
        rw [hpr]; rfl
    have lA : leastI rs r (tabT rs es suf) (s.1 r.fo) ≤ tabT rs es suf r.nm (s.1 r.fo) := by unfold leastI; omega
    have lB : leastI rs r (tabT rs es suf) (s.1 r.fo) ≤ tabT rs es suf r.nm (!(s.1 r.fo)) + stepR rs r := by unfold leastI; omega
    generalize hW : prodI (plc pre) (fun z => numT rs es suf z (s.1 z)) = W at one
    generalize hL : leastI rs r (tabT rs es suf) (s.1 r.fo) = LL at one lA lB bad
    clear sumS prodS hle
    generalize phiS rs es pre (r :: suf) s = PH at one bad ⊢
    have eA : (if endO es r.nm = some (!(s.1 r.fo)) then ([] : List Sta) else [(putV s.1 r.nm (s.1 r.fo), s.2)]).map (fun t => cntI (cheapI rs es) (compl es suf t)) = if endO es r.nm = some (!(s.1 r.fo)) then [] else [cntI (cheapI rs es) (compl es suf (putV s.1 r.nm (s.1 r.fo), s.2))] := by split <;> rfl
    have partA : ((if endO es r.nm = some (!(s.1 r.fo)) then ([] : List Sta) else [(putV s.1 r.nm (s.1 r.fo), s.2)]).map fun t => cntI (cheapI rs es) (compl es suf t)).sum = if PH = cheapI rs es ∧ tabT rs es suf r.nm (s.1 r.fo) = LL then W * numT rs es suf r.nm (s.1 r.fo) else 0 := by
      by_cases q : endO es r.nm = some (!(s.1 r.fo))
      · rw [if_pos q]
        refine (if_neg fun h => ?_).symm
        refine bad (s.1 r.fo) 0 h.1 (by rw [Int.add_zero]; exact h.2) ?_
        have := (tp r.nm (s.1 r.fo)).1
        unfold pen at this
        rw [if_pos q] at this
        omega
      · rw [if_neg q]
        have hm : (putV s.1 r.nm (s.1 r.fo), s.2) ∈ nextS es r s := mem_next.mpr (.inl ⟨q, rfl⟩)
        have h1 := one (s.1 r.fo) 0 (by rw [Int.add_zero]; exact goodT _ hm) (Int.le_refl _) (by omega)
        rw [Int.add_zero, Int.add_zero] at h1
        rw [List.map_singleton, List.sum_singleton, h1]
    have partB : ((match r.pr with | none => ([] : List Sta) | some p => if endO es r.nm = some (s.1 r.fo) then [] else [(putV s.1 r.nm (!(s.1 r.fo)), s.2 + p)]).map fun t => cntI (cheapI rs es) (compl es suf t)).sum = if PH = cheapI rs es ∧ tabT rs es suf r.nm (!(s.1 r.fo)) + stepR rs r = LL then W * numT rs es suf r.nm (!(s.1 r.fo)) else 0 := by
      have t0 := (tp r.nm (!(s.1 r.fo))).2
      cases c : r.pr with
      | none =>
        refine (if_neg fun h => ?_).symm
        refine bad (!(s.1 r.fo)) (stepR rs r) h.1 h.2 ?_
        have : stepR rs r = endlessI rs := by unfold stepR; rw [c]; rfl
        omega
      | some p =>
        have es' : stepR rs r = p := by unfold stepR; rw [c]; rfl
        show (((if endO es r.nm = some (s.1 r.fo) then ([] : List Sta) else [(putV s.1 r.nm (!(s.1 r.fo)), s.2 + p)]).map fun t => cntI (cheapI rs es) (compl es suf t)).sum) = _
        by_cases q : endO es r.nm = some (s.1 r.fo)
        · rw [if_pos q]
          refine (if_neg fun h => ?_).symm
          refine bad (!(s.1 r.fo)) (stepR rs r) h.1 h.2 ?_
          have := (tp r.nm (!(s.1 r.fo))).1
          unfold pen at this
          rw [Bool.not_not, if_pos q] at this
          omega
        · rw [if_neg q]
          have hm : (putV s.1 r.nm (!(s.1 r.fo)), s.2 + p) ∈ nextS es r s := mem_next.mpr (.inr ⟨p, c, q, rfl⟩)
          have h1 := one (!(s.1 r.fo)) p (goodT _ hm) (by omega) (by omega)
          rw [List.map_singleton, List.sum_singleton, h1, es']
    have eN : nextS es r s = (if endO es r.nm = some (!(s.1 r.fo)) then ([] : List Sta) else [(putV s.1 r.nm (s.1 r.fo), s.2)]) ++ (match r.pr with | none => ([] : List Sta) | some p => if endO es r.nm = some (s.1 r.fo) then [] else [(putV s.1 r.nm (!(s.1 r.fo)), s.2 + p)]) := rfl
    rw [eN, List.map_append, List.sum_append, partA, partB]
    unfold manyI
    rw [hL]
    by_cases q : PH = cheapI rs es
    · rw [if_pos q, Int.mul_add]
      congr 1
      · by_cases k : tabT rs es suf r.nm (s.1 r.fo) = LL
        · rw [if_pos ⟨q, k⟩, if_pos k]
        · rw [if_neg fun h => k h.2, if_neg k, Int.mul_zero]
      · by_cases k : tabT rs es suf r.nm (!(s.1 r.fo)) + stepR rs r = LL
        · rw [if_pos ⟨q, k⟩, if_pos k]
        · rw [if_neg fun h => k h.2, if_neg k, Int.mul_zero]
    · rw [if_neg q, if_neg fun h => q h.1, if_neg fun h => q h.1]; rfl
/-- the numbers of the first values, taken where they are cheapest, count the cheapest -/
def howI (rs : List Row) (es : Wsh) : Int := (([false, true].filter fun b => decide (tabF rs es "top" b = cheapI rs es)).map fun b => numF rs es "top" b).sum
theorem how_many_eq {rs : List Row} (hv : Valid rs) {es : Wsh} (ok : EndsOk rs es) (ho : OpenE rs es) : cntI (cheapI rs es) (allS es rs) = howI rs es := by
  have hsm := cheap_small hv ok ho
  have e0 : allS es rs = (initS es).flatMap (compl es rs) := fold_flat es rs (initS es)
  rw [e0, cnt_flat]
  unfold initS howI
  rw [List.map_map]
  have one : ∀ b, endO es "top" ≠ some (!b) → cntI (cheapI rs es) (compl es rs ((fun _ => b), 0)) = if tabF rs es "top" b = cheapI rs es then numF rs es "top" b else 0 := fun b hb => by
    have ep : phiS rs es [] rs ((fun _ => b), 0) = tabF rs es "top" b := by
      unfold phiS plc names tabF
      simp
    have el : cheapI rs es ≤ tabF rs es "top" b := by unfold cheapI; cases b <;> omega
    have g0 : GoodS es [] ((fun _ => b), 0) := by
      refine ⟨(fun r hr => by cases hr), fun z hz => ?_, rfl⟩
      rcases mem_plc.mp hz with rfl | hz
      · exact hb
      · cases hz
    have h := cnt_main hv hsm rs [] ((fun _ => b), 0) rfl g0 (Int.le_refl _) (by rw [ep]; exact el)
    rw [h, ep]
    have eq : prodI (plc []) (fun z => numT rs es rs z b) = numF rs es "top" b := by
      show numT rs es rs "top" b * 1 = _
      rw [Int.mul_one]; rfl
    show (if _ then prodI (plc []) (fun z => numT rs es rs z b) else 0) = _
    rw [eq]
  have two : ∀ b, endO es "top" = some (!b) → tabF rs es "top" b ≠ cheapI rs es := fun b hb e => by
    have := (tab_pen hv es rs (fun _ h => h) "top" b).1
    unfold pen at this
    rw [if_pos hb] at this
    have this : endlessI rs ≤ tabF rs es "top" b := this
    omega
  have each : ∀ l : List Bool, (((l.filter fun b => !decide (endO es "top" = some (!b))).map ((fun s => cntI (cheapI rs es) (compl es rs s)) ∘ fun b => ((fun _ => b), 0)))).sum = ((l.filter fun b => decide (tabF rs es "top" b = cheapI rs es)).map fun b => numF rs es "top" b).sum := by
    intro l
    induction l with
    | nil => rfl
    | cons b l ih =>
      by_cases q : endO es "top" = some (!b)
      · rw [List.filter_cons_of_neg (by simp [q]), List.filter_cons_of_neg (by simp [two b q]), ih]
      · rw [List.filter_cons_of_pos (by simp [q]), List.map_cons, List.sum_cons, ih]
        show cntI (cheapI rs es) (compl es rs ((fun _ => b), 0)) + _ = _
        rw [one b q]
        by_cases k : tabF rs es "top" b = cheapI rs es
        · rw [if_pos k, List.filter_cons_of_pos (by simp [k]), List.map_cons, List.sum_cons]
        · rw [if_neg k, List.filter_cons_of_neg (by simp [k]), Int.zero_add]
  exact each [false, true]
end Ts

set_option maxRecDepth 100000
set_option maxHeartbeats 8000000
namespace Ts
open PySem L2
theorem filt_moreL {α : Type} {l : List α} {p : α → Bool} {i : Nat} {y : α} (h : l[i]? = some y) : (l.take (i + 1)).filter p = (l.take i).filter p ++ if p y = true then [y] else [] := by
  rw [take_more h, List.filter_append]
  by_cases q : p y = true
  · rw [if_pos q]; simp [q]
  · rw [if_neg q]; simp [q]
def spHow (C CB : Addr) : Sp := fun vs H Q E => ∃ (t wd : Addr) (rs : List Row) (es : Wsh) (d : Option Bool), vs = [.ref t, .ref wd, dfV d] ∧ TreeAt C H t rs ∧ H wd = some (.dK (kvE es)) ∧ EndsOk rs es ∧ es.length ≤ 150 ∧
  (OkW rs es d → ∀ H', Same H H' → Q (.int (howI rs (topE d es))) H') ∧ ∀ x y, BarW rs es d x y → ∀ e H', H e = none → Same H H' → H' e = some (.xd [("other", .str y), ("one", .str x)]) → E (.ref CB) (some e) H'
section
variable {P : Program} {w : World} {K : PySem.W.Frag} {mg : Str → Option Value} {base : Heap} {C CM CB CH : Addr}
abbrev nHw : List Str := ["tree", "wish", "default", "prices", "numbers", "cost", "value"]
theorem sc_how : FnScope nHw ["tree", "wish", "default"] (defScope s_how_many) := ⟨rfl, rfl, rfl, by decide +kernel, rfl, by decide +kernel, by decide +kernel⟩
theorem ok_how {f : Addr} {fd : FuncData} {dvs : List V} (F : FunD K "how_many" "how_many" (defArgs s_how_many) (defBody s_how_many) (defScope s_how_many) dvs [] f fd) (TC : TxC K mg) (U : TxU K mg) (hM : mg "min" = none) (hS : mg "sum" = none)
    (Do : DefAt K mg "open_ends" s_open_ends ["tree", "wish", "default"]) (Go : FnOk P w K mg base (L2.CX P w) 7 Do.f Do.fd ["tree", "wish", "default"] (spOpenEnds C CB))
    (Dc : DefAt K mg "choices" s_choices ["tree", "ends"]) (Gc : FnOk P w K mg base CX0 8 Dc.f Dc.fd ["tree", "ends"] (spChoices P w C)) : FnOk P w K mg base (L2.CX P w) 9 f fd ["tree", "wish", "default"] (spHow C CB) := by
  obtain ⟨t1, gT⟩ := TC.top
  refine F.ok sc_how (fun vs H Q E h => ?_) (fun cdv A outer s H vs Q E hr h => ?_)
  · obtain ⟨t, wd, rs, es, d, rfl, _⟩ := h
    rfl
  · obtain ⟨t, wd, rs, es, d, rfl, ht, hd, hok, hl, hq, hE⟩ := h
    have hu := hu_of hr
    have r7 : Room 7 _ := hr.mono (by decide)
    have hv := ht.val
    have topm : ("top" : Str) ∈ plc rs := mem_plc.mpr (.inl rfl)
    refine ⟨_, pss_cons (ps_asg (pe_call Gc hr rfl Dc.g Dc.F.kp Dc.b .nil pass0 (pa_cons (pv 0) (pa_cons (pe_call Go r7 rfl Do.g Do.F.kp Do.b .nil (passes_call (takes_of rfl rfl rfl rfl) (fun _ _ _ _ h => h)) (pa_cons (pv 0) (pa_cons (pv 1) (pa_cons (pv 2) pa_nil)))) pa_nil))) (pg_tup rfl (pgs_cons (pg_name (i := 3) sc_how.nd rfl (.inr rfl)) (pgs_cons (pg_name (i := 4) sc_how.nd rfl (.inr rfl)) pgs_nil))))
      (pss_cons (ps_set (i := 5) sc_how.nd rfl (.inr rfl) (pe_callB (call_min2 rfl) (by rfl) hM (by decide +kernel) (pa_cons (pe_getP hu (pv 3) (pe_tup (pa_cons (pe_glob (by rfl) gT (v := .str ("top" : Str)) ⟨_, rfl⟩) (pa_cons pe_bl pa_nil))) (fun _ _ => rfl)) (pa_cons (pe_getP hu (pv 3) (pe_tup (pa_cons (pe_glob (by rfl) gT (v := .str ("top" : Str)) ⟨_, rfl⟩) (pa_cons pe_bl pa_nil))) (fun _ _ => rfl)) pa_nil))))
      (pss_one (ps_ret (pe_callB (cr_sum rfl) (by rfl) hS (by decide +kernel) (pa_cons (pe_lc (own := [("value", 6)]) (g := gName 6) (tt := tTest (tOp rEq (tGetP P w (tVar 3) (tTup (tCons (tC (.str ("top" : Str))) (tCons (tVar 6) tNil)))) (tVar 5))) (te := tGetP P w (tVar 4) (tTup (tCons (tC (.str ("top" : Str))) (tCons (tVar 6) tNil)))) rfl sc_how.nd (pi_tup (pe_glob (by rfl) U.g (v := .ref U.A) rfl)) (blkOk_by (N := nHw) (sc := defScope s_how_many) (by decide +kernel))
          (fun _ _ _ _ _ => pg_name (i := 6) sc_how.nd rfl (Or.inl rfl)) (fun _ _ _ _ _ => by exact pts_one (pt_cmpR op_eq (pe_getP hu (pv 3) (pe_tup (pa_cons (pe_glob (by rfl) gT (v := .str ("top" : Str)) ⟨_, rfl⟩) (pa_cons (pv 6) pa_nil))) (fun _ _ => rfl)) (pv 5) (nomark _))) (fun _ _ _ _ _ => by exact pe_getP hu (pv 4) (pe_tup (pa_cons (pe_glob (by rfl) gT (v := .str ("top" : Str)) ⟨_, rfl⟩) (pa_cons (pv 6) pa_nil))) (fun _ _ => rfl))) pa_nil))))), ?_⟩
    refine ⟨_, rfl, _, rfl, _, rfl, _, rfl, t, wd, rs, es, d, rfl, ht, hd, hok, hl, fun ho D H1 hD s1 e1 => ?_, fun x y hxy e H1 he s1 e1 => hE x y hxy e H1 he s1 e1⟩
    have hok2 := topE_ok hok hl d
    have ht1 := ht.same s1
    refine ⟨t, D, rs, topE d es, rfl, ht1, e1, hok2, fun Tq A_ B_ H2 s2 eT tA tB => ?_⟩
    refine ⟨Tq, _, rfl, sqT eT, rfl, _, _, rfl, _, _, rfl, rfl, ?_⟩
    refine ⟨_, rfl, (by show 2 ≤ sizeLine; decide), fun a1 ha1 => ?_⟩
    have s3 : Same H2 (upd H2 a1 (.tup [V.str ("top" : Str), V.bl false])) := Same.new ha1
    refine (tA.same s3).get topm upd_same ?_
    generalize upd H2 a1 (.tup [V.str ("top" : Str), V.bl false]) = H3 at s3
    refine ⟨_, rfl, (by show 2 ≤ sizeLine; decide), fun a2 ha2 => ?_⟩
    have s4 : Same H3 (upd H3 a2 (.tup [V.str ("top" : Str), V.bl true])) := Same.new ha2
    refine (tA.same (s3.trans s4)).get topm upd_same ?_
    have s24 := s3.trans s4
    generalize upd H3 a2 (.tup [V.str ("top" : Str), V.bl true]) = H4 at s24
    refine ⟨_, _, rfl, ?_⟩
    rw [min_if]
    have S4 := s1.trans (s2.trans s24)
    have tA4 := tA.same s24
    have tB4 := tB.same s24
    refine ⟨U.A, rfl, ⟨_, U.t _⟩, fun F hF => ?_⟩
    have hq2 := hq ho
    generalize hee : topE d es = ee at tA4 tB4 hq2
    refine lc_it (walk_tup (K := K) (a := U.A) (xs := [V.bl false, V.bl true])) (fun j H' => Same H4 H' ∧ H' F = some (.lst (((([false, true].take j).filter fun b => decide (tabF rs ee "top" b = cheapI rs ee)).map fun b => numF rs ee "top" b).map V.int))) ⟨Same.new hF, upd_same⟩ (fun j H' _ m => U.t _) ?_ ?_
    · rintro j x H5x H5 hj ⟨s5, e5⟩ ⟨rfl, hx⟩
      obtain ⟨b, rfl, hb⟩ : ∃ b, x = V.bl b ∧ ([false, true] : List Bool)[j]? = some b := by
        match j, hx with
        | 0, hx => cases hx; exact ⟨_, rfl, rfl⟩
        | 1, hx => cases hx; exact ⟨_, rfl, rfl⟩
      have lt : ((([false, true].take j).filter fun b => decide (tabF rs ee "top" b = cheapI rs ee)).map fun b => numF rs ee "top" b).length ≤ 2 := by
        rw [List.length_map]
        refine Nat.le_trans (List.length_filter_le _ _) ?_
        rw [List.length_take]
        exact Nat.min_le_right _ _
      refine ⟨rfl, _, rfl, _, rfl, (by show 2 ≤ sizeLine; decide), fun q hq' => ?_⟩
      have s6 : Same H5 (upd H5 q (.tup [V.str ("top" : Str), V.bl b])) := Same.new hq'
      refine (tA4.same (s5.trans s6)).get topm upd_same ?_
      have e6 := s6 _ _ e5
      generalize upd H5 q (.tup [V.str ("top" : Str), V.bl b]) = H6 at s6 e6
      refine ⟨_, rfl, rfl, _, rfl, ?_⟩
      have ei : decide (V.int (tabF rs ee "top" b) = V.int (min (tabF rs ee "top" false) (tabF rs ee "top" true))) = decide (tabF rs ee "top" b = cheapI rs ee) := by
        unfold cheapI
        by_cases k : tabF rs ee "top" b = min (tabF rs ee "top" false) (tabF rs ee "top" true)
        · rw [k]; simp
        · rw [decide_eq_false k, decide_eq_false fun e => k (V.int.inj e)]
      rw [ei, filt_moreL hb, List.map_append, List.map_append]
      refine ite2 (fun hc => ?_) (fun hc => ?_)
      · rw [if_pos hc]
        refine ⟨_, rfl, _, rfl, (by show 2 ≤ sizeLine; decide), fun q2 hq2' => ?_⟩
        have s7 : Same H6 (upd H6 q2 (.tup [V.str ("top" : Str), V.bl b])) := Same.new hq2'
        refine (tB4.same (s5.trans (s6.trans s7))).get topm upd_same ?_
        have e7 := s7 _ _ e6
        generalize upd H6 q2 (.tup [V.str ("top" : Str), V.bl b]) = H7 at s7 e7
        refine ⟨_, e7, small1000 (by rw [List.length_map]; omega), fun o ob eb => ?_, by rw [upd_same]; rfl⟩
        rw [upd_ne (ne_of_none eb hF)]; exact (s6.trans s7) _ _ (s5 _ _ eb)
      · rw [if_neg hc, List.map_nil, List.map_nil, List.append_nil]
        exact ⟨s5.trans s6, e6⟩
    rintro H5 ⟨s5, e5⟩
    refine ⟨F, _, rfl, SqL.of e5, ?_⟩
    exact hq2 H5 (S4.trans s5)
end
end Ts

set_option maxRecDepth 100000
set_option maxHeartbeats 4000000
namespace Ts
open PySem L2
/-! ### chains: each box within the one ahead -/
def ChainP : Str → List Row → Prop
  | _, [] => True
  | fo, r :: l => r.fo = fo ∧ (∃ p, r.pr = some p) ∧ ChainP r.nm l
def leastC : List Row → Int
  | [] => 0
  | [r] => prI r
  | r :: q :: l => min (prI r) (leastC (q :: l))
def lastN : List Row → Str
  | [] => "top"
  | [r] => r.nm
  | _ :: q :: l => lastN (q :: l)
def bestC (ch : List Row) : List Str := (ch.filter fun r => decide (prI r = leastC ch)).map (·.nm)
def cntC (ch : List Row) : Int := ((bestC ch).length : Nat)
/-- what a chain needs of the ends -/
structure ChE (rs : List Row) (es : Wsh) (w : Bool) (fo : Str) (ch : List Row) : Prop where
  ne : ch ≠ []
  cp : ChainP fo ch
  sub : ∀ r ∈ ch, r ∈ rs
  nd : (ch.map (·.nm)).Nodup
  nfo : fo ∉ ch.map (·.nm)
  last : endO es (lastN ch) = some w
  mid : ∀ z ∈ ch.map (·.nm), z ≠ lastN ch → endO es z = none
theorem last_mem : ∀ {ch : List Row}, ch ≠ [] → lastN ch ∈ ch.map (·.nm)
  | [], h => absurd rfl h
  | [r], _ => by simp [lastN]
  | r :: q :: l, _ => List.mem_cons_of_mem _ (last_mem (ch := q :: l) (by simp))
theorem ChE.tail {rs : List Row} {es : Wsh} {w : Bool} {fo : Str} {r q : Row} {l : List Row} (h : ChE rs es w fo (r :: q :: l)) : ChE rs es w r.nm (q :: l) := by
  have nd := h.nd
  rw [List.map_cons, List.nodup_cons] at nd
  exact ⟨by simp, h.cp.2.2, fun x hx => h.sub x (List.mem_cons_of_mem _ hx), nd.2, nd.1, h.last, fun z hz n => h.mid z (List.mem_cons_of_mem _ hz) n⟩
theorem step_open {rs : List Row} {r : Row} {p : Int} (h : r.pr = some p) : stepR rs r = prI r := by
  unfold stepR prI
  rw [h]; rfl
theorem prI_pos {rs : List Row} (hv : Valid rs) {r : Row} (hr : r ∈ rs) {p : Int} (h : r.pr = some p) : 1 ≤ prI r := by
  obtain ⟨i, hi, e⟩ := List.mem_iff_getElem.mp hr
  have h2 := (hv i r (by rw [← e]; exact List.getElem?_eq_getElem hi)).price
  rw [h] at h2
  have h2 : 1 ≤ p := h2
  unfold prI
  rw [h]; exact h2
theorem prI_end {rs : List Row} (hv : Valid rs) {r : Row} (hr : r ∈ rs) : prI r < endlessI rs := by
  have := sum_mem (l := rs) (f := prI) (fun x hx => hv.prI hx) hr
  unfold endlessI allI
  omega
theorem least_mem : ∀ {ch : List Row}, ch ≠ [] → ∃ r ∈ ch, prI r = leastC ch
  | [], h => absurd rfl h
  | [r], _ => ⟨r, by simp, rfl⟩
  | r :: q :: l, _ => by
    obtain ⟨x, hx, e⟩ := least_mem (ch := q :: l) (by simp)
    by_cases c : prI r ≤ leastC (q :: l)
    · exact ⟨r, by simp, by show _ = min _ _; omega⟩
    · exact ⟨x, List.mem_cons_of_mem _ hx, by rw [e]; show _ = min _ _; omega⟩
theorem least_le : ∀ {ch : List Row}, ∀ r ∈ ch, leastC ch ≤ prI r
  | [], _, h => by cases h
  | [r], x, h => by rw [List.mem_singleton.mp h]; exact Int.le_refl _
  | r :: q :: l, x, h => by
    show min _ _ ≤ _
    rcases List.mem_cons.mp h with rfl | h
    · omega
    · have := least_le x h
      omega
theorem least_pos {rs : List Row} (hv : Valid rs) {es : Wsh} {w : Bool} {fo : Str} {ch : List Row} (h : ChE rs es w fo ch) : 1 ≤ leastC ch := by
  obtain ⟨r, hr, e⟩ := least_mem h.ne
  rw [← e]
  have key : ∀ (l : List Row) (f : Str), ChainP f l → ∀ x ∈ l, ∃ p, x.pr = some p := by
    intro l
    induction l with
    | nil => intro f _ x hx; cases hx
    | cons a l ih =>
      intro f hc x hx
      rcases List.mem_cons.mp hx with rfl | hx
      · exact hc.2.1
      · exact ih _ hc.2.2 x hx
  obtain ⟨p, hp⟩ := key ch fo h.cp r hr
  exact prI_pos hv (h.sub r hr) hp
theorem least_end {rs : List Row} (hv : Valid rs) {es : Wsh} {w : Bool} {fo : Str} {ch : List Row} (h : ChE rs es w fo ch) : leastC ch < endlessI rs := by
  obtain ⟨r, hr, e⟩ := least_mem h.ne
  rw [← e]
  exact prI_end hv (h.sub r hr)
/-! ### what the table has of a chain -/
def dC (w : Bool) (ch : List Row) (b : Bool) : Int := if b = w then 0 else leastC ch
def mC (w : Bool) (ch : List Row) (b : Bool) : Int := if b = w then 1 else cntC ch
theorem tab_bare {rs : List Row} {es : Wsh} {z : Str} {b : Bool} : ∀ {suf : List Row}, (∀ q ∈ suf, q.fo ≠ z) → tabT rs es suf z b = pen rs es z b
  | [], _ => rfl
  | r :: suf, h => by
    show stepT rs r (tabT rs es suf) z b = _
    unfold stepT
    rw [if_neg fun e => h r (List.mem_cons_self ..) e.symm, tab_bare fun q hq => h q (List.mem_cons_of_mem _ hq)]
theorem num_bare {rs : List Row} {es : Wsh} {z : Str} {b : Bool} : ∀ {suf : List Row}, (∀ q ∈ suf, q.fo ≠ z) → numT rs es suf z b = 1
  | [], _ => rfl
  | r :: suf, h => by
    show stepN rs r (tabT rs es suf) (numT rs es suf) z b = _
    unfold stepN
    rw [if_neg fun e => h r (List.mem_cons_self ..) e.symm, num_bare fun q hq => h q (List.mem_cons_of_mem _ hq)]
theorem pen_none {rs : List Row} {es : Wsh} {z : Str} (h : endO es z = none) (b : Bool) : pen rs es z b = 0 := by
  unfold pen; rw [h]; exact if_neg nofun
theorem pen_some {rs : List Row} {es : Wsh} {z : Str} {w : Bool} (h : endO es z = some w) (b : Bool) : pen rs es z b = if b = w then 0 else endlessI rs := by
  unfold pen; rw [h]
  cases b <;> cases w <;> simp
theorem best_cons {r q : Row} {l : List Row} : bestC (r :: q :: l) = (if prI r ≤ leastC (q :: l) then [r.nm] else []) ++ (if leastC (q :: l) ≤ prI r then bestC (q :: l) else []) := by
  have el : leastC (r :: q :: l) = min (prI r) (leastC (q :: l)) := rfl
  unfold bestC
  rw [el]
  generalize hL : leastC (q :: l) = L
  have hle : ∀ x ∈ q :: l, L ≤ prI x := fun x hx => by rw [← hL]; exact least_le x hx
  have tail : (List.filter (fun x => decide (prI x = min (prI r) L)) (q :: l)) = if L ≤ prI r then (List.filter (fun x => decide (prI x = L)) (q :: l)) else [] := by
    by_cases c : L ≤ prI r
    · rw [if_pos c, show min (prI r) L = L by omega]
    · rw [if_neg c]
      refine List.filter_eq_nil_iff.mpr fun x hx => ?_
      have := hle x hx
      simp only [decide_eq_true_eq]
      omega
  rw [List.filter_cons, tail]
  by_cases c : prI r ≤ L
  · have e1 : prI r = min (prI r) L := by omega
    rw [if_pos (by exact decide_eq_true e1), if_pos c]
    split <;> rfl
  · have e1 : ¬ prI r = min (prI r) L := by omega
    rw [if_neg (by simp only [decide_eq_true_eq]; exact e1), if_neg c]
    split <;> rfl
theorem cnt_cons {r q : Row} {l : List Row} : cntC (r :: q :: l) = (if prI r ≤ leastC (q :: l) then 1 else 0) + (if leastC (q :: l) ≤ prI r then cntC (q :: l) else 0) := by
  unfold cntC
  rw [best_cons, List.length_append]
  split <;> split <;> simp
theorem cntC_one {r : Row} : cntC [r] = 1 := by
  unfold cntC bestC leastC
  simp
theorem chain_at {rs : List Row} (hv : Valid rs) {es : Wsh} {w : Bool} {suf : List Row} : ∀ {ch : List Row} {fo : Str}, ChE rs es w fo ch → (∀ q ∈ suf, q.fo ∉ ch.map (·.nm)) → ∀ y, y ∉ ch.map (·.nm) → ∀ b,
    tabT rs es (ch ++ suf) y b = tabT rs es suf y b + (if y = fo then dC w ch b else 0) ∧ numT rs es (ch ++ suf) y b = numT rs es suf y b * (if y = fo then mC w ch b else 1)
  | [], fo, h, _, _, _, _ => absurd rfl h.ne
  | [r], fo, h, hs, y, hy, b => by
    obtain ⟨p, hp⟩ := h.cp.2.1
    have hr := h.sub r (by simp)
    have e1 := step_open (rs := rs) hp
    have p1 := prI_pos hv hr hp
    have p2 := prI_end hv hr
    have ef : r.fo = fo := h.cp.1
    have el : endO es r.nm = some w := h.last
    have nb : ∀ q ∈ suf, q.fo ≠ r.nm := fun q hq e => hs q hq (by simp [e])
    have t1 := fun c => (tab_bare (rs := rs) (es := es) (b := c) nb).trans (pen_some el c)
    have n1 := fun c => num_bare (rs := rs) (es := es) (b := c) nb
    show stepT rs r (tabT rs es suf) y b = _ ∧ stepN rs r (tabT rs es suf) (numT rs es suf) y b = _
    unfold stepT stepN manyI leastI
    rw [ef]
    by_cases c : y = fo
    · simp only [if_pos c, t1, n1, e1]
      unfold dC mC leastC
      rw [cntC_one]
      cases b <;> cases w <;> simp <;> (constructor <;> (try congr 1) <;> (repeat' split) <;> omega)
    · simp only [if_neg c]
      exact ⟨by omega, by omega⟩
  | r :: q :: l, fo, h, hs, y, hy, b => by
    have ht := h.tail
    obtain ⟨p, hp⟩ := h.cp.2.1
    have hr := h.sub r (by simp)
    have e1 := step_open (rs := rs) hp
    have p1 := prI_pos hv hr hp
    have p2 := prI_end hv hr
    have l1 := least_pos hv ht
    have ef : r.fo = fo := h.cp.1
    have nrl : r.nm ≠ lastN (r :: q :: l) := fun e => ht.nfo (by rw [e]; exact last_mem (ch := q :: l) (by simp))
    have en := h.mid r.nm (by simp) nrl
    have nb : ∀ x ∈ suf, x.fo ≠ r.nm := fun x hx e => hs x hx (by simp [e])
    have hs' : ∀ x ∈ suf, x.fo ∉ (q :: l).map (·.nm) := fun x hx e => hs x hx (List.mem_cons_of_mem _ e)
    have hy' : y ∉ (q :: l).map (·.nm) := fun e => hy (List.mem_cons_of_mem _ e)
    have yr : y ≠ r.nm := fun e => hy (by simp [e])
    obtain ⟨i1, i2⟩ := chain_at hv ht hs' y hy' b
    rw [if_neg yr, Int.add_zero] at i1
    rw [if_neg yr, Int.mul_one] at i2
    have ir := fun c => chain_at hv ht hs' r.nm ht.nfo c
    have t1 : ∀ c, tabT rs es (q :: l ++ suf) r.nm c = dC w (q :: l) c := fun c => by
      rw [(ir c).1, tab_bare nb, pen_none en, if_pos rfl, Int.zero_add]
    have n1 : ∀ c, numT rs es (q :: l ++ suf) r.nm c = mC w (q :: l) c := fun c => by
      rw [(ir c).2, num_bare nb, if_pos rfl, Int.one_mul]
    show stepT rs r (tabT rs es (q :: l ++ suf)) y b = _ ∧ stepN rs r (tabT rs es (q :: l ++ suf)) (numT rs es (q :: l ++ suf)) y b = _
    unfold stepT stepN manyI leastI
    rw [ef]
    by_cases c : y = fo
    · simp only [if_pos c, t1, n1, e1, i1, i2]
      have em : mC w (r :: q :: l) b = if b = w then 1 else (if prI r ≤ leastC (q :: l) then 1 else 0) + (if leastC (q :: l) ≤ prI r then cntC (q :: l) else 0) := by unfold mC; rw [cnt_cons]
      have ed : dC w (r :: q :: l) b = if b = w then 0 else min (prI r) (leastC (q :: l)) := rfl
      rw [em, ed]
      unfold dC mC
      generalize cntC (q :: l) = CN
      generalize tabT rs es suf y = TT
      generalize numT rs es suf y = NN
      refine ⟨?_, congrArg (NN b * ·) ?_⟩
      · cases b <;> cases w <;> simp <;> omega
      · cases b <;> cases w <;> simp <;> (repeat' split) <;> omega
    · simp only [if_neg c, i1, i2]
      exact ⟨by omega, by omega⟩
end Ts

set_option maxRecDepth 100000
set_option maxHeartbeats 4000000
namespace Ts
open PySem L2
/-! ### chains side by side -/
theorem chain_fo : ∀ {l : List Row} {fo : Str}, ChainP fo l → ∀ q ∈ l, q.fo = fo ∨ q.fo ∈ l.map (·.nm)
  | [], _, _, q, hq => by cases hq
  | r :: l, fo, h, q, hq => by
    rcases List.mem_cons.mp hq with rfl | hq
    · exact .inl h.1
    · rcases chain_fo h.2.2 q hq with e | e
      · exact .inr (by rw [e]; exact List.mem_cons_self ..)
      · exact .inr (List.mem_cons_of_mem _ e)
def sumI (l : List Int) : Int := l.sum
def proI (l : List Int) : Int := l.foldr (· * ·) 1
def firstB (ch : List Row) : Str := (bestC ch).headD "top"
def lastB (ch : List Row) : Str := (bestC ch).getLastD "top"
structure ChAll (rs : List Row) (es : Wsh) (w : Bool) (chs : List (List Row)) : Prop where
  each : ∀ ch ∈ chs, ChE rs es w "top" ch
  nd : (chs.flatten.map (·.nm)).Nodup
theorem ChAll.head {rs : List Row} {es : Wsh} {w : Bool} {ch : List Row} {chs : List (List Row)} (h : ChAll rs es w (ch :: chs)) : ∀ q ∈ chs.flatten, q.fo ∉ ch.map (·.nm) := fun q hq e => by
  have nd := h.nd
  rw [List.flatten_cons, List.map_append, List.nodup_append] at nd
  obtain ⟨c2, hc2, hq2⟩ := List.mem_flatten.mp hq
  have h2 := h.each c2 (List.mem_cons_of_mem _ hc2)
  rcases chain_fo h2.cp q hq2 with k | k
  · exact (h.each ch (List.mem_cons_self ..)).nfo (by rw [← k]; exact e)
  · refine nd.2.2 _ e _ ?_ rfl
    obtain ⟨x, hx, ex⟩ := List.mem_map.mp k
    exact List.mem_map.mpr ⟨x, List.mem_flatten.mpr ⟨c2, hc2, hx⟩, ex⟩
theorem ChAll.tail {rs : List Row} {es : Wsh} {w : Bool} {ch : List Row} {chs : List (List Row)} (h : ChAll rs es w (ch :: chs)) : ChAll rs es w chs := by
  have nd := h.nd
  rw [List.flatten_cons, List.map_append, List.nodup_append] at nd
  exact ⟨fun c hc => h.each c (List.mem_cons_of_mem _ hc), nd.2.1⟩
theorem many_at {rs : List Row} (hv : Valid rs) {es : Wsh} {w : Bool} : ∀ {chs : List (List Row)}, ChAll rs es w chs → ∀ b,
    tabT rs es chs.flatten "top" b = pen rs es "top" b + (chs.map fun ch => dC w ch b).sum ∧ numT rs es chs.flatten "top" b = proI (chs.map fun ch => mC w ch b)
  | [], _, b => ⟨by show pen rs es "top" b = _ + 0; omega, rfl⟩
  | ch :: chs, h, b => by
    obtain ⟨i1, i2⟩ := many_at hv h.tail b
    obtain ⟨k1, k2⟩ := chain_at hv (h.each ch (List.mem_cons_self ..)) h.head "top" (h.each ch (List.mem_cons_self ..)).nfo b
    rw [List.flatten_cons, k1, k2, i1, i2, if_pos rfl, if_pos rfl]
    refine ⟨?_, ?_⟩
    · show _ = _ + (dC w ch b + (chs.map fun ch => dC w ch b).sum)
      omega
    · show proI _ * mC w ch b = mC w ch b * proI _
      exact Int.mul_comm _ _
theorem zeros : ∀ {α : Type} (l : List α), (l.map fun _ => (0 : Int)).sum = 0
  | _, [] => rfl
  | _, a :: l => by rw [List.map_cons, List.sum_cons, zeros l]; rfl
theorem all_ones : ∀ {α : Type} (l : List α), proI (l.map fun _ => (1 : Int)) = 1
  | _, [] => rfl
  | _, a :: l => by show 1 * proI (l.map fun _ => 1) = 1; rw [all_ones l]; rfl
/-- no step is locked -/
def OpenR (rs : List Row) : Prop := ∀ r ∈ rs, ∃ p, r.pr = some p
theorem open_lock {rs : List Row} (hv : Valid rs) (ho : OpenR rs) {z : Str} (hz : z ∈ plc rs) : lockR rs z = z := by
  rcases mem_plc.mp hz with rfl | hz
  · exact lockR_top hv
  · obtain ⟨r, hr, rfl⟩ := List.mem_map.mp hz
    obtain ⟨p, hp⟩ := ho r hr
    rw [lockR_row hv hr, hp, if_neg nofun]
theorem open_ends {rs : List Row} (hv : Valid rs) (ho : OpenR rs) {es : Wsh} (ok : EndsOk rs es) : OpenE rs es := fun e he e' he' h => by
  rw [open_lock hv ho (ok.inp e he), open_lock hv ho (ok.inp e' he')] at h
  have h1 := endO_mem ok.nd he
  have h2 := endO_mem ok.nd he'
  rw [h] at h1
  rw [h1] at h2
  exact Option.some.inj h2
def sumL (chs : List (List Row)) : Int := (chs.map leastC).sum
def proC (chs : List (List Row)) : Int := proI (chs.map cntC)
structure Chains (rs : List Row) (es : Wsh) (w : Bool) (chs : List (List Row)) : Prop where
  val : Valid rs
  eq : rs = chs.flatten
  all : ChAll rs es w chs
  op : OpenR rs
  ok : EndsOk rs es
  top : endO es "top" = some (!w)
theorem Chains.tab {rs : List Row} {es : Wsh} {w : Bool} {chs : List (List Row)} (h : Chains rs es w chs) : tabF rs es "top" (!w) = sumL chs ∧ tabF rs es "top" w = endlessI rs ∧ numF rs es "top" (!w) = proC chs := by
  have a := fun b => many_at h.val h.all b
  have e1 := fun b => (show tabF rs es "top" b = tabT rs es chs.flatten "top" b by unfold tabF; rw [← h.eq])
  have e2 := fun b => (show numF rs es "top" b = numT rs es chs.flatten "top" b by unfold numF; rw [← h.eq])
  have nw : (!w) ≠ w := by cases w <;> decide
  have nw' : w ≠ (!w) := by cases w <;> decide
  have d1 : (fun ch => dC w ch (!w)) = leastC := by funext ch; unfold dC; rw [if_neg nw]
  have d2 : (fun ch => dC w ch w) = fun _ => 0 := by funext ch; unfold dC; rw [if_pos rfl]
  have m1 : (fun ch => mC w ch (!w)) = cntC := by funext ch; unfold mC; rw [if_neg nw]
  refine ⟨?_, ?_, ?_⟩
  · rw [e1, (a _).1, pen_some h.top, if_pos rfl, d1, Int.zero_add]; rfl
  · rw [e1, (a _).1, pen_some h.top, if_neg nw', d2, zeros, Int.add_zero]
  · rw [e2, (a _).2, m1]; rfl
theorem Chains.openE {rs : List Row} {es : Wsh} {w : Bool} {chs : List (List Row)} (h : Chains rs es w chs) : OpenE rs es := open_ends h.val h.op h.ok
theorem Chains.cheap {rs : List Row} {es : Wsh} {w : Bool} {chs : List (List Row)} (h : Chains rs es w chs) : cheapI rs es = sumL chs ∧ sumL chs < endlessI rs := by
  have hs := cheap_small h.val h.ok h.openE
  obtain ⟨t1, t2, _⟩ := h.tab
  unfold cheapI at hs ⊢
  have hh : min (tabF rs es "top" false) (tabF rs es "top" true) = min (sumL chs) (endlessI rs) := by
    cases w
    · have t1 : tabF rs es "top" true = _ := t1
      rw [t1, t2]; omega
    · have t1 : tabF rs es "top" false = _ := t1
      rw [t1, t2]
  rw [hh] at hs ⊢
  omega
theorem Chains.how {rs : List Row} {es : Wsh} {w : Bool} {chs : List (List Row)} (h : Chains rs es w chs) : howI rs es = proC chs := by
  obtain ⟨t1, t2, t3⟩ := h.tab
  obtain ⟨c1, c2⟩ := h.cheap
  unfold howI
  rw [c1]
  have nn : ¬ endlessI rs = sumL chs := by omega
  cases w
  · have t1 : tabF rs es "top" true = _ := t1
    have t3 : numF rs es "top" true = _ := t3
    rw [List.filter_cons_of_neg (by rw [t2]; simp only [decide_eq_true_eq]; exact nn), List.filter_cons_of_pos (by rw [t1]; exact decide_eq_true rfl)]
    show numF rs es "top" true + 0 = _
    rw [t3]; omega
  · have t1 : tabF rs es "top" false = _ := t1
    have t3 : numF rs es "top" false = _ := t3
    rw [List.filter_cons_of_pos (by rw [t1]; exact decide_eq_true rfl), List.filter_cons_of_neg (by rw [t2]; simp only [decide_eq_true_eq]; exact nn)]
    show numF rs es "top" false + 0 = _
    rw [t3]; omega
/-! ### the favoured ones -/
theorem fav_box {rs : List Row} (hv : Valid rs) {es : Wsh} {w : Bool} {suf : List Row} {r : Row} {l pre : List Row} {fo : Str} (h : ChE rs es w fo (r :: l)) (e : rs = pre ++ (r :: l ++ suf)) (hs : ∀ q ∈ suf, q.fo ∉ (r :: l).map (·.nm)) (fav : Bool) :
    favV rs (tabF rs es) fav r.nm = if favV rs (tabF rs es) fav fo = w then w else if l = [] ∨ (fav = w ∧ prI r ≤ leastC l) ∨ (fav ≠ w ∧ prI r < leastC l) then w else !w := by
  have hr := h.sub r (by simp)
  obtain ⟨p, hp⟩ := h.cp.2.1
  have e1 := step_open (rs := rs) hp
  have p1 := prI_pos hv hr hp
  have p2 := prI_end hv hr
  have ef : r.fo = fo := h.cp.1
  rw [favV_row hv _ _ hr, ef]
  generalize favV rs (tabF rs es) fav fo = v
  have fx := fun b => tab_fix hv es (pre := pre) (suf := l ++ suf) (r := r) e b
  have nb : ∀ x ∈ suf, x.fo ≠ r.nm := fun x hx e => hs x hx (by simp [e])
  unfold pickV
  rw [stepI_row hv hr, e1, ← fx, ← fx]
  cases l with
  | nil =>
    have el : endO es r.nm = some w := h.last
    have t1 := fun c => (tab_bare (rs := rs) (es := es) (b := c) nb).trans (pen_some el c)
    rw [List.nil_append, t1, t1]
    cases v <;> cases w <;> cases fav <;> simp <;> omega
  | cons q l =>
    have ht := h.tail
    have l1 := least_pos hv ht
    have nrl : r.nm ≠ lastN (r :: q :: l) := fun e => ht.nfo (by rw [e]; exact last_mem (ch := q :: l) (by simp))
    have en := h.mid r.nm (by simp) nrl
    have hs' : ∀ x ∈ suf, x.fo ∉ (q :: l).map (·.nm) := fun x hx e => hs x hx (List.mem_cons_of_mem _ e)
    have t1 : ∀ c, tabT rs es (q :: l ++ suf) r.nm c = dC w (q :: l) c := fun c => by
      rw [(chain_at hv ht hs' r.nm ht.nfo c).1, tab_bare nb, pen_none en, if_pos rfl, Int.zero_add]
    rw [t1, t1]
    unfold dC
    have ne : (q :: l) ≠ [] := by simp
    cases v <;> cases w <;> cases fav <;> simp <;> first | omega | (by_cases c : leastC (q :: l) ≤ prI r <;> simp [c] <;> omega)
theorem fav_chain {rs : List Row} (hv : Valid rs) {es : Wsh} {w : Bool} {suf : List Row} (fav : Bool) : ∀ {ch pre : List Row} {fo : Str}, ChE rs es w fo ch → rs = pre ++ (ch ++ suf) → (∀ q ∈ suf, q.fo ∉ ch.map (·.nm)) →
    (ch.filter fun r => decide (favV rs (tabF rs es) fav r.nm ≠ favV rs (tabF rs es) fav r.fo)).map (·.nm) = if favV rs (tabF rs es) fav fo = w then [] else [if fav = w then firstB ch else lastB ch]
  | [], _, _, h, _, _ => absurd rfl h.ne
  | [r], pre, fo, h, e, hs => by
    have hb := fav_box hv h e hs fav
    have ef : r.fo = fo := h.cp.1
    have b1 : bestC [r] = [r.nm] := by unfold bestC leastC; simp
    rw [if_pos (Or.inl rfl)] at hb
    rw [List.filter_cons, List.filter_nil, ef, hb]
    unfold firstB lastB
    rw [b1]
    generalize favV rs (tabF rs es) fav fo = v
    cases v <;> cases w <;> cases fav <;> simp
  | r :: q :: l, pre, fo, h, e, hs => by
    have hb := fav_box hv h e hs fav
    have ih := fav_chain hv fav (ch := q :: l) (pre := pre ++ [r]) (fo := r.nm) h.tail (by rw [List.append_assoc]; exact e) fun x hx k => hs x hx (List.mem_cons_of_mem _ k)
    have ef : r.fo = fo := h.cp.1
    have bn : bestC (q :: l) ≠ [] := fun k => by
      obtain ⟨x, hx, ex⟩ := least_mem h.tail.ne
      have : x.nm ∈ bestC (q :: l) := List.mem_map.mpr ⟨x, List.mem_filter.mpr ⟨hx, decide_eq_true ex⟩, rfl⟩
      rw [k] at this; cases this
    rw [List.filter_cons, ef]
    have ih2 : ∀ b : Bool, ((if b = true then r :: List.filter (fun r => decide (favV rs (tabF rs es) fav r.nm ≠ favV rs (tabF rs es) fav r.fo)) (q :: l) else List.filter (fun r => decide (favV rs (tabF rs es) fav r.nm ≠ favV rs (tabF rs es) fav r.fo)) (q :: l)).map (·.nm)) = (if b = true then [r.nm] else []) ++ (if favV rs (tabF rs es) fav r.nm = w then [] else [if fav = w then firstB (q :: l) else lastB (q :: l)]) := fun b => by
      cases b
      · exact ih
      · show r.nm :: _ = r.nm :: _
        rw [← ih]; rfl
    rw [ih2, hb]
    have eF : firstB (r :: q :: l) = if prI r ≤ leastC (q :: l) then r.nm else firstB (q :: l) := by
      unfold firstB
      rw [best_cons]
      by_cases c : prI r ≤ leastC (q :: l)
      · rw [if_pos c, if_pos c]; rfl
      · rw [if_neg c, if_neg c, if_pos (by omega), List.nil_append]
    have eL : lastB (r :: q :: l) = if prI r < leastC (q :: l) then r.nm else lastB (q :: l) := by
      unfold lastB
      rw [best_cons]
      by_cases c : prI r < leastC (q :: l)
      · rw [if_pos c, if_pos (by omega), if_neg (by omega)]; rfl
      · rw [if_neg c, if_pos (show leastC (q :: l) ≤ prI r by omega)]
        cases hbq : bestC (q :: l) with
        | nil => exact absurd hbq bn
        | cons a m => split <;> simp [List.getLastD]
    rw [eF, eL]
    generalize favV rs (tabF rs es) fav fo = v
    have ne : (q :: l) ≠ [] := by simp
    generalize leastC (q :: l) = L
    by_cases c1 : prI r ≤ L
    · by_cases c2 : prI r < L
      · cases v <;> cases w <;> cases fav <;> simp [c1, c2]
      · cases v <;> cases w <;> cases fav <;> simp [c1, c2]
    · have c2 : ¬ prI r < L := by omega
      cases v <;> cases w <;> cases fav <;> simp [c1, c2]
theorem fav_many {rs : List Row} (hv : Valid rs) {es : Wsh} {w : Bool} (fav : Bool) (ht : favV rs (tabF rs es) fav "top" = !w) : ∀ {chs : List (List Row)} {pre : List Row}, ChAll rs es w chs → rs = pre ++ chs.flatten →
    (chs.flatten.filter fun r => decide (favV rs (tabF rs es) fav r.nm ≠ favV rs (tabF rs es) fav r.fo)).map (·.nm) = chs.map fun ch => if fav = w then firstB ch else lastB ch
  | [], _, _, _ => rfl
  | ch :: chs, pre, h, e => by
    have ih := fav_many hv fav ht (chs := chs) (pre := pre ++ ch) h.tail (by rw [e, List.flatten_cons, List.append_assoc])
    have k := fav_chain hv fav (suf := chs.flatten) (h.each ch (List.mem_cons_self ..)) (by rw [e, List.flatten_cons]) h.head
    rw [List.flatten_cons, List.filter_append, List.map_append, ih, k, ht, if_neg (by cases w <;> decide)]; rfl
theorem Chains.turns {rs : List Row} {es : Wsh} {w : Bool} {chs : List (List Row)} (h : Chains rs es w chs) (fav : Bool) : turnsG rs (favV rs (tabF rs es) fav) = chs.map fun ch => if fav = w then firstB ch else lastB ch := by
  obtain ⟨t1, t2, _⟩ := h.tab
  obtain ⟨_, c2⟩ := h.cheap
  have ht : favV rs (tabF rs es) fav "top" = !w := by
    rw [favV_top h.val]
    cases w <;> cases fav <;> simp only [Bool.not_true, Bool.not_false] at t1 ⊢ <;> rw [t1, t2] <;> split <;> first | rfl | (exfalso; omega)
  have := fav_many h.val fav ht (pre := []) h.all h.eq
  unfold turnsG
  rw [← this, ← h.eq]
end Ts

set_option maxRecDepth 100000
set_option maxHeartbeats 4000000
namespace Ts
open PySem L2
/-! ### chains by their names -/
def foN (nf : Nat → Str) : Nat → Str
  | 0 => "top"
  | k + 1 => nf k
def folF (nf : Nat → Str) (f : Nat → Int) (n : Nat) : List Row := (List.range n).map fun k => ⟨nf k, foN nf k, "folder", some (f k)⟩
theorem folF_snoc (nf : Nat → Str) (f : Nat → Int) (n : Nat) : folF nf f (n + 1) = folF nf f n ++ [⟨nf n, foN nf n, "folder", some (f n)⟩] := by
  unfold folF
  rw [List.range_succ, List.map_append]; rfl
theorem folF_len (nf : Nat → Str) (f : Nat → Int) (n : Nat) : (folF nf f n).length = n := by unfold folF; rw [List.length_map, List.length_range]
theorem folF_nm (nf : Nat → Str) (f : Nat → Int) (n : Nat) : (folF nf f n).map (·.nm) = (List.range n).map nf := by unfold folF; rw [List.map_map]; rfl
structure ChS where
  nf : Nat → Str
  f : Nat → Int
  n : Nat
  it : Str
  p : Int
def ChS.item (s : ChS) : Row := ⟨s.it, foN s.nf s.n, "item", some s.p⟩
def ChS.rows (s : ChS) : List Row := folF s.nf s.f s.n ++ [s.item]
def ChS.nms (s : ChS) : List Str := (List.range s.n).map s.nf ++ [s.it]
def ChS.prs (s : ChS) : List Int := (List.range s.n).map s.f ++ [s.p]
theorem ChS.rows_nm (s : ChS) : s.rows.map (·.nm) = s.nms := by
  unfold ChS.rows ChS.nms
  rw [List.map_append, folF_nm]; rfl
theorem ChS.rows_pr (s : ChS) : s.rows.map prI = s.prs := by
  unfold ChS.rows ChS.prs folF
  rw [List.map_append, List.map_map]; rfl
theorem ChS.ne (s : ChS) : s.rows ≠ [] := by unfold ChS.rows; simp
def endN (fo : Str) : List Row → Str
  | [] => fo
  | r :: l => endN r.nm l
theorem endN_snoc : ∀ (fo : Str) (l : List Row) (r : Row), endN fo (l ++ [r]) = r.nm
  | _, [], _ => rfl
  | _, a :: l, r => endN_snoc a.nm l r
theorem chain_snoc : ∀ {fo : Str} {l : List Row} {r : Row}, ChainP fo l → r.fo = endN fo l → (∃ p, r.pr = some p) → ChainP fo (l ++ [r])
  | _, [], _, _, h2, h3 => ⟨h2, h3, trivial⟩
  | _, a :: l, r, h1, h2, h3 => ⟨h1.1, h1.2.1, chain_snoc h1.2.2 h2 h3⟩
theorem lastN_snoc : ∀ (l : List Row) (r : Row), lastN (l ++ [r]) = r.nm
  | [], _ => rfl
  | [a], _ => rfl
  | a :: b :: l, r => lastN_snoc (b :: l) r
theorem folF_end (nf : Nat → Str) (f : Nat → Int) : ∀ n, endN "top" (folF nf f n) = foN nf n
  | 0 => rfl
  | n + 1 => by rw [folF_snoc, endN_snoc]; rfl
theorem folF_chain (nf : Nat → Str) (f : Nat → Int) : ∀ n, ChainP "top" (folF nf f n)
  | 0 => trivial
  | n + 1 => by
    rw [folF_snoc]
    exact chain_snoc (folF_chain nf f n) (folF_end nf f n).symm ⟨_, rfl⟩
theorem ChS.chain (s : ChS) : ChainP "top" s.rows := chain_snoc (folF_chain _ _ _) (folF_end _ _ _).symm ⟨_, rfl⟩
theorem ChS.last (s : ChS) : lastN s.rows = s.it := lastN_snoc _ _
structure ChG (s : ChS) : Prop where
  f : ∀ k, k < s.n → 1 ≤ s.f k
  p : 1 ≤ s.p
def rowsC (L : List ChS) : List Row := (L.map ChS.rows).flatten
def nmsC (L : List ChS) : List Str := (L.map ChS.nms).flatten
theorem rowsC_nm (L : List ChS) : (rowsC L).map (·.nm) = nmsC L := by
  unfold rowsC nmsC
  rw [List.map_flatten, List.map_map]
  congr 1
  exact List.map_congr_left fun s _ => s.rows_nm
def NmsOk (l : List Str) : Prop := l.Nodup ∧ ∀ z ∈ l, NameShape z ∧ z ≠ ("top" : Str)
def nmsB (l : List Str) : Bool := decide l.Nodup && l.all fun z => ((z.length == 1 || z.length == 2 || z.length == 3 || z.length == 8 || z.length == 4) && z.cps.toList.all (fun c => decide (97 ≤ c) && decide (c ≤ 122))) && decide (z ≠ ("top" : Str))
theorem nms_ok {l : List Str} (h : nmsB l = true) : NmsOk l := by
  unfold nmsB at h
  rw [Bool.and_eq_true] at h
  refine ⟨of_decide_eq_true h.1, fun z hz => ?_⟩
  have h2 := List.all_eq_true.mp h.2 z hz
  simp only [Bool.and_eq_true, Bool.or_eq_true, beq_iff_eq, decide_eq_true_eq, List.all_eq_true] at h2
  refine ⟨⟨?_, fun c hc => h2.1.2 c hc⟩, h2.2⟩
  have := h2.1.1
  omega
theorem valid_fol {pre : List Row} (hv : Valid pre) {nf : Nat → Str} {f : Nat → Int} : ∀ {n : Nat}, (∀ k, k < n → 1 ≤ f k) → (∀ z ∈ (List.range n).map nf, NameShape z ∧ z ≠ ("top" : Str)) → (pre.map (·.nm) ++ (List.range n).map nf).Nodup → Valid (pre ++ folF nf f n)
  | 0, _, _, _ => by rw [show folF nf f 0 = [] from rfl, List.append_nil]; exact hv
  | n + 1, hf, hz, nd => by
    rw [List.range_succ, List.map_append, ← List.append_assoc] at nd
    have nd' := List.nodup_append.mp nd
    have ih := valid_fol hv (n := n) (fun k hk => hf k (by omega)) (fun z h => hz z (by rw [List.range_succ, List.map_append]; exact List.mem_append_left _ h)) nd'.1
    rw [folF_snoc, ← List.append_assoc]
    refine ih.snoc ?_
    have hn := hz (nf n) (by rw [List.range_succ, List.map_append]; exact List.mem_append_right _ (by simp))
    refine ⟨hn.1, hn.2, fun q => ?_, ?_, by show ("folder" : Str) ∈ kinds3; decide +kernel, hf n (by omega)⟩
    · rw [List.map_append, folF_nm] at q
      exact nd'.2.2 _ q _ (by simp) rfl
    · cases n with
      | zero => exact .inl rfl
      | succ m => exact .inr ⟨⟨nf m, foN nf m, "folder", some (f m)⟩, by rw [folF_snoc]; simp, rfl, rfl⟩
theorem valid_ch {pre : List Row} (hv : Valid pre) {s : ChS} (g : ChG s) (hz : ∀ z ∈ s.nms, NameShape z ∧ z ≠ ("top" : Str)) (nd : (pre.map (·.nm) ++ s.nms).Nodup) : Valid (pre ++ s.rows) := by
  unfold ChS.nms at nd hz
  rw [← List.append_assoc] at nd
  have nd' := List.nodup_append.mp nd
  have h1 := valid_fol hv g.f (fun z h => hz z (List.mem_append_left _ h)) nd'.1
  unfold ChS.rows
  rw [← List.append_assoc]
  refine h1.snoc ?_
  have hn := hz s.it (List.mem_append_right _ (by simp))
  refine ⟨hn.1, hn.2, fun q => ?_, ?_, by show ("item" : Str) ∈ kinds3; decide +kernel, g.p⟩
  · have q : s.it ∈ List.map (·.nm) (pre ++ folF s.nf s.f s.n) := q
    rw [List.map_append, folF_nm] at q
    exact nd'.2.2 _ q _ (by simp) rfl
  · show foN s.nf s.n = ("top" : Str) ∨ ∃ q ∈ pre ++ folF s.nf s.f s.n, q.nm = foN s.nf s.n ∧ q.ki = ("folder" : Str)
    cases h : s.n with
    | zero => exact .inl rfl
    | succ m => exact .inr ⟨⟨s.nf m, foN s.nf m, "folder", some (s.f m)⟩, by rw [folF_snoc]; simp, rfl, rfl⟩
theorem valid_all : ∀ {L : List ChS} {pre : List Row}, Valid pre → (∀ s ∈ L, ChG s) → (∀ z ∈ nmsC L, NameShape z ∧ z ≠ ("top" : Str)) → (pre.map (·.nm) ++ nmsC L).Nodup → Valid (pre ++ rowsC L)
  | [], pre, hv, _, _, _ => by show Valid (pre ++ []); rw [List.append_nil]; exact hv
  | s :: L, pre, hv, hg, hz, nd => by
    have e1 : nmsC (s :: L) = s.nms ++ nmsC L := rfl
    have e2 : rowsC (s :: L) = s.rows ++ rowsC L := rfl
    rw [e1] at hz nd
    rw [e2, ← List.append_assoc]
    rw [← List.append_assoc] at nd
    have nd' := List.nodup_append.mp nd
    refine valid_all (valid_ch hv (hg s (by simp)) (fun z h => hz z (List.mem_append_left _ h)) nd'.1) (fun t ht => hg t (List.mem_cons_of_mem _ ht)) (fun z h => hz z (List.mem_append_right _ h)) ?_
    rw [List.map_append, s.rows_nm]; exact nd
def endsC (w : Bool) (L : List ChS) : Wsh := ("top", !w) :: L.map fun s => (s.it, w)
theorem it_mem (s : ChS) : s.it ∈ s.nms := by unfold ChS.nms; simp
theorem its_sub : ∀ L : List ChS, (L.map ChS.it).Sublist (nmsC L)
  | [] => List.Sublist.slnil
  | s :: L => by
    have e1 : nmsC (s :: L) = s.nms ++ nmsC L := rfl
    rw [e1, List.map_cons]
    exact List.Sublist.append (l₁ := [s.it]) (List.singleton_sublist.mpr (it_mem s)) (its_sub L)
theorem mem_nms {L : List ChS} {s : ChS} (hs : s ∈ L) {z : Str} (hz : z ∈ s.nms) : z ∈ nmsC L := List.mem_flatten.mpr ⟨s.nms, List.mem_map.mpr ⟨s, hs, rfl⟩, hz⟩
theorem it_only : ∀ {L : List ChS}, (nmsC L).Nodup → ∀ {s : ChS}, s ∈ L → ∀ {z : Str}, z ∈ s.nms → z ∈ L.map ChS.it → z = s.it
  | [], _, _, h, _, _, _ => by cases h
  | a :: L, nd, s, hs, z, hz, hi => by
    have e1 : nmsC (a :: L) = a.nms ++ nmsC L := rfl
    rw [e1] at nd
    have nd' := List.nodup_append.mp nd
    rcases List.mem_cons.mp hs with rfl | hs
    · rcases List.mem_cons.mp hi with e | hi
      · exact e
      · exact absurd rfl (nd'.2.2 _ hz _ ((its_sub L).subset hi))
    · rcases List.mem_cons.mp hi with e | hi
      · subst e
        exact absurd rfl (nd'.2.2 _ (it_mem a) _ (mem_nms hs hz))
      · exact it_only nd'.2.1 hs hz hi
theorem chains_of {L : List ChS} (hg : ∀ s ∈ L, ChG s) (ok : NmsOk (nmsC L)) (hl : L.length ≤ 100) (w : Bool) : Chains (rowsC L) (endsC w L) w (L.map ChS.rows) := by
  have hv : Valid (rowsC L) := by
    have := valid_all (L := L) Valid.nil hg ok.2 (by simpa using ok.1)
    simpa using this
  have hk : (endsC w L).map (·.1) = ("top" : Str) :: L.map ChS.it := by
    unfold endsC
    rw [List.map_cons, List.map_map]; rfl
  have nd : ((endsC w L).map (·.1)).Nodup := by
    rw [hk, List.nodup_cons]
    exact ⟨fun q => (ok.2 _ ((its_sub L).subset q)).2 rfl, (its_sub L).nodup ok.1⟩
  have hmem : ∀ s ∈ L, endO (endsC w L) s.it = some w := fun s hs => endO_mem nd (e := (s.it, w)) (List.mem_cons_of_mem _ (List.mem_map.mpr ⟨s, hs, rfl⟩))
  refine ⟨hv, rfl, ⟨fun ch hc => ?_, ?_⟩, fun r hr => ?_, ⟨nd, fun e he => ?_, ?_⟩, endO_mem nd (e := ("top", !w)) (List.mem_cons_self ..)⟩
  · obtain ⟨s, hs, rfl⟩ := List.mem_map.mp hc
    refine ⟨s.ne, s.chain, fun r hr => List.mem_flatten.mpr ⟨s.rows, List.mem_map.mpr ⟨s, hs, rfl⟩, hr⟩, ?_, ?_, ?_, ?_⟩
    · rw [s.rows_nm]
      have : ∀ {L : List ChS}, (nmsC L).Nodup → s ∈ L → s.nms.Nodup := by
        intro L
        induction L with
        | nil => intro _ h; cases h
        | cons a L ih =>
          intro nd h
          have nd' := List.nodup_append.mp (show (a.nms ++ nmsC L).Nodup from nd)
          rcases List.mem_cons.mp h with rfl | h
          · exact nd'.1
          · exact ih nd'.2.1 h
      exact this ok.1 hs
    · rw [s.rows_nm]
      exact fun q => (ok.2 _ (mem_nms hs q)).2 rfl
    · rw [s.last]; exact hmem s hs
    · intro z hz n
      rw [s.last] at n
      rw [s.rows_nm] at hz
      cases h : endO (endsC w L) z with
      | none => rfl
      | some b =>
        have this : z ∈ (endsC w L).map (·.1) := List.mem_map.mpr ⟨_, endO_some h, rfl⟩
        rw [hk] at this
        rcases List.mem_cons.mp this with e | e
        · exact absurd e (ok.2 _ (mem_nms hs hz)).2
        · exact absurd (it_only ok.1 hs hz e) n
  · have := rowsC_nm L
    unfold rowsC at this
    rw [this]; exact ok.1
  · obtain ⟨l, hl', hr'⟩ := List.mem_flatten.mp hr
    obtain ⟨s, hs, rfl⟩ := List.mem_map.mp hl'
    unfold ChS.rows at hr'
    rcases List.mem_append.mp hr' with h | h
    · obtain ⟨k, _, rfl⟩ := List.mem_map.mp h
      exact ⟨_, rfl⟩
    · rw [List.mem_singleton.mp h]
      exact ⟨_, rfl⟩
  · rcases List.mem_cons.mp he with rfl | he
    · exact mem_plc.mpr (.inl rfl)
    · obtain ⟨s, hs, rfl⟩ := List.mem_map.mp he
      refine mem_plc.mpr (.inr ?_)
      show s.it ∈ (rowsC L).map (·.nm)
      rw [rowsC_nm]
      exact mem_nms hs (it_mem s)
  · unfold endsC
    rw [List.length_cons, List.length_map]; omega
/-- how many have the least price -/
theorem cnt_prs {s : ChS} {m : Int} (h1 : m ∈ s.prs) (h2 : ∀ y ∈ s.prs, m ≤ y) : m = leastC s.rows ∧ ((s.prs.filter fun y => decide (y = m)).length : Int) = cntC s.rows := by
  have e : m = leastC s.rows := by
    rw [← s.rows_pr] at h1 h2
    obtain ⟨r, hr, rfl⟩ := List.mem_map.mp h1
    obtain ⟨q, hq, eq⟩ := least_mem s.ne
    have := h2 _ (List.mem_map.mpr ⟨q, hq, rfl⟩)
    have := least_le r hr
    omega
  refine ⟨e, ?_⟩
  unfold cntC bestC
  rw [List.length_map, ← s.rows_pr, List.filter_map, List.length_map, e]; rfl
end Ts

set_option maxRecDepth 100000
set_option maxHeartbeats 4000000
namespace Ts
open PySem L2
/-! ### a chain some of whose steps are locked -/
def ChainF : Str → List Row → Prop
  | _, [] => True
  | fo, r :: l => r.fo = fo ∧ ChainF r.nm l
def leS (rs : List Row) : List Row → Int
  | [] => 0
  | [r] => stepR rs r
  | r :: q :: l => min (stepR rs r) (leS rs (q :: l))
def bestS (rs ch : List Row) : List Str := (ch.filter fun r => decide (stepR rs r = leS rs ch)).map (·.nm)
def firstS (rs ch : List Row) : Str := (bestS rs ch).headD "top"
def lastS (rs ch : List Row) : Str := (bestS rs ch).getLastD "top"
structure ChF (rs : List Row) (es : Wsh) (w : Bool) (fo : Str) (ch : List Row) : Prop where
  ne : ch ≠ []
  cp : ChainF fo ch
  sub : ∀ r ∈ ch, r ∈ rs
  nd : (ch.map (·.nm)).Nodup
  nfo : fo ∉ ch.map (·.nm)
  last : endO es (lastN ch) = some w
  mid : ∀ z ∈ ch.map (·.nm), z ≠ lastN ch → endO es z = none
theorem ChF.tail {rs : List Row} {es : Wsh} {w : Bool} {fo : Str} {r q : Row} {l : List Row} (h : ChF rs es w fo (r :: q :: l)) : ChF rs es w r.nm (q :: l) := by
  have nd := h.nd
  rw [List.map_cons, List.nodup_cons] at nd
  exact ⟨by simp, h.cp.2, fun x hx => h.sub x (List.mem_cons_of_mem _ hx), nd.2, nd.1, h.last, fun z hz n => h.mid z (List.mem_cons_of_mem _ hz) n⟩
theorem step_one {rs : List Row} (hv : Valid rs) {r : Row} (hr : r ∈ rs) : 1 ≤ stepR rs r ∧ stepR rs r ≤ endlessI rs := by
  have ep := endless_pos hv
  cases c : r.pr with
  | none =>
    have : stepR rs r = endlessI rs := by unfold stepR; rw [c]; rfl
    omega
  | some p =>
    have h1 := prI_pos hv hr c
    have h2 := prI_end hv hr
    rw [step_open c]; omega
theorem leS_mem (rs : List Row) : ∀ {ch : List Row}, ch ≠ [] → ∃ r ∈ ch, stepR rs r = leS rs ch
  | [], h => absurd rfl h
  | [r], _ => ⟨r, by simp, rfl⟩
  | r :: q :: l, _ => by
    obtain ⟨x, hx, e⟩ := leS_mem rs (ch := q :: l) (by simp)
    by_cases c : stepR rs r ≤ leS rs (q :: l)
    · exact ⟨r, by simp, by show _ = min _ _; omega⟩
    · exact ⟨x, List.mem_cons_of_mem _ hx, by rw [e]; show _ = min _ _; omega⟩
theorem leS_le (rs : List Row) : ∀ {ch : List Row}, ∀ r ∈ ch, leS rs ch ≤ stepR rs r
  | [], _, h => by cases h
  | [r], x, h => by rw [List.mem_singleton.mp h]; exact Int.le_refl _
  | r :: q :: l, x, h => by
    show min _ _ ≤ _
    rcases List.mem_cons.mp h with rfl | h
    · omega
    · have := leS_le rs x h
      omega
theorem leS_one {rs : List Row} (hv : Valid rs) {ch : List Row} (ne : ch ≠ []) (sub : ∀ r ∈ ch, r ∈ rs) : 1 ≤ leS rs ch ∧ leS rs ch ≤ endlessI rs := by
  obtain ⟨r, hr, e⟩ := leS_mem rs ne
  rw [← e]; exact step_one hv (sub r hr)
def dS (rs : List Row) (w : Bool) (ch : List Row) (b : Bool) : Int := if b = w then 0 else leS rs ch
theorem bestS_cons {rs : List Row} {r q : Row} {l : List Row} : bestS rs (r :: q :: l) = (if stepR rs r ≤ leS rs (q :: l) then [r.nm] else []) ++ (if leS rs (q :: l) ≤ stepR rs r then bestS rs (q :: l) else []) := by
  have el : leS rs (r :: q :: l) = min (stepR rs r) (leS rs (q :: l)) := rfl
  unfold bestS
  rw [el]
  generalize hL : leS rs (q :: l) = L
  have hle : ∀ x ∈ q :: l, L ≤ stepR rs x := fun x hx => by rw [← hL]; exact leS_le rs x hx
  have tail : (List.filter (fun x => decide (stepR rs x = min (stepR rs r) L)) (q :: l)) = if L ≤ stepR rs r then (List.filter (fun x => decide (stepR rs x = L)) (q :: l)) else [] := by
    by_cases c : L ≤ stepR rs r
    · rw [if_pos c, show min (stepR rs r) L = L by omega]
    · rw [if_neg c]
      refine List.filter_eq_nil_iff.mpr fun x hx => ?_
      have := hle x hx
      simp only [decide_eq_true_eq]
      omega
  rw [List.filter_cons, tail]
  by_cases c : stepR rs r ≤ L
  · have e1 : stepR rs r = min (stepR rs r) L := by omega
    rw [if_pos (by exact decide_eq_true e1), if_pos c]
    split <;> rfl
  · have e1 : ¬ stepR rs r = min (stepR rs r) L := by omega
    rw [if_neg (by simp only [decide_eq_true_eq]; exact e1), if_neg c]
    split <;> rfl
theorem chainS_at {rs : List Row} (hv : Valid rs) {es : Wsh} {w : Bool} {suf : List Row} : ∀ {ch : List Row} {fo : Str}, ChF rs es w fo ch → (∀ q ∈ suf, q.fo ∉ ch.map (·.nm)) → ∀ y, y ∉ ch.map (·.nm) → ∀ b,
    tabT rs es (ch ++ suf) y b = tabT rs es suf y b + (if y = fo then dS rs w ch b else 0)
  | [], fo, h, _, _, _, _ => absurd rfl h.ne
  | [r], fo, h, hs, y, hy, b => by
    obtain ⟨p1, p2⟩ := step_one hv (h.sub r (by simp))
    have ef : r.fo = fo := h.cp.1
    have el : endO es r.nm = some w := h.last
    have nb : ∀ q ∈ suf, q.fo ≠ r.nm := fun q hq e => hs q hq (by simp [e])
    have t1 := fun c => (tab_bare (rs := rs) (es := es) (b := c) nb).trans (pen_some el c)
    show stepT rs r (tabT rs es suf) y b = _
    unfold stepT
    rw [ef]
    by_cases c : y = fo
    · simp only [if_pos c, t1]
      unfold dS leS
      cases b <;> cases w <;> simp <;> omega
    · simp only [if_neg c]
      omega
  | r :: q :: l, fo, h, hs, y, hy, b => by
    have ht := h.tail
    obtain ⟨p1, p2⟩ := step_one hv (h.sub r (by simp))
    obtain ⟨l1, l2⟩ := leS_one hv ht.ne ht.sub
    have ef : r.fo = fo := h.cp.1
    have nrl : r.nm ≠ lastN (r :: q :: l) := fun e => ht.nfo (by rw [e]; exact last_mem (ch := q :: l) (by simp))
    have en := h.mid r.nm (by simp) nrl
    have nb : ∀ x ∈ suf, x.fo ≠ r.nm := fun x hx e => hs x hx (by simp [e])
    have hs' : ∀ x ∈ suf, x.fo ∉ (q :: l).map (·.nm) := fun x hx e => hs x hx (List.mem_cons_of_mem _ e)
    have hy' : y ∉ (q :: l).map (·.nm) := fun e => hy (List.mem_cons_of_mem _ e)
    have yr : y ≠ r.nm := fun e => hy (by simp [e])
    have i1 := chainS_at hv ht hs' y hy' b
    rw [if_neg yr, Int.add_zero] at i1
    have t1 : ∀ c, tabT rs es (q :: l ++ suf) r.nm c = dS rs w (q :: l) c := fun c => by
      rw [chainS_at hv ht hs' r.nm ht.nfo c, tab_bare nb, pen_none en, if_pos rfl, Int.zero_add]
    show stepT rs r (tabT rs es (q :: l ++ suf)) y b = _
    unfold stepT
    rw [ef]
    by_cases c : y = fo
    · simp only [if_pos c, t1, i1]
      have ed : dS rs w (r :: q :: l) b = if b = w then 0 else min (stepR rs r) (leS rs (q :: l)) := rfl
      rw [ed]
      unfold dS
      cases b <;> cases w <;> simp <;> omega
    · simp only [if_neg c, i1]
      omega
theorem favS_box {rs : List Row} (hv : Valid rs) {es : Wsh} {w : Bool} {suf : List Row} {r : Row} {l pre : List Row} {fo : Str} (h : ChF rs es w fo (r :: l)) (e : rs = pre ++ (r :: l ++ suf)) (hs : ∀ q ∈ suf, q.fo ∉ (r :: l).map (·.nm)) (fav : Bool) :
    favV rs (tabF rs es) fav r.nm = if favV rs (tabF rs es) fav fo = w then w else if (fav = w ∧ (l = [] ∨ stepR rs r ≤ leS rs l)) ∨ (fav ≠ w ∧ ((l = [] ∧ stepR rs r < endlessI rs) ∨ (l ≠ [] ∧ stepR rs r < leS rs l))) then w else !w := by
  have hr := h.sub r (by simp)
  obtain ⟨p1, p2⟩ := step_one hv hr
  have ef : r.fo = fo := h.cp.1
  rw [favV_row hv _ _ hr, ef]
  generalize favV rs (tabF rs es) fav fo = v
  have fx := fun b => tab_fix hv es (pre := pre) (suf := l ++ suf) (r := r) e b
  have nb : ∀ x ∈ suf, x.fo ≠ r.nm := fun x hx e => hs x hx (by simp [e])
  unfold pickV
  rw [stepI_row hv hr, ← fx, ← fx]
  cases l with
  | nil =>
    have el : endO es r.nm = some w := h.last
    have t1 := fun c => (tab_bare (rs := rs) (es := es) (b := c) nb).trans (pen_some el c)
    rw [List.nil_append, t1, t1]
    cases v <;> cases w <;> cases fav <;> simp <;> first | omega | (by_cases c : endlessI rs ≤ stepR rs r <;> simp [c] <;> omega)
  | cons q l =>
    have ht := h.tail
    obtain ⟨l1, l2⟩ := leS_one hv ht.ne ht.sub
    have nrl : r.nm ≠ lastN (r :: q :: l) := fun e => ht.nfo (by rw [e]; exact last_mem (ch := q :: l) (by simp))
    have en := h.mid r.nm (by simp) nrl
    have hs' : ∀ x ∈ suf, x.fo ∉ (q :: l).map (·.nm) := fun x hx e => hs x hx (List.mem_cons_of_mem _ e)
    have t1 : ∀ c, tabT rs es (q :: l ++ suf) r.nm c = dS rs w (q :: l) c := fun c => by
      rw [chainS_at hv ht hs' r.nm ht.nfo c, tab_bare nb, pen_none en, if_pos rfl, Int.zero_add]
    rw [t1, t1]
    unfold dS
    have ne : (q :: l) ≠ [] := by simp
    cases v <;> cases w <;> cases fav <;> simp <;> first | omega | (by_cases c : leS rs (q :: l) ≤ stepR rs r <;> simp [c] <;> omega)
end Ts

set_option maxRecDepth 100000
set_option maxHeartbeats 4000000
namespace Ts
open PySem L2
theorem favS_none {rs : List Row} (hv : Valid rs) {es : Wsh} {w : Bool} {suf : List Row} (fav : Bool) : ∀ {ch pre : List Row} {fo : Str}, ChF rs es w fo ch → rs = pre ++ (ch ++ suf) → (∀ q ∈ suf, q.fo ∉ ch.map (·.nm)) → favV rs (tabF rs es) fav fo = w →
    (ch.filter fun r => decide (favV rs (tabF rs es) fav r.nm ≠ favV rs (tabF rs es) fav r.fo)) = []
  | [], _, _, h, _, _, _ => absurd rfl h.ne
  | [r], pre, fo, h, e, hs, hw => by
    have hb := favS_box hv h e hs fav
    have ef : r.fo = fo := h.cp.1
    rw [if_pos hw] at hb
    rw [List.filter_cons, List.filter_nil, ef, hb, hw]; simp
  | r :: q :: l, pre, fo, h, e, hs, hw => by
    have hb := favS_box hv h e hs fav
    rw [if_pos hw] at hb
    have ih := favS_none hv fav (ch := q :: l) (pre := pre ++ [r]) (fo := r.nm) h.tail (by rw [List.append_assoc]; exact e) (fun x hx k => hs x hx (List.mem_cons_of_mem _ k)) hb
    have ef : r.fo = fo := h.cp.1
    rw [List.filter_cons, ih, ef, hb, hw]; simp
theorem favS_chain {rs : List Row} (hv : Valid rs) {es : Wsh} {w : Bool} {suf : List Row} (fav : Bool) : ∀ {ch pre : List Row} {fo : Str}, ChF rs es w fo ch → rs = pre ++ (ch ++ suf) → (∀ q ∈ suf, q.fo ∉ ch.map (·.nm)) → favV rs (tabF rs es) fav fo = !w → (fav = w ∨ leS rs ch < endlessI rs) →
    (ch.filter fun r => decide (favV rs (tabF rs es) fav r.nm ≠ favV rs (tabF rs es) fav r.fo)).map (·.nm) = [if fav = w then firstS rs ch else lastS rs ch]
  | [], _, _, h, _, _, _, _ => absurd rfl h.ne
  | [r], pre, fo, h, e, hs, hw, hc => by
    have hb := favS_box hv h e hs fav
    have ef : r.fo = fo := h.cp.1
    have b1 : bestS rs [r] = [r.nm] := by unfold bestS leS; simp
    have nw : ¬ favV rs (tabF rs es) fav fo = w := by rw [hw]; cases w <;> decide
    have hc' : fav = w ∨ stepR rs r < endlessI rs := hc
    rw [if_neg nw, if_pos (by
      by_cases q : fav = w
      · exact .inl ⟨q, .inl rfl⟩
      · exact .inr ⟨q, .inl ⟨rfl, hc'.resolve_left q⟩⟩)] at hb
    rw [List.filter_cons, List.filter_nil, ef, hb, hw]
    unfold firstS lastS
    rw [b1]
    cases w <;> cases fav <;> simp
  | r :: q :: l, pre, fo, h, e, hs, hw, hc => by
    have hb := favS_box hv h e hs fav
    have ef : r.fo = fo := h.cp.1
    have nw : ¬ favV rs (tabF rs es) fav fo = w := by rw [hw]; cases w <;> decide
    rw [if_neg nw] at hb
    have hs' : ∀ x ∈ suf, x.fo ∉ (q :: l).map (·.nm) := fun x hx k => hs x hx (List.mem_cons_of_mem _ k)
    have e' : rs = (pre ++ [r]) ++ (q :: l ++ suf) := by rw [List.append_assoc]; exact e
    have el : leS rs (r :: q :: l) = min (stepR rs r) (leS rs (q :: l)) := rfl
    rw [el] at hc
    have bn : bestS rs (q :: l) ≠ [] := fun k => by
      obtain ⟨x, hx, ex⟩ := leS_mem rs (ch := q :: l) (by simp)
      have : x.nm ∈ bestS rs (q :: l) := List.mem_map.mpr ⟨x, List.mem_filter.mpr ⟨hx, decide_eq_true ex⟩, rfl⟩
      rw [k] at this; cases this
    have eF : firstS rs (r :: q :: l) = if stepR rs r ≤ leS rs (q :: l) then r.nm else firstS rs (q :: l) := by
      unfold firstS
      rw [bestS_cons]
      by_cases c : stepR rs r ≤ leS rs (q :: l)
      · rw [if_pos c, if_pos c]; rfl
      · rw [if_neg c, if_neg c, if_pos (by omega), List.nil_append]
    have eL : lastS rs (r :: q :: l) = if stepR rs r < leS rs (q :: l) then r.nm else lastS rs (q :: l) := by
      unfold lastS
      rw [bestS_cons]
      by_cases c : stepR rs r < leS rs (q :: l)
      · rw [if_pos c, if_pos (by omega), if_neg (by omega)]; rfl
      · rw [if_neg c, if_pos (show leS rs (q :: l) ≤ stepR rs r by omega)]
        cases hbq : bestS rs (q :: l) with
        | nil => exact absurd hbq bn
        | cons a m => split <;> simp [List.getLastD]
    have ne : (q :: l) ≠ [] := by simp
    by_cases turn : (fav = w ∧ stepR rs r ≤ leS rs (q :: l)) ∨ (fav ≠ w ∧ stepR rs r < leS rs (q :: l))
    · rw [if_pos (turn.imp (fun k => ⟨k.1, .inr k.2⟩) fun k => ⟨k.1, .inr ⟨ne, k.2⟩⟩)] at hb
      have ih := favS_none hv fav (ch := q :: l) h.tail e' hs' hb
      rw [List.filter_cons, ih, ef, hb, hw, eF, eL]
      rcases turn with ⟨t1, t2⟩ | ⟨t1, t2⟩
      · subst t1
        rw [if_pos rfl, if_pos t2]
        cases fav <;> simp
      · rw [if_neg t1, if_pos t2]
        cases w <;> simp
    · have nt : ¬ ((fav = w ∧ ((q :: l) = [] ∨ stepR rs r ≤ leS rs (q :: l))) ∨ (fav ≠ w ∧ (((q :: l) = [] ∧ stepR rs r < endlessI rs) ∨ ((q :: l) ≠ [] ∧ stepR rs r < leS rs (q :: l))))) := fun k => turn (k.imp (fun k => ⟨k.1, k.2.resolve_left ne⟩) fun k => ⟨k.1, (k.2.resolve_left fun x => ne x.1).2⟩)
      rw [if_neg nt] at hb
      have ih := favS_chain hv fav (ch := q :: l) h.tail e' hs' hb (by
        by_cases c : fav = w
        · exact .inl c
        · refine .inr ?_
          have h1 := hc.resolve_left c
          have h2 : ¬ stepR rs r < leS rs (q :: l) := fun k => turn (.inr ⟨c, k⟩)
          omega)
      rw [List.filter_cons, ef, hb, hw, eF, eL]
      have hd : decide ((!w) ≠ (!w)) = false := by cases w <;> decide
      rw [hd, if_neg Bool.false_ne_true, ih]
      by_cases c : fav = w
      · rw [if_pos c, if_pos c, if_neg fun k => turn (.inl ⟨c, k⟩)]
      · rw [if_neg c, if_neg c, if_neg fun k => turn (.inr ⟨c, k⟩)]
structure ChR (rs : List Row) (es : Wsh) : Prop where
  val : Valid rs
  ch : ChF rs es true "top" rs
  top : endO es "top" = some false
theorem ChR.tab {rs : List Row} {es : Wsh} (h : ChR rs es) : tabF rs es "top" false = leS rs rs ∧ tabF rs es "top" true = endlessI rs := by
  have a := fun b => chainS_at h.val h.ch (suf := []) (fun q hq => by cases hq) "top" h.ch.nfo b
  have e : ∀ b, tabF rs es "top" b = pen rs es "top" b + dS rs true rs b := fun b => by
    have := a b
    rw [List.append_nil, if_pos rfl] at this
    exact this
  refine ⟨?_, ?_⟩
  · rw [e, pen_some h.top]
    show 0 + leS rs rs = _
    omega
  · rw [e, pen_some h.top]
    show endlessI rs + 0 = _
    omega
theorem ChR.cost {rs : List Row} {es : Wsh} (h : ChR rs es) : cheapI rs es = leS rs rs := by
  obtain ⟨t1, t2⟩ := h.tab
  have := (leS_one h.val h.ch.ne h.ch.sub).2
  unfold cheapI
  rw [t1, t2]; omega
theorem ChR.turns {rs : List Row} {es : Wsh} (h : ChR rs es) (hs : leS rs rs < endlessI rs) (fav : Bool) : turnsG rs (favV rs (tabF rs es) fav) = [if fav = true then firstS rs rs else lastS rs rs] := by
  obtain ⟨t1, t2⟩ := h.tab
  have ht : favV rs (tabF rs es) fav "top" = false := by
    rw [favV_top h.val]
    cases fav <;> simp only [Bool.not_true, Bool.not_false] <;> rw [t1, t2] <;> split <;> first | rfl | (exfalso; omega)
  exact favS_chain h.val fav (ch := rs) (pre := []) (suf := []) h.ch (by simp) (fun q hq => by cases hq) ht (.inr hs)
/-! ### locks -/
theorem lock_end {rs : List Row} (hv : Valid rs) : ∀ {l : List Row} {fo : Str}, ChainF fo l → (∀ r ∈ l, r ∈ rs) → ((∃ r ∈ l, r.pr ≠ none) → lockR rs (endN fo l) ∈ l.map (·.nm)) ∧ ((∀ r ∈ l, r.pr = none) → lockR rs (endN fo l) = lockR rs fo)
  | [], fo, _, _ => ⟨fun ⟨r, hr, _⟩ => (by cases hr), fun _ => rfl⟩
  | r :: l, fo, h, sub => by
    obtain ⟨i1, i2⟩ := lock_end hv h.2 fun x hx => sub x (List.mem_cons_of_mem _ hx)
    have hr := sub r (List.mem_cons_self ..)
    refine ⟨fun hx => ?_, fun hx => ?_⟩
    · by_cases c : ∃ x ∈ l, x.pr ≠ none
      · exact List.mem_cons_of_mem _ (i1 c)
      · have al : ∀ x ∈ l, x.pr = none := fun x hx => Classical.byContradiction fun k => c ⟨x, hx, k⟩
        show lockR rs (endN r.nm l) ∈ _
        rw [i2 al, lockR_row hv hr]
        obtain ⟨x, hx, hp⟩ := hx
        rcases List.mem_cons.mp hx with rfl | hx
        · rw [if_neg hp]; exact List.mem_cons_self ..
        · exact absurd ⟨x, hx, hp⟩ c
    · show lockR rs (endN r.nm l) = _
      rw [i2 fun x hx' => hx x (List.mem_cons_of_mem _ hx'), lockR_row hv hr, if_pos (hx r (List.mem_cons_self ..)), h.1]
theorem lastN_end : ∀ {l : List Row} (fo : Str), l ≠ [] → lastN l = endN fo l
  | [], _, h => absurd rfl h
  | [r], _, _ => rfl
  | r :: q :: l, fo, _ => lastN_end r.nm (l := q :: l) (by simp)
theorem leS_open {rs : List Row} (hv : Valid rs) (h : ∃ r ∈ rs, r.pr ≠ none) : leS rs rs < endlessI rs := by
  obtain ⟨r, hr, hp⟩ := h
  have h1 := leS_le rs r hr
  cases c : r.pr with
  | none => exact absurd c hp
  | some p =>
    have := prI_end hv hr
    rw [step_open c] at h1
    omega
/-- of a chain with two ends: it is told just if a step is open -/
theorem ChR.okw {rs : List Row} {es : Wsh} (h : ChR rs es) (only : ∀ e ∈ es, e = (lastN rs, true) ∨ e = (("top" : Str), false)) (hin : (lastN rs, true) ∈ es ∧ (("top" : Str), false) ∈ es) : OpenE rs es ↔ ∃ r ∈ rs, r.pr ≠ none := by
  obtain ⟨k1, k2⟩ := lock_end h.val h.ch.cp h.ch.sub
  rw [← lastN_end "top" h.ch.ne] at k1 k2
  constructor
  · intro ho
    refine Classical.byContradiction fun c => ?_
    have al : ∀ x ∈ rs, x.pr = none := fun x hx => Classical.byContradiction fun k => c ⟨x, hx, k⟩
    have := ho _ hin.1 _ hin.2 (k2 al)
    cases this
  · intro ho e he e' he' hl
    have nt : lockR rs (lastN rs) ≠ lockR rs "top" := fun q => by
      rw [lockR_top h.val] at q
      have := k1 ho
      rw [q] at this
      exact h.ch.nfo this
    rcases only e he with rfl | rfl <;> rcases only e' he' with rfl | rfl
    · rfl
    · exact absurd hl nt
    · exact absurd hl.symm nt
    · rfl
end Ts

set_option maxRecDepth 100000
set_option maxHeartbeats 4000000
namespace Ts
open PySem L2
/-! ### the example of the document -/
structure Four (a b c d : Str) : Prop where
  ab : a ≠ b
  ac : a ≠ c
  ad : a ≠ d
  bc : b ≠ c
  bd : b ≠ d
  cd : c ≠ d
  ta : ("top" : Str) ≠ a
  tb : ("top" : Str) ≠ b
  tc : ("top" : Str) ≠ c
  td : ("top" : Str) ≠ d
def rs4 (a b c d : Str) (p : Int) : List Row := [⟨a, "top", "folder", some p⟩, ⟨b, a, "item", some p⟩, ⟨c, a, "item", some p⟩, ⟨d, a, "item", some p⟩]
def es4 (b c d : Str) : Wsh := [(b, true), (c, true), (d, false)]
structure End4 (a b c d : Str) (es : Wsh) (v : Option Bool) : Prop where
  a : endO es a = none
  b : endO es b = some true
  c : endO es c = some true
  d : endO es d = some false
  t : endO es "top" = v
theorem end4 {a b c d : Str} (h : Four a b c d) (v : Option Bool) : End4 a b c d (topE v (es4 b c d)) v := by
  have e : ∀ z, endO (es4 b c d) z = if b = z then some true else if c = z then some true else if d = z then some false else none := fun z => by
    unfold endO es4
    rw [List.find?_cons, List.find?_cons, List.find?_cons, List.find?_nil]
    by_cases q1 : b = z
    · simp [q1]
    · by_cases q2 : c = z
      · simp [q1, q2]
      · by_cases q3 : d = z <;> simp [q1, q2, q3]
  have k : ∀ z, endO (topE v (es4 b c d)) z = if z = "top" ∧ v ≠ none then v else endO (es4 b c d) z := fun z => by
    cases v with
    | none => simp [topE]
    | some x =>
      show endO (putE (es4 b c d) "top" x) z = _
      rw [endO_put]
      by_cases q : z = "top" <;> simp [q]
  refine ⟨?_, ?_, ?_, ?_, ?_⟩
  · rw [k, e, if_neg fun q => h.ta q.1.symm, if_neg h.ab.symm, if_neg h.ac.symm, if_neg h.ad.symm]
  · rw [k, e, if_neg fun q => h.tb q.1.symm, if_pos rfl]
  · rw [k, e, if_neg fun q => h.tc q.1.symm, if_neg h.bc, if_pos rfl]
  · rw [k, e, if_neg fun q => h.td q.1.symm, if_neg h.bd, if_neg h.cd, if_pos rfl]
  · rw [k, e, if_neg h.tb.symm, if_neg h.tc.symm, if_neg h.td.symm]
    cases v <;> simp
theorem val4 {a b c d : Str} {p : Int} (h : Four a b c d) (hp : 1 ≤ p) (sa : NameShape a) (sb : NameShape b) (sc : NameShape c) (sd : NameShape d) : Valid (rs4 a b c d p) := by
  have k1 : ("folder" : Str) ∈ kinds3 := by decide +kernel
  have k2 : ("item" : Str) ∈ kinds3 := by decide +kernel
  have fA : Fits [] ⟨a, "top", "folder", some p⟩ := ⟨sa, h.ta.symm, List.not_mem_nil, .inl rfl, k1, hp⟩
  have fB : Fits [⟨a, "top", "folder", some p⟩] ⟨b, a, "item", some p⟩ := ⟨sb, h.tb.symm, by simp [h.ab.symm], .inr ⟨_, .head _, rfl, rfl⟩, k2, hp⟩
  have fC : Fits [⟨a, "top", "folder", some p⟩, ⟨b, a, "item", some p⟩] ⟨c, a, "item", some p⟩ := ⟨sc, h.tc.symm, by simp [h.ac.symm, h.bc.symm], .inr ⟨_, .head _, rfl, rfl⟩, k2, hp⟩
  have fD : Fits [⟨a, "top", "folder", some p⟩, ⟨b, a, "item", some p⟩, ⟨c, a, "item", some p⟩] ⟨d, a, "item", some p⟩ := ⟨sd, h.td.symm, by simp [h.ad.symm, h.bd.symm, h.cd.symm], .inr ⟨_, .head _, rfl, rfl⟩, k2, hp⟩
  exact (((Valid.nil.snoc fA).snoc fB).snoc fC).snoc fD
theorem open4 (a b c d : Str) (p : Int) : OpenR (rs4 a b c d p) := fun r hr => by
  simp only [rs4, List.mem_cons, List.not_mem_nil, or_false] at hr
  rcases hr with rfl | rfl | rfl | rfl <;> exact ⟨p, rfl⟩
structure Tab4 (a b c d : Str) (p : Int) (es : Wsh) (v : Option Bool) : Prop where
  fb : ∀ x, tabF (rs4 a b c d p) es b x = if x = true then 0 else 1 + 4 * p
  fc : ∀ x, tabF (rs4 a b c d p) es c x = if x = true then 0 else 1 + 4 * p
  fd : ∀ x, tabF (rs4 a b c d p) es d x = if x = true then 1 + 4 * p else 0
  fa : ∀ x, tabF (rs4 a b c d p) es a x = if x = true then p else 2 * p
  ft : ∀ x, tabF (rs4 a b c d p) es "top" x = (if v = some (!x) then 1 + 4 * p else 0) + if x = true then p else 2 * p
  fn : ∀ x, numF (rs4 a b c d p) es "top" x = if x = true then 1 else 2
theorem tab4 {a b c d : Str} {p : Int} (h : Four a b c d) (hp : 1 ≤ p) {es : Wsh} {v : Option Bool} (e : End4 a b c d es v) : Tab4 a b c d p es v := by
  have hE : endlessI (rs4 a b c d p) = 1 + 4 * p := by
    unfold endlessI allI rs4
    simp only [List.map_cons, List.map_nil, List.sum_cons, List.sum_nil, prI, Option.getD_some]
    omega
  have st : ∀ r : Row, r.pr = some p → stepR (rs4 a b c d p) r = p := fun r hr => by unfold stepR; rw [hr]; rfl
  have pn : ∀ z o x, endO es z = o → pen (rs4 a b c d p) es z x = if o = some (!x) then 1 + 4 * p else 0 := fun z o x ho => by unfold pen; rw [ho, hE]
  have eT : ∀ z x, tabF (rs4 a b c d p) es z x = stepT (rs4 a b c d p) ⟨a, "top", "folder", some p⟩ (stepT (rs4 a b c d p) ⟨b, a, "item", some p⟩ (stepT (rs4 a b c d p) ⟨c, a, "item", some p⟩ (stepT (rs4 a b c d p) ⟨d, a, "item", some p⟩ (pen (rs4 a b c d p) es)))) z x := fun _ _ => rfl
  have eN : ∀ z x, numF (rs4 a b c d p) es z x = stepN (rs4 a b c d p) ⟨a, "top", "folder", some p⟩ (stepT (rs4 a b c d p) ⟨b, a, "item", some p⟩ (stepT (rs4 a b c d p) ⟨c, a, "item", some p⟩ (stepT (rs4 a b c d p) ⟨d, a, "item", some p⟩ (pen (rs4 a b c d p) es))))
      (stepN (rs4 a b c d p) ⟨b, a, "item", some p⟩ (stepT (rs4 a b c d p) ⟨c, a, "item", some p⟩ (stepT (rs4 a b c d p) ⟨d, a, "item", some p⟩ (pen (rs4 a b c d p) es)))
        (stepN (rs4 a b c d p) ⟨c, a, "item", some p⟩ (stepT (rs4 a b c d p) ⟨d, a, "item", some p⟩ (pen (rs4 a b c d p) es))
          (stepN (rs4 a b c d p) ⟨d, a, "item", some p⟩ (pen (rs4 a b c d p) es) (fun _ _ => 1)))) z x := fun _ _ => rfl
  have sA := st ⟨a, "top", "folder", some p⟩ rfl
  have sB := st ⟨b, a, "item", some p⟩ rfl
  have sC := st ⟨c, a, "item", some p⟩ rfl
  have sD := st ⟨d, a, "item", some p⟩ rfl
  generalize hR : rs4 a b c d p = R at *
  have pa := fun x => pn a none x e.a
  have pb := fun x => pn b (some true) x e.b
  have pc := fun x => pn c (some true) x e.c
  have pd := fun x => pn d (some false) x e.d
  have pt := fun x => pn "top" v x e.t
  generalize pen R es = T0 at *
  -- behind the last box
  have d1 : ∀ z, z ≠ a → ∀ x, stepT R ⟨d, a, "item", some p⟩ T0 z x = T0 z x := fun z hz x => if_neg hz
  have a1 : ∀ x, stepT R ⟨d, a, "item", some p⟩ T0 a x = if x = true then p else 0 := fun x => by
    show (if a = a then T0 a x + min (T0 d x) (T0 d (!x) + stepR R ⟨d, a, "item", some p⟩) else T0 a x) = _
    rw [if_pos rfl, pa, pd, pd, sD]
    cases x <;> simp <;> omega
  generalize stepT R ⟨d, a, "item", some p⟩ T0 = T1 at *
  have d2 : ∀ z, z ≠ a → ∀ x, stepT R ⟨c, a, "item", some p⟩ T1 z x = T0 z x := fun z hz x => (if_neg hz).trans (d1 z hz x)
  have a2 : ∀ x, stepT R ⟨c, a, "item", some p⟩ T1 a x = p := fun x => by
    show (if a = a then T1 a x + min (T1 c x) (T1 c (!x) + stepR R ⟨c, a, "item", some p⟩) else T1 a x) = _
    rw [if_pos rfl, a1, d1 c h.ac.symm, d1 c h.ac.symm, pc, pc, sC]
    cases x <;> simp <;> omega
  generalize stepT R ⟨c, a, "item", some p⟩ T1 = T2 at *
  have d3 : ∀ z, z ≠ a → ∀ x, stepT R ⟨b, a, "item", some p⟩ T2 z x = T0 z x := fun z hz x => (if_neg hz).trans (d2 z hz x)
  have a3 : ∀ x, stepT R ⟨b, a, "item", some p⟩ T2 a x = if x = true then p else 2 * p := fun x => by
    show (if a = a then T2 a x + min (T2 b x) (T2 b (!x) + stepR R ⟨b, a, "item", some p⟩) else T2 a x) = _
    rw [if_pos rfl, a2, d2 b h.ab.symm, d2 b h.ab.symm, pb, pb, sB]
    cases x <;> simp <;> omega
  have n3 : ∀ x, stepN R ⟨b, a, "item", some p⟩ T2 (stepN R ⟨c, a, "item", some p⟩ T1 (stepN R ⟨d, a, "item", some p⟩ T0 (fun _ _ => 1))) a x = 1 := fun x => by
    show (if a = a then (if a = a then (if a = a then 1 * manyI R ⟨d, a, "item", some p⟩ T0 (fun _ _ => 1) x else 1) * manyI R ⟨c, a, "item", some p⟩ T1 (stepN R ⟨d, a, "item", some p⟩ T0 (fun _ _ => 1)) x else _) * manyI R ⟨b, a, "item", some p⟩ T2 (stepN R ⟨c, a, "item", some p⟩ T1 (stepN R ⟨d, a, "item", some p⟩ T0 (fun _ _ => 1))) x else _) = _
    rw [if_pos rfl, if_pos rfl, if_pos rfl]
    have m1 : manyI R ⟨d, a, "item", some p⟩ T0 (fun _ _ => 1) x = 1 := by
      unfold manyI leastI
      rw [pd, pd, sD]
      cases x <;> simp <;> (repeat' split) <;> omega
    have o1 : ∀ z x, z ≠ a → stepN R ⟨d, a, "item", some p⟩ T0 (fun _ _ => 1) z x = 1 := fun z x hz => if_neg hz
    have m2 : manyI R ⟨c, a, "item", some p⟩ T1 (stepN R ⟨d, a, "item", some p⟩ T0 (fun _ _ => 1)) x = 1 := by
      unfold manyI leastI
      rw [d1 c h.ac.symm, d1 c h.ac.symm, pc, pc, sC, o1 c _ h.ac.symm, o1 c _ h.ac.symm]
      cases x <;> simp <;> (repeat' split) <;> omega
    have o2 : ∀ z x, z ≠ a → stepN R ⟨c, a, "item", some p⟩ T1 (stepN R ⟨d, a, "item", some p⟩ T0 (fun _ _ => 1)) z x = 1 := fun z x hz => (if_neg hz).trans (o1 z x hz)
    have m3 : manyI R ⟨b, a, "item", some p⟩ T2 (stepN R ⟨c, a, "item", some p⟩ T1 (stepN R ⟨d, a, "item", some p⟩ T0 (fun _ _ => 1))) x = 1 := by
      unfold manyI leastI
      rw [d2 b h.ab.symm, d2 b h.ab.symm, pb, pb, sB, o2 b _ h.ab.symm, o2 b _ h.ab.symm]
      cases x <;> simp <;> (repeat' split) <;> omega
    rw [m1, m2, m3]; rfl
  have n3t : ∀ x, stepN R ⟨b, a, "item", some p⟩ T2 (stepN R ⟨c, a, "item", some p⟩ T1 (stepN R ⟨d, a, "item", some p⟩ T0 (fun _ _ => 1))) "top" x = 1 := fun x => (if_neg h.ta).trans ((if_neg h.ta).trans (if_neg h.ta))
  generalize stepT R ⟨b, a, "item", some p⟩ T2 = T3 at *
  generalize stepN R ⟨b, a, "item", some p⟩ T2 (stepN R ⟨c, a, "item", some p⟩ T1 (stepN R ⟨d, a, "item", some p⟩ T0 (fun _ _ => 1))) = N3 at *
  have oT : ∀ (z : Str) x, z ≠ "top" → tabF R es z x = T3 z x := fun z x hz => (eT z x).trans (if_neg hz)
  refine ⟨fun x => ?_, fun x => ?_, fun x => ?_, fun x => ?_, fun x => ?_, fun x => ?_⟩
  · rw [hR, oT b x h.tb.symm, d3 b h.ab.symm, pb]; cases x <;> simp
  · rw [hR, oT c x h.tc.symm, d3 c h.ac.symm, pc]; cases x <;> simp
  · rw [hR, oT d x h.td.symm, d3 d h.ad.symm, pd]; cases x <;> simp
  · rw [hR, oT a x h.ta.symm, a3]
  · rw [hR, eT]
    show (if ("top" : Str) = "top" then T3 "top" x + min (T3 a x) (T3 a (!x) + stepR R ⟨a, "top", "folder", some p⟩) else _) = _
    rw [if_pos rfl, d3 "top" h.ta, pt, a3, a3, sA]
    cases x <;> simp <;> omega
  · rw [hR, eN]
    show (if ("top" : Str) = "top" then N3 "top" x * manyI R ⟨a, "top", "folder", some p⟩ T3 N3 x else _) = _
    rw [if_pos rfl, n3t]
    unfold manyI leastI
    rw [a3, a3, sA, n3, n3]
    cases x <;> simp <;> (repeat' split) <;> omega
end Ts

set_option maxRecDepth 100000
set_option maxHeartbeats 4000000
namespace Ts
open PySem L2
theorem ends4 {a b c d : Str} {p : Int} (h : Four a b c d) : EndsOk (rs4 a b c d p) (es4 b c d) := by
  refine ⟨?_, fun e he => ?_, by show 3 ≤ 200; decide⟩
  · show ([b, c, d] : List Str).Nodup
    simp [h.bc, h.bd, h.cd]
  · simp only [es4, List.mem_cons, List.not_mem_nil, or_false] at he
    refine mem_plc.mpr (.inr ?_)
    show e.1 ∈ ([a, b, c, d] : List Str)
    rcases he with rfl | rfl | rfl <;> simp
theorem okw4 {a b c d : Str} {p : Int} (h : Four a b c d) (hv : Valid (rs4 a b c d p)) (v : Option Bool) : OkW (rs4 a b c d p) (es4 b c d) v := by
  refine ⟨fun x hx => ?_, open_ends hv (open4 a b c d p) (topE_ok (ends4 h) (by show 3 ≤ 150; decide) v)⟩
  have := (end4 h none).t
  have this : endO (es4 b c d) "top" = none := this
  rw [this] at hx; cases hx
structure Ex4 (a b c d : Str) (p : Int) (v : Option Bool) : Prop where
  cost : cheapI (rs4 a b c d p) (topE v (es4 b c d)) = if v = some false then 2 * p else p
  how : howI (rs4 a b c d p) (topE v (es4 b c d)) = if v = some false then 2 else 1
  top : ∀ fav, favV (rs4 a b c d p) (tabF (rs4 a b c d p) (topE v (es4 b c d))) fav "top" = decide (v ≠ some false)
  turns : ∀ fav, turnsG (rs4 a b c d p) (favV (rs4 a b c d p) (tabF (rs4 a b c d p) (topE v (es4 b c d))) fav) = if v = some false then (if fav = true then [a, d] else [b, c]) else [d]
theorem ex4 {a b c d : Str} {p : Int} (h : Four a b c d) (hp : 1 ≤ p) (hv : Valid (rs4 a b c d p)) (v : Option Bool) : Ex4 a b c d p v := by
  have T := tab4 h hp (end4 h v)
  generalize hee : topE v (es4 b c d) = ee at *
  have mA : (⟨a, "top", "folder", some p⟩ : Row) ∈ rs4 a b c d p := by simp [rs4]
  have mB : (⟨b, a, "item", some p⟩ : Row) ∈ rs4 a b c d p := by simp [rs4]
  have mC : (⟨c, a, "item", some p⟩ : Row) ∈ rs4 a b c d p := by simp [rs4]
  have mD : (⟨d, a, "item", some p⟩ : Row) ∈ rs4 a b c d p := by simp [rs4]
  have sI : ∀ r ∈ rs4 a b c d p, r.pr = some p → stepI (rs4 a b c d p) r.nm = p := fun r hr e => by
    rw [stepI_row hv hr]; unfold stepR; rw [e]; rfl
  have sA : stepI (rs4 a b c d p) a = p := sI _ mA rfl
  have sB : stepI (rs4 a b c d p) b = p := sI _ mB rfl
  have sC : stepI (rs4 a b c d p) c = p := sI _ mC rfl
  have sD : stepI (rs4 a b c d p) d = p := sI _ mD rfl
  have f0 := fun fav => favV_top hv (tabF (rs4 a b c d p) ee) fav
  have fA := fun fav => favV_row hv (tabF (rs4 a b c d p) ee) fav mA
  have fB := fun fav => favV_row hv (tabF (rs4 a b c d p) ee) fav mB
  have fC := fun fav => favV_row hv (tabF (rs4 a b c d p) ee) fav mC
  have fD := fun fav => favV_row hv (tabF (rs4 a b c d p) ee) fav mD
  have tt := T.ft true
  have tf := T.ft false
  simp only [Bool.not_true, Bool.not_false] at tt tf
  have tv : v = none ∨ v = some true ∨ v = some false := by cases v with | none => exact .inl rfl | some x => cases x <;> simp
  have g0 : ∀ fav, favV (rs4 a b c d p) (tabF (rs4 a b c d p) ee) fav "top" = decide (v ≠ some false) := fun fav => by
    rw [f0]
    rcases tv with rfl | rfl | rfl <;> cases fav <;> simp only [Bool.not_true, Bool.not_false] <;> rw [tt, tf] <;> simp <;> omega
  have gA : ∀ fav, favV (rs4 a b c d p) (tabF (rs4 a b c d p) ee) fav a = if v = some false then fav else true := fun fav => by
    have k := fA fav
    simp only at k
    rw [k, g0]
    unfold pickV
    rw [T.fa, T.fa, sA]
    rcases tv with rfl | rfl | rfl <;> cases fav <;> simp <;> omega
  have gB : ∀ fav, favV (rs4 a b c d p) (tabF (rs4 a b c d p) ee) fav b = true := fun fav => by
    have k := fB fav
    simp only at k
    rw [k, gA]
    unfold pickV
    rw [T.fb, T.fb, sB]
    rcases tv with rfl | rfl | rfl <;> cases fav <;> simp <;> omega
  have gC : ∀ fav, favV (rs4 a b c d p) (tabF (rs4 a b c d p) ee) fav c = true := fun fav => by
    have k := fC fav
    simp only at k
    rw [k, gA]
    unfold pickV
    rw [T.fc, T.fc, sC]
    rcases tv with rfl | rfl | rfl <;> cases fav <;> simp <;> omega
  have gD : ∀ fav, favV (rs4 a b c d p) (tabF (rs4 a b c d p) ee) fav d = false := fun fav => by
    have k := fD fav
    simp only at k
    rw [k, gA]
    unfold pickV
    rw [T.fd, T.fd, sD]
    rcases tv with rfl | rfl | rfl <;> cases fav <;> simp <;> omega
  have nt := T.fn true
  have nf := T.fn false
  have co : cheapI (rs4 a b c d p) ee = if v = some false then 2 * p else p := by
    unfold cheapI
    rw [tt, tf]
    rcases tv with rfl | rfl | rfl <;> simp <;> omega
  refine ⟨by rw [hee]; exact co, ?_, by rw [hee]; exact g0, fun fav => ?_⟩
  · rw [hee]
    unfold howI
    rw [co]
    have e1 : decide (tabF (rs4 a b c d p) ee "top" false = if v = some false then 2 * p else p) = decide (v = some false) := by
      rw [tf]
      rcases tv with rfl | rfl | rfl <;> simp <;> omega
    have e2 : decide (tabF (rs4 a b c d p) ee "top" true = if v = some false then 2 * p else p) = decide (v ≠ some false) := by
      rw [tt]
      rcases tv with rfl | rfl | rfl <;> simp <;> omega
    rw [List.filter_cons, List.filter_cons, List.filter_nil, e1, e2]
    rcases tv with rfl | rfl | rfl <;> simp [nt, nf]
  · rw [hee]
    unfold turnsG
    generalize hF : favV (rs4 a b c d p) (tabF (rs4 a b c d p) ee) fav = F
    have k0 := g0 fav; have kA := gA fav; have kB := gB fav; have kC := gC fav; have kD := gD fav
    rw [hF] at k0 kA kB kC kD
    unfold rs4
    simp only [List.filter_cons, List.filter_nil, k0, kA, kB, kC, kD]
    rcases tv with rfl | rfl | rfl <;> cases fav <;> simp
/-! ### many on and few off -/
def signAt (z : Str) (k : Nat) : Str := ⟨#[z.cps[k]?.getD 0]⟩
def nS (i : Nat) : Str := ("n" : Str) ++ signAt "abcdefghi" i
def oS (i : Nat) : Str := ("o" : Str) ++ signAt "abcdefghi" i
def rsF (x y : Nat) : List Row := ⟨"f", "top", "folder", some 3⟩ :: ((List.range x).map fun i => ⟨nS i, "f", "item", some 1⟩) ++ (List.range y).map fun i => ⟨oS i, "f", "item", some 1⟩
def esF (x y : Nat) : Wsh := ((List.range x).map fun i => (nS i, true)) ++ (List.range y).map fun i => (oS i, false)
theorem star_cost : ∀ (x y : Fin 10), 1 ≤ x.val → 1 ≤ y.val → cheapI (rsF x.val y.val) (esF x.val y.val) = min (x.val : Int) (y.val : Int) ∧ cheapI (rsF x.val y.val) (topE (some false) (esF x.val y.val)) = min (x.val : Int) (3 + (y.val : Int)) := by decide +kernel
theorem star_nms : ∀ (x y : Fin 10), nmsB ((rsF x.val y.val).map (·.nm)) = true := by decide +kernel
end Ts

set_option maxRecDepth 100000
set_option maxHeartbeats 8000000
namespace Ts
open PySem L2
/-! ### rows in a chain -/
abbrev letters12 : Str := "abcdefghijkl"
def cnN (k : Nat) : Str := ("c" : Str) ++ signAt letters12 k
def cnF : Nat → Str
  | 0 => "top"
  | k + 1 => cnN k
def chainF (f : Nat → Int) (n : Nat) : List Row := (List.range n).map fun k => ⟨cnN k, cnF k, "folder", some (f k)⟩
theorem chainF_snoc (f : Nat → Int) (n : Nat) : chainF f (n + 1) = chainF f n ++ [⟨cnN n, cnF n, "folder", some (f n)⟩] := by
  unfold chainF
  rw [List.range_succ, List.map_append]; rfl
theorem chainF_congr {f g : Nat → Int} {n : Nat} (h : ∀ k, k < n → f k = g k) : chainF f n = chainF g n := by
  unfold chainF
  refine List.map_congr_left fun k hk => ?_
  rw [h k (List.mem_range.mp hk)]
def spChain : Sp := fun vs H Q _ => ∃ (a : Addr) (m n : Int), vs = [.ref a, .int m] ∧ Stm H a n ∧ n ≤ 10000000 ∧ 0 ≤ m ∧ m ≤ 12 ∧
  ∀ (p : Addr) (as : List Addr) (f : Nat → Int) (H' : Hp), H p = none → p ≠ a → H' p = some (.lst (as.map V.ref)) → RowsAt H' as (chainF f m.toNat) → (∀ k, 1 ≤ f k ∧ f k ≤ 5) → SB a H H' → Stm H' a (n + m) → Q (.ref p) H'
section
variable {P : Program} {w : World} {K : PySem.W.Frag} {mg : Str → Option Value} {base : Heap}
abbrev pCn : List Str := ["_law_stream_here", "_law_many"]
abbrev nCn : List Str := ["_law_stream_here", "_law_many", "_law_rows", "_law_folder", "_law_k"]
theorem sc_Lchain : FnScope nCn pCn (defScope s_L_chain_rows) := ⟨rfl, rfl, rfl, by decide +kernel, rfl, by decide +kernel, by decide +kernel⟩
theorem ok_Lchain (D : DefAt K mg "_law_chain_rows" s_L_chain_rows pCn) (B : TxB mg) (Dd : DefAt K mg "_law_draw" s_L_draw pDw) (Gd : FnOk P w K mg base CX0 2 Dd.f Dd.fd pDw spDraw) : FnOk P w K mg base CX0 3 D.f D.fd pCn spChain := by
  refine D.F.ok sc_Lchain (fun vs H Q E h => ?_) (fun cdv A outer s H vs Q E hr h => ?_)
  · obtain ⟨a, m, n, rfl, _⟩ := h
    rfl
  · obtain ⟨a, m, n, rfl, hst, hn, m0, m1, hq⟩ := h
    refine ⟨_, pss_cons (ps_par (i := 2) (j := 3) rfl sc_Lchain.nd rfl rfl (by decide) rfl rfl (pa_cons (pe_lst pa_nil) (pa_cons pe_str pa_nil)) (by rfl))
      (pss_cons (ps_for PassesOwn.never rfl (pi_range1 (by rfl) B.range (pa_cons (pv 1) pa_nil)) (pg_name (i := 4) sc_Lchain.nd rfl (Or.inl rfl))
        (pss_cons (ps_expr (pe_bm PySem.F.plainAttrs_list PySem.F.slot_list_append PySem.F.type_list_append mt_append (pv 2) (pa_cons (pe_tup (pa_cons (pe_op op_add_str pe_str (pe_item_str pe_str (pv 4) (fun _ _ => rfl))) (pa_cons (pv 3) (pa_cons pe_str (pa_cons (pe_op op_add pe_int (pe_call Gd hr rfl Dd.g Dd.F.kp Dd.b .nil pass0 (pa_cons (pv 0) (pa_cons pe_int pa_nil)))) pa_nil))))) pa_nil)))
        (pss_one (ps_set (i := 3) sc_Lchain.nd rfl (.inl rfl) (pe_ix ix_tup (pe_ix ix_list (pv 2) (pe_un un_neg pe_int) (fun _ _ => rfl)) pe_int (fun _ _ => rfl))))))
      (pss_one (ps_ret (pv 2)))), ?_⟩
    refine ⟨Nat.zero_le _, fun p hp => ⟨_, _, rfl, ?_⟩⟩
    have pa : p ≠ a := (hst.ne hp).symm
    have s1 : Same H (upd H p (.lst [])) := Same.new hp
    have e1 : (upd H p (.lst [])) p = some (.lst []) := upd_same
    generalize upd H p (.lst []) = H1 at s1 e1
    refine ⟨_, rfl, m, rfl, by omega, by omega, ?_⟩
    refine for_range (lo := 0) (n := m.toNat) (fun i σ H' => ∃ (as : List Addr) (f : Nat → Int) (v4 : Option V), σ = [some (.ref a), some (.int m), some (.ref p), some (.str (cnF i)), v4] ∧ H' p = some (.lst (as.map V.ref)) ∧ RowsAt H' as (chainF f i) ∧ (∀ k, 1 ≤ f k ∧ f k ≤ 5) ∧ SB a H H' ∧ Stm H' a (n + (i : Int))) ⟨[], fun _ => 1, none, rfl, e1, RowsAt.nil, fun _ => ⟨(by show (1 : Int) ≤ 1; decide), (by show (1 : Int) ≤ 5; decide)⟩, SB.of s1, by simpa using hst.same s1⟩ ?_ ?_
    · rintro i σ H2 hi ⟨as, f, v4, rfl, e2, hr2, hf, sb2, st2⟩
      have hi12 : i < 12 := by omega
      have l12 : letters12.length = 12 := by decide +kernel
      have hk : i < letters12.cps.size := by
        have : letters12.length = letters12.cps.size := rfl
        omega
      have hc : letters12.cps[(0 + (i : Int)).toNat]? = some letters12.cps[i] := by
        rw [show (0 + (i : Int)).toNat = i by omega]; exact Array.getElem?_eq_getElem hk
      refine ⟨_, rfl, .inl ⟨rfl, _, SqL.of e2⟩, _, rfl, _, _, letters12.cps[i], rfl, rfl, by omega, by omega, by rw [l12]; omega, hc, _, _, rfl, rfl, (by show 2 ≤ sizeLine; decide), _, rfl, _, rfl, a, 5, _, rfl, st2, by omega, by decide, by decide, fun r H3 r0 r1 st3 q3 => ?_⟩
      have sb3 : SB a H2 H3 := sb_eq q3
      have e3 := sb3 _ _ pa e2
      have las : as.length ≤ 12 := by
        rw [hr2.len]; unfold chainF; rw [List.length_map, List.length_range]; omega
      have enm : (("c" : Str) ++ (⟨#[letters12.cps[i]]⟩ : Str)) = cnN i := by
        unfold cnN signAt
        rw [Array.getElem?_eq_getElem hk]; rfl
      rw [enm]
      refine ⟨_, _, rfl, rfl, (by show 4 ≤ sizeLine; decide), fun t ht => ?_⟩
      have s4 : Same H3 (upd H3 t (.tup [.str (cnN i), .str (cnF i), .str ("folder" : Str), .int (1 + r)])) := Same.new ht
      have e4 : (upd H3 t (.tup [.str (cnN i), .str (cnF i), .str ("folder" : Str), .int (1 + r)])) t = some (.tup [.str (cnN i), .str (cnF i), .str ("folder" : Str), .int (1 + r)]) := upd_same
      generalize upd H3 t (.tup [V.str (cnN i), V.str (cnF i), V.str ("folder" : Str), V.int (1 + r)]) = H4 at s4 e4
      have e34 := s4 _ _ e3
      refine ⟨p, _, _, rfl, rfl, e34, small1000 (by rw [List.length_map]; omega), ?_⟩
      have tp : t ≠ p := fun q => by rw [q, e34] at e4; cases e4
      have st4 := st3.same s4
      have ep : (upd H4 p (.lst (as.map V.ref ++ [V.ref t]))) p = some (.lst (as.map V.ref ++ [V.ref t])) := upd_same
      have et : (upd H4 p (.lst (as.map V.ref ++ [V.ref t]))) t = some (.tup [.str (cnN i), .str (cnF i), .str ("folder" : Str), .int (1 + r)]) := by rw [upd_ne tp]; exact e4
      refine ⟨_, rfl, _, rfl, p, _, -1, .ref t, rfl, rfl, SqL.of ep, atI_last _ _, t, _, 0, .str (cnN i), rfl, rfl, sqT et, rfl, ?_⟩
      have hrw : RowsAt (upd H4 p (.lst (as.map V.ref ++ [V.ref t]))) as (chainF f i) := ⟨hr2.len, fun j b q hb hq' => by
        have h1 := hr2.at_ j b q hb hq'
        have nb : b ≠ a := fun x => by
          obtain ⟨_, _, _, e, _⟩ := st2
          rw [x, e] at h1; cases h1
        have h2 := s4 _ _ (sb3 _ _ nb h1)
        rw [upd_ne fun x => by rw [x, e34] at h2; cases h2]; exact h2⟩
      have fe : chainF (fun k => if k = i then 1 + r else f k) (i + 1) = chainF f i ++ [⟨cnN i, cnF i, "folder", some (1 + r)⟩] := by
        rw [chainF_snoc, if_pos rfl]
        congr 1
        exact chainF_congr fun k hk' => if_neg (by omega)
      refine ⟨as ++ [t], fun k => if k = i then 1 + r else f k, _, rfl, by rw [ep, List.map_append]; rfl, ?_, fun k => ?_, fun b o nb eb => ?_, ?_⟩
      · rw [fe]
        refine ⟨by rw [List.length_append, List.length_append, hr2.len]; rfl, fun j b q hb hq' => ?_⟩
        have hl := hr2.len
        by_cases hj : j < as.length
        · rw [List.getElem?_append_left hj] at hb
          rw [List.getElem?_append_left (by omega)] at hq'
          exact hrw.at_ j b q hb hq'
        · have hj2 := (List.getElem?_eq_some_iff.mp hb).1
          rw [List.length_append] at hj2
          have hj3 : j = as.length := by simp only [List.length_cons, List.length_nil] at hj2; omega
          subst hj3
          rw [List.getElem?_append_right (Nat.le_refl _), Nat.sub_self] at hb
          rw [hl, List.getElem?_append_right (Nat.le_refl _), Nat.sub_self] at hq'
          cases hb
          cases hq'
          exact et
      · show 1 ≤ (if k = i then 1 + r else f k) ∧ (if k = i then 1 + r else f k) ≤ 5
        by_cases q : k = i
        · rw [if_pos q]; omega
        · rw [if_neg q]; exact hf k
      · have nbp : b ≠ p := ne_of_none eb hp
        rw [upd_ne nbp]; exact s4 _ _ (sb3 _ _ nb (sb2 _ _ nb eb))
      · obtain ⟨x, y, z, e, q⟩ := st4
        exact Stm.mono ⟨x, y, z, by rw [upd_ne pa.symm]; exact e, q⟩ (by push_cast; omega)
    · rintro σ H2 ⟨as, f, v4, rfl, e2, hr2, hf, sb2, st2⟩
      exact ⟨_, rfl, hq p as f H2 hp pa e2 hr2 hf sb2 (st2.mono (by omega))⟩
end
end Ts

set_option maxRecDepth 100000
set_option maxHeartbeats 8000000
namespace Ts
open PySem L2
theorem cnF_foN (k : Nat) : cnF k = foN cnN k := by cases k <;> rfl
theorem chainF_folF (f : Nat → Int) (n : Nat) : chainF f n = folF cnN f n := by
  unfold chainF folF
  exact List.map_congr_left fun k _ => by rw [cnF_foN]
def Kp (H H' : Hp) (xs : List Addr) : Prop := ∀ b o, b ∉ xs → H b = some o → H' b = some o
theorem sb_none {H H' : Hp} {a b : Addr} (s : SB a H H') (n : b ≠ a) (h : H' b = none) : H b = none := by
  cases e : H b with
  | none => rfl
  | some o => rw [s b o n e] at h; cases h
theorem Kp.of {H H' : Hp} (s : Same H H') (xs : List Addr) : Kp H H' xs := fun b o _ e => s b o e
theorem Kp.refl (H : Hp) (xs : List Addr) : Kp H H xs := fun b o _ e => e
theorem Kp.trans {H H' H2 : Hp} {xs : List Addr} (h : Kp H H' xs) (k : Kp H' H2 xs) : Kp H H2 xs := fun b o n e => k b o n (h b o n e)
theorem Kp.sb {H H' : Hp} {a : Addr} {xs : List Addr} (s : SB a H H') (h : a ∈ xs) : Kp H H' xs := fun b o n e => s b o (fun q => n (q ▸ h)) e
theorem Kp.put {H : Hp} {p : Addr} {v : HO} {xs : List Addr} (h : p ∈ xs) : Kp H (upd H p v) xs := fun b o n e => by
  rw [upd_ne fun q => n (by rw [q]; exact h)]; exact e
def NoTup (H : Hp) (xs : List Addr) : Prop := ∀ x ∈ xs, ∀ t, H x ≠ some (.tup t)
theorem RowsAt.kp {H H' : Hp} {as : List Addr} {rs : List Row} {xs : List Addr} (h : RowsAt H as rs) (k : Kp H H' xs) (n : NoTup H xs) : RowsAt H' as rs :=
  ⟨h.len, fun i b r hb hr => k _ _ (fun q => n _ q _ (h.at_ i b r hb hr)) (h.at_ i b r hb hr)⟩
theorem RowsAt.app {H : Hp} : ∀ {bs : List Addr} {qs : List Row} {as : List Addr} {rs : List Row}, RowsAt H as rs → RowsAt H bs qs → RowsAt H (as ++ bs) (rs ++ qs)
  | [], [], as, rs, h, _ => by simpa using h
  | [], q :: qs, _, _, _, k => by have := k.len; simp at this
  | b :: bs, [], _, _, _, k => by have := k.len; simp at this
  | b :: bs, q :: qs, as, rs, h, k => by
    have h1 := h.snoc (k.at_ 0 b q rfl rfl)
    have h2 : RowsAt H bs qs := ⟨by have := k.len; simpa using this, fun i c r hc hr => k.at_ (i + 1) c r hc hr⟩
    have := RowsAt.app h1 h2
    simpa using this
theorem RowsAt.take {H : Hp} {as : List Addr} {rs : List Row} (h : RowsAt H as rs) (n : Nat) : RowsAt H (as.take n) (rs.take n) :=
  ⟨by rw [List.length_take, List.length_take, h.len], fun i b r hb hr => by
    rw [List.getElem?_take] at hb hr
    split at hb
    · rename_i c
      rw [if_pos c] at hr
      exact h.at_ i b r hb hr
    · cases hb⟩
theorem cut_to (xs : List V) (k : Nat) : cutV xs none (some (k : Int)) = xs.take k := by
  unfold cutV
  have sIx_nat : HT.sIx xs.length xs.length (some (k : Int)) = min k xs.length := by
    unfold HT.sIx
    simp only
    rw [if_neg (by omega)]
    omega
  rw [HT.sIx_none, List.drop_zero, sIx_nat, Nat.sub_zero, List.take_eq_take_iff]
  omega
theorem RowsAt.unsnoc {H : Hp} {as : List Addr} {rs : List Row} {r : Row} (h : RowsAt H as (rs ++ [r])) : ∃ bs la, as = bs ++ [la] ∧ H la = some (.tup (rowVs r)) := by
  have hl := h.len
  rw [List.length_append, List.length_singleton] at hl
  have ne : as ≠ [] := fun e => by rw [e] at hl; simp at hl
  refine ⟨as.dropLast, as.getLast ne, (List.dropLast_concat_getLast ne).symm, ?_⟩
  refine h.at_ rs.length _ r ?_ ?_
  · rw [List.getLast_eq_getElem, List.getElem?_eq_getElem (by omega)]
    congr 2; omega
  · rw [List.getElem?_append_right (Nat.le_refl _), Nat.sub_self]; rfl
def spHowC (C : Addr) : Sp := fun vs H Q E => ∃ (t wd : Addr) (rs : List Row) (es : Wsh) (d : Option Bool), vs = [.ref t, .ref wd, dfV d] ∧ TreeAt C H t rs ∧ H wd = some (.dK (kvE es)) ∧ EndsOk rs es ∧ es.length ≤ 150 ∧ OkW rs es d ∧ ∀ H', Same H H' → Q (.int (howI rs (topE d es))) H'
def spCheapC (C CM CH : Addr) : Sp := fun vs H Q E => ∃ (t wd : Addr) (rs : List Row) (es : Wsh) (d : Option Bool), vs = [.ref t, .ref wd, dfV d] ∧ TreeAt C H t rs ∧ H wd = some (.dK (kvE es)) ∧ EndsOk rs es ∧ es.length ≤ 150 ∧ OkW rs es d ∧ ∀ c H', Same H H' → CheAt C CM CH H' c t rs (topE d es) → Q (.ref c) H'
def twoD (a b : List Str) : PyData := .list [.tuple (a.map PyData.str), .tuple (b.map PyData.str)]
theorem twoD_same (a b : List Str) : PyData.eqv (twoD a b) (twoD a b) = true := by
  unfold twoD
  simp only [PyData.eqv, PyData.eqvAll, strs_eqv]
  simp
theorem twoD_shaped {a b : List Str} (h : ∀ x ∈ a, PyData.strOk x = true) (k : ∀ x ∈ b, PyData.strOk x = true) : SeqAt.shaped (twoD a b) = true := by
  unfold SeqAt.shaped twoD
  rw [Bool.and_eq_true]
  refine ⟨by simp only [PyData.canLay0, PyData.canLayAll0, strs_lay a h, strs_lay b k]; rfl, decide_eq_true ?_⟩
  simp only [PyData.depth, PyData.depthAll, strs_depth]
  omega
section
variable {P : Program} {w : World} {K : PySem.W.Frag} {mg : Str → Option Value} {base : Heap} {C CM CB CH : Addr}
theorem how_calm {f : Addr} {fd : FuncData} {k : Nat} (G : FnOk P w K mg base (L2.CX P w) k f fd ["tree", "wish", "default"] (spHow C CB)) : FnOk P w K mg base CX0 k f fd ["tree", "wish", "default"] (spHowC C) := calm G fun vs H Q E h => by
  obtain ⟨t, wd, rs, es, d, rfl, ht, hd, hok, hl, ho, hq⟩ := h
  refine ⟨t, wd, rs, es, d, rfl, ht, hd, hok, hl, fun _ => hq, fun x y hb => ?_⟩
  exfalso
  rcases hb with ⟨_, _, b, h1, h2⟩ | ⟨_, hb⟩
  · exact ho.1 b h1 h2
  · have := ho.2 _ hb.1 _ hb.2.1 hb.2.2
    cases this
theorem cheap_calm {f : Addr} {fd : FuncData} {k : Nat} (G : FnOk P w K mg base (L2.CX P w) k f fd ["tree", "wish", "default"] (spCheapest C CM CB CH)) : FnOk P w K mg base CX0 k f fd ["tree", "wish", "default"] (spCheapC C CM CH) := calm G fun vs H Q E h => by
  obtain ⟨t, wd, rs, es, d, rfl, ht, hd, hok, hl, ho, hq⟩ := h
  refine ⟨t, wd, rs, es, d, rfl, ht, hd, hok, hl, fun _ => hq, fun x y hb => ?_⟩
  exfalso
  rcases hb with ⟨_, _, b, h1, h2⟩ | ⟨_, hb⟩
  · exact ho.1 b h1 h2
  · have := ho.2 _ hb.1 _ hb.2.1 hb.2.2
    cases this
end
end Ts

set_option maxRecDepth 100000
set_option maxHeartbeats 8000000
namespace Ts
open PySem L2
def bestO (os : List Row) (m : Int) : List Str := (os.filter fun r => decide (prI r = m)).map (·.nm)
def cutD (m : Int) (a b : Str) : PyData := .list [.int m, .tuple [.str a], .tuple [.str b]]
theorem cutD_same (m : Int) (a b : Str) : PyData.eqv (cutD m a b) (cutD m a b) = true := by simp [cutD, PyData.eqv, PyData.eqvAll]
theorem cutD_shaped {m : Int} {a b : Str} (h : PyData.strOk a = true) (k : PyData.strOk b = true) : SeqAt.shaped (cutD m a b) = true := by
  unfold SeqAt.shaped cutD
  rw [Bool.and_eq_true]
  refine ⟨by simp only [PyData.canLay0, PyData.canLayAll0, h, k]; rfl, decide_eq_true ?_⟩
  simp only [PyData.depth, PyData.depthAll]
  omega
def spLCut (C CM CH : Addr) : Sp := fun vs H Q _ => ∃ (p c t : Addr) (as : List Addr) (os rs : List Row) (ee : Wsh), vs = [.ref p, .ref c] ∧ H p = some (.lst (as.map V.ref)) ∧ RowsAt H as os ∧ os ≠ [] ∧ os.length ≤ 100 ∧ (∀ r ∈ os, r.pr = some (prI r)) ∧ Valid rs ∧ CheAt C CM CH H c t rs ee ∧
  (∀ m ∈ os.map prI, (∀ y ∈ os.map prI, m ≤ y) → cheapI rs ee = m ∧ turnsG rs (favV rs (tabF rs ee) true) = [(bestO os m).headD "top"] ∧ turnsG rs (favV rs (tabF rs ee) false) = [(bestO os m).getLastD "top"]) ∧ ∀ H', Same H H' → Q (.bl true) H'
section
variable {P : Program} {w : World} {K : PySem.W.Frag} {mg : Str → Option Value} {base : Heap} {C CM CB CH : Addr}
abbrev nCu : List Str := ["_law_rows", "_law_found", "_law_least", "_law_best", "_law_row"]
theorem sc_Lcut : FnScope nCu ["_law_rows", "_law_found"] (defScope s_L_is_cut) := ⟨rfl, rfl, rfl, by decide +kernel, rfl, by decide +kernel, by decide +kernel⟩
theorem filt_moreL' {α : Type} {l : List α} {p : α → Bool} {i : Nat} {y : α} (h : l[i]? = some y) : (l.take (i + 1)).filter p = (l.take i).filter p ++ if p y = true then [y] else [] := filt_moreL h
theorem ok_Lcut (D : DefAt K mg "_law_is_cut" s_L_is_cut ["_law_rows", "_law_found"]) (hM : mg "min" = none) (M : TxM K mg CM) (XH : TxH K mg CH) : FnOk P w K mg base CX0 1 D.f D.fd ["_law_rows", "_law_found"] (spLCut C CM CH) := by
  refine D.F.ok sc_Lcut (fun vs H Q E h => ?_) (fun cdv A outer s H vs Q E hr h => ?_)
  · obtain ⟨p, c, t, as, os, rs, ee, rfl, _⟩ := h
    rfl
  · obtain ⟨p, c, t, as, os, rs, ee, rfl, hp, hrw, hne, hl, hpr, hv, hc, hcut, hq⟩ := h
    have hu := hu_of hr
    have h64 := hr.units
    refine ⟨_, pss_cons (ps_set (i := 2) sc_Lcut.nd rfl (.inr rfl) (pe_callB (cr_min rfl) (by rfl) hM (by decide +kernel) (pa_cons (pe_lc (own := [("_law_row", 4)]) (g := gName 4) (tt := tYes) (te := tOp (rIxT K) (tVar 4) (tC (.int 3))) rfl sc_Lcut.nd (pi_list (pv 0)) (blkOk_by (N := nCu) (sc := defScope s_L_is_cut) (by decide +kernel))
          (fun _ _ _ _ _ => pg_name (i := 4) sc_Lcut.nd rfl (Or.inl rfl)) (fun _ _ _ _ _ => pts_nil) (fun _ _ _ _ _ => by exact pe_ix ix_tup (pv 4) pe_int (fun _ _ => rfl))) pa_nil)))
      (pss_cons (ps_setLc (i := 3) (own := [("_law_row", 4)]) (g := gName 4) (tt := tTest (tOp rEq (tOp (rIxT K) (tVar 4) (tC (.int 3))) (tVar 2))) (te := tOp (rIxT K) (tVar 4) (tC (.int 0))) rfl sc_Lcut.nd rfl rfl (sw_true rfl rfl rfl (by decide +kernel)) (pi_list (pv 0)) (blkOk_by (N := nCu) (sc := defScope s_L_is_cut) (by decide +kernel))
          (fun _ _ _ _ _ => pg_name (i := 4) sc_Lcut.nd rfl (Or.inl rfl)) (fun _ _ _ _ _ => by exact pts_one (pt_cmpR op_eq (pe_ix ix_tup (pv 4) pe_int (fun _ _ => rfl)) (pv 2) (nomark _))) (fun _ _ _ _ _ => by exact pe_ix ix_tup (pv 4) pe_int (fun _ _ => rfl)))
      (pss_one (ps_ret (pe_cmpR (op_eqD h64) (pe_lst (pa_cons (pe_fld (pv 1) rfl) (pa_cons (pe_fld (pe_fld (pv 1) rfl) rfl) (pa_cons (pe_fld (pe_fld (pv 1) rfl) rfl) pa_nil)))) (pe_lst (pa_cons (pv 2) (pa_cons (pe_tup (pa_cons (pe_ix ix_list (pv 3) pe_int (fun _ _ => rfl)) pa_nil)) (pa_cons (pe_tup (pa_cons (pe_ix ix_list (pv 3) (pe_un un_neg pe_int) (fun _ _ => rfl)) pa_nil)) pa_nil)))) (nomark _))))), ?_⟩
    have las := hrw.len
    have cell : ∀ {H' : Hp} {i : Nat} {x : V}, Same H H' → (as.map V.ref)[i]? = some x → ∃ ra r, x = .ref ra ∧ os[i]? = some r ∧ H' ra = some (.tup [.str r.nm, .str r.fo, .str r.ki, .int (prI r)]) := fun {H' i x} s hx => by
      obtain ⟨ra, r, rfl, hra, hr', e0⟩ := rows_at hrw hx
      have e1 := s _ _ e0
      unfold rowVs at e1
      rw [hpr r (List.mem_of_getElem? hr')] at e1
      exact ⟨ra, r, rfl, hr', e1⟩
    refine ⟨_, rfl, p, rfl, ⟨_, SqL.of hp⟩, fun D1 hD1 => ?_⟩
    refine lc_list (K := K) (a := p) (xs := as.map V.ref) (fun i H' => Same H H' ∧ H' D1 = some (.lst (((os.take i).map prI).map V.int))) ⟨Same.new hD1, upd_same⟩ (fun i H' _ m => SqL.of (m.1 _ _ hp)) ?_ ?_
    · rintro i x H3 hx ⟨s3, e3⟩
      obtain ⟨ra, r, rfl, hr', e0⟩ := cell s3 hx
      refine ⟨rfl, tYes_if ⟨_, rfl, ra, _, _, _, rfl, rfl, sqT e0, atI3 _ _ _ _, _, e3, small1000 (by rw [List.length_map, List.length_map, List.length_take]; omega), fun b o eb => ?_, ?_⟩⟩
      · rw [upd_ne (ne_of_none eb hD1)]; exact s3 _ _ eb
      · rw [upd_same, take_more hr', List.map_append, List.map_append]; rfl
    rintro H3 ⟨s3, e3⟩
    rw [List.length_map, las, List.take_length] at e3
    refine ⟨D1, os.map prI, rfl, SqL.of e3, by rw [List.length_map]; exact List.length_pos_iff.mpr hne, fun m hm hmin => ?_⟩
    obtain ⟨c1, c2, c3⟩ := hcut m hm hmin
    refine ⟨_, rfl, p, rfl, ⟨_, SqL.of (s3 _ _ hp)⟩, fun D2 hD2 => ?_⟩
    refine lc_list (K := K) (a := p) (xs := as.map V.ref) (fun i H' => Same H3 H' ∧ H' D2 = some (.lst (((os.take i).filter fun r => decide (prI r = m)).map fun r => V.str r.nm))) ⟨Same.new hD2, upd_same⟩ (fun i H' _ k => SqL.of (k.1 _ _ (s3 _ _ hp))) ?_ ?_
    · rintro i x H4 hx ⟨s4, e4⟩
      obtain ⟨ra, r, rfl, hr', e0⟩ := cell (s3.trans s4) hx
      refine ⟨rfl, _, rfl, ra, _, _, _, rfl, rfl, sqT e0, atI3 _ _ _ _, _, rfl, rfl, _, rfl, ?_⟩
      have ei : decide (V.int (prI r) = V.int m) = decide (prI r = m) := by
        by_cases q : prI r = m
        · rw [q]; simp
        · rw [decide_eq_false q, decide_eq_false fun e => q (V.int.inj e)]
      rw [ei, filt_moreL hr']
      refine ite2 (fun hb => ?_) (fun hb => ?_)
      · rw [if_pos hb, List.map_append]
        have := List.length_filter_le (fun r => decide (prI r = m)) (os.take i)
        rw [List.length_take] at this
        refine ⟨_, rfl, ra, _, _, _, rfl, rfl, sqT e0, atI0 _ _ _ _, _, e4, small1000 (by rw [List.length_map]; omega), fun o ob eb => ?_, upd_same⟩
        rw [upd_ne (ne_of_none eb hD2)]; exact s4 _ _ eb
      · rw [if_neg hb, List.append_nil]
        exact ⟨s4, e4⟩
    rintro H4 ⟨s4, e4⟩
    rw [List.length_map, las, List.take_length] at e4
    have e4 : H4 D2 = some (.lst ((bestO os m).map V.str)) := by rw [e4]; unfold bestO; rw [List.map_map]; rfl
    have S4 := s3.trans s4
    have bne : bestO os m ≠ [] := fun k => by
      obtain ⟨r, hr', e⟩ := List.mem_map.mp hm
      have : r.nm ∈ bestO os m := List.mem_map.mpr ⟨r, List.mem_filter.mpr ⟨hr', decide_eq_true e⟩, rfl⟩
      rw [k] at this; cases this
    obtain ⟨dxc, mw, mn, wl0, hc1, hmw, hmn, _⟩ := (hc.same S4).ex
    obtain ⟨dxw, uw, kw, w1, w2, _⟩ := id hmw.turns.ex
    obtain ⟨dxn, un, kn, n1, n2, _⟩ := id hmn.turns.ex
    have okW : PyData.strOk ((bestO os m).headD "top") = true := names_ok hv _ ((turnsG_sub rs (favV rs (tabF rs ee) true)).subset (by rw [c2]; exact List.mem_singleton_self _))
    have okN : PyData.strOk ((bestO os m).getLastD "top") = true := names_ok hv _ ((turnsG_sub rs (favV rs (tabF rs ee) false)).subset (by rw [c3]; exact List.mem_singleton_self _))
    rw [c2] at w2
    rw [c3] at n2
    rw [c1] at hc1
    have hfst : (bestO os m)[0]? = some ((bestO os m).headD "top") := by
      cases e : bestO os m with
      | nil => exact absurd e bne
      | cons a l => rfl
    obtain ⟨bl, ebl⟩ : ∃ l, bestO os m = l ++ [(bestO os m).getLastD "top"] := by
      cases e : bestO os m with
      | nil => exact absurd e bne
      | cons a l =>
        refine ⟨(a :: l).dropLast, ?_⟩
        rw [← List.getLast_eq_getLastD (a := ("top" : Str)) (by simp)]
        exact (List.dropLast_concat_getLast (by simp)).symm
    have e4' : H4 D2 = some (.lst (bl.map V.str ++ [V.str ((bestO os m).getLastD "top")])) := by
      rw [e4]
      conv => lhs; rw [ebl]
      rw [List.map_append]; rfl
    generalize (bestO os m).headD "top" = bF at *
    generalize (bestO os m).getLastD "top" = bL at *
    refine ⟨_, rfl, c, CH, dxc, _, _, rfl, hc1, XH.cl, XH.nc, chf_c _ _ _ _, _, rfl, c, CH, dxc, _, _, rfl, hc1, XH.cl, XH.nw, chf_w _ _ _ _, mw, CM, dxw, _, _, rfl, w1, M.cl, M.nu, mf_u _ _ _ _, _, rfl, c, CH, dxc, _, _, rfl, hc1, XH.cl, XH.nn, chf_n _ _ _ _, mn, CM, dxn, _, _, rfl, n1, M.cl, M.nu, mf_u _ _ _ _, (by show 3 ≤ sizeLine; decide), fun x1 hx1 => ?_⟩
    have s5 : Same H4 (upd H4 x1 (.lst [V.int m, V.ref uw, V.ref un])) := Same.new hx1
    have e5 : (upd H4 x1 (.lst [V.int m, V.ref uw, V.ref un])) x1 = some (.lst [V.int m, V.ref uw, V.ref un]) := upd_same
    generalize upd H4 x1 (.lst [V.int m, V.ref uw, V.ref un]) = H5 at s5 e5
    refine ⟨_, rfl, _, rfl, D2, _, 0, .str bF, rfl, rfl, SqL.of (s5 _ _ e4), atI_nat (j := 0) (by rw [List.getElem?_map, hfst]; rfl), (by show 1 ≤ sizeLine; decide), fun t1 ht1 => ?_⟩
    have s6 : Same H5 (upd H5 t1 (.tup [V.str bF])) := Same.new ht1
    have e6 : (upd H5 t1 (.tup [V.str bF])) t1 = some (.tup [V.str bF]) := upd_same
    generalize upd H5 t1 (.tup [V.str bF]) = H6 at s6 e6
    refine ⟨_, rfl, _, rfl, D2, _, -1, .str bL, rfl, rfl, SqL.of ((s5.trans s6) _ _ e4'), atI_last _ _, (by show 1 ≤ sizeLine; decide), fun t2 ht2 => ?_⟩
    have s7 : Same H6 (upd H6 t2 (.tup [V.str bL])) := Same.new ht2
    have e7 : (upd H6 t2 (.tup [V.str bL])) t2 = some (.tup [V.str bL]) := upd_same
    generalize upd H6 t2 (.tup [V.str bL]) = H7 at s7 e7
    refine ⟨(by show 3 ≤ sizeLine; decide), fun x2 hx2 => ?_⟩
    have s8 : Same H7 (upd H7 x2 (.lst [V.int m, V.ref t1, V.ref t2])) := Same.new hx2
    have e8 : (upd H7 x2 (.lst [V.int m, V.ref t1, V.ref t2])) x2 = some (.lst [V.int m, V.ref t1, V.ref t2]) := upd_same
    generalize upd H7 x2 (.lst [V.int m, V.ref t1, V.ref t2]) = H8 at s8 e8
    have s58 := s6.trans (s7.trans s8)
    refine ⟨cutD m bF bL, cutD m bF bL, .lst (SqL.of (s58 _ _ e5)) (.cons (.int _) (.cons (.tup (sqT ((s5.trans s58) _ _ w2)) (.cons (.str _) .nil)) (.cons (.tup (sqT ((s5.trans s58) _ _ n2)) (.cons (.str _) .nil)) .nil))), .lst (SqL.of e8) (.cons (.int _) (.cons (.tup (sqT ((s7.trans s8) _ _ e6)) (.cons (.str _) .nil)) (.cons (.tup (sqT (s8 _ _ e7)) (.cons (.str _) .nil)) .nil))), cutD_shaped okW okN, cutD_shaped okW okN, ?_⟩
    rw [cutD_same]
    exact hq _ (S4.trans (s5.trans s58))
end
end Ts

set_option maxRecDepth 100000
set_option maxHeartbeats 8000000
namespace Ts
open PySem L2
/-! ### the chain of the law: some steps locked, the item at its end too -/
def foQ (q : Nat → Option Int) (n : Nat) : List Row := (List.range n).map fun k => ⟨cnN k, foN cnN k, "folder", q k⟩
theorem foQ_snoc (q : Nat → Option Int) (n : Nat) : foQ q (n + 1) = foQ q n ++ [⟨cnN n, foN cnN n, "folder", q n⟩] := by
  unfold foQ
  rw [List.range_succ, List.map_append]; rfl
theorem foQ_congr {f g : Nat → Option Int} {n : Nat} (h : ∀ k, k < n → f k = g k) : foQ f n = foQ g n := by
  unfold foQ
  exact List.map_congr_left fun k hk => by rw [h k (List.mem_range.mp hk)]
theorem foQ_len (q : Nat → Option Int) (n : Nat) : (foQ q n).length = n := by unfold foQ; rw [List.length_map, List.length_range]
theorem foQ_nm (q : Nat → Option Int) (n : Nat) : (foQ q n).map (·.nm) = (List.range n).map cnN := by unfold foQ; rw [List.map_map]; rfl
def itQ (n : Nat) : Row := ⟨"item", foN cnN n, "item", none⟩
def rsQ (q : Nat → Option Int) (n : Nat) : List Row := foQ q n ++ [itQ n]
theorem chainF_snoc' : ∀ {fo : Str} {l : List Row} {r : Row}, ChainF fo l → r.fo = endN fo l → ChainF fo (l ++ [r])
  | _, [], _, _, h2 => ⟨h2, trivial⟩
  | _, a :: l, r, h1, h2 => ⟨h1.1, chainF_snoc' h1.2 h2⟩
theorem foQ_end (q : Nat → Option Int) : ∀ n, endN "top" (foQ q n) = foN cnN n
  | 0 => rfl
  | n + 1 => by rw [foQ_snoc, endN_snoc]; rfl
theorem foQ_chain (q : Nat → Option Int) : ∀ n, ChainF "top" (foQ q n)
  | 0 => trivial
  | n + 1 => by
    rw [foQ_snoc]
    exact chainF_snoc' (foQ_chain q n) (foQ_end q n).symm
theorem rsQ_nm (q : Nat → Option Int) (n : Nat) : (rsQ q n).map (·.nm) = (List.range n).map cnN ++ [("item" : Str)] := by
  unfold rsQ
  rw [List.map_append, foQ_nm]; rfl
theorem rsQ_ok : ∀ n : Fin 12, nmsB ((List.range n.val).map cnN ++ [("item" : Str)]) = true := by decide +kernel
theorem rsQ_nms {n : Nat} (h : n ≤ 11) : NmsOk ((List.range n).map cnN ++ [("item" : Str)]) := nms_ok (rsQ_ok ⟨n, by omega⟩)
theorem valid_foQ {q : Nat → Option Int} (hq : ∀ k, PriceOk (q k)) : ∀ {n : Nat}, n ≤ 11 → Valid (foQ q n)
  | 0, _ => Valid.nil
  | n + 1, hn => by
    rw [foQ_snoc]
    have ok := rsQ_nms (n := n + 1) hn
    rw [List.range_succ, List.map_append] at ok
    refine (valid_foQ hq (by omega)).snoc ⟨(ok.2 (cnN n) (by simp)).1, (ok.2 (cnN n) (by simp)).2, fun h => ?_, ?_, by show ("folder" : Str) ∈ kinds3; decide +kernel, hq n⟩
    · rw [foQ_nm] at h
      have nd := (List.nodup_append.mp (List.nodup_append.mp ok.1).1).2.2
      exact nd _ h _ (by simp) rfl
    · cases n with
      | zero => exact .inl rfl
      | succ m => exact .inr ⟨⟨cnN m, foN cnN m, "folder", q m⟩, by rw [foQ_snoc]; simp, rfl, rfl⟩
theorem valid_rsQ {q : Nat → Option Int} (hq : ∀ k, PriceOk (q k)) {n : Nat} (hn : n ≤ 11) : Valid (rsQ q n) := by
  have ok := rsQ_nms hn
  refine (valid_foQ hq hn).snoc ⟨(ok.2 "item" (by simp)).1, (ok.2 "item" (by simp)).2, fun h => ?_, ?_, by show ("item" : Str) ∈ kinds3; decide +kernel, trivial⟩
  · rw [foQ_nm] at h
    exact (List.nodup_append.mp ok.1).2.2 _ h _ (by show ("item" : Str) ∈ _; simp) rfl
  · show foN cnN n = ("top" : Str) ∨ ∃ r ∈ foQ q n, r.nm = foN cnN n ∧ r.ki = ("folder" : Str)
    cases n with
    | zero => exact .inl rfl
    | succ m => exact .inr ⟨⟨cnN m, foN cnN m, "folder", q m⟩, by rw [foQ_snoc]; simp, rfl, rfl⟩
theorem rsQ_last (q : Nat → Option Int) (n : Nat) : lastN (rsQ q n) = "item" := lastN_snoc _ _
def esA : Wsh := [("top", false), ("item", true)]
def esB : Wsh := [("item", true)]
theorem chr_rsQ {q : Nat → Option Int} (hq : ∀ k, PriceOk (q k)) {n : Nat} (hn : n ≤ 11) {ee : Wsh} (h1 : endO ee "item" = some true) (h2 : endO ee "top" = some false) (h3 : ∀ z : Str, z ≠ "item" → z ≠ "top" → endO ee z = none) : ChR (rsQ q n) ee := by
  have ok := rsQ_nms hn
  rw [← rsQ_nm q n] at ok
  refine ⟨valid_rsQ hq hn, ⟨by unfold rsQ; simp, chainF_snoc' (foQ_chain q n) (foQ_end q n).symm, fun r hr => hr, ok.1, fun h => (ok.2 _ h).2 rfl, by rw [rsQ_last]; exact h1, fun z hz nz => ?_⟩, h2⟩
  rw [rsQ_last] at nz
  exact h3 z nz (ok.2 z hz).2
/-- the open steps -/
def opQ (q : Nat → Option Int) (n : Nat) : List Row := (rsQ q n).filter fun r => decide (r.pr ≠ none)
theorem opQ_pr {q : Nat → Option Int} {n : Nat} : ∀ r ∈ opQ q n, r.pr = some (prI r) := fun r hr => by
  have := of_decide_eq_true (List.mem_filter.mp hr).2
  cases c : r.pr with
  | none => exact absurd c this
  | some p => unfold prI; rw [c]; rfl
theorem cut_rsQ {q : Nat → Option Int} (hq : ∀ k, PriceOk (q k)) {n : Nat} (hn : n ≤ 11) {ee : Wsh} (hR : ChR (rsQ q n) ee) : ∀ m ∈ (opQ q n).map prI, (∀ y ∈ (opQ q n).map prI, m ≤ y) → cheapI (rsQ q n) ee = m ∧ turnsG (rsQ q n) (favV (rsQ q n) (tabF (rsQ q n) ee) true) = [(bestO (opQ q n) m).headD "top"] ∧ turnsG (rsQ q n) (favV (rsQ q n) (tabF (rsQ q n) ee) false) = [(bestO (opQ q n) m).getLastD "top"] := by
  intro m hm hmin
  obtain ⟨r, hr, rfl⟩ := List.mem_map.mp hm
  have hrr := (List.mem_filter.mp hr).1
  have hro := opQ_pr r hr
  have hv := hR.val
  have lt := leS_open hv ⟨r, hrr, by rw [hro]; exact nofun⟩
  have eM : leS (rsQ q n) (rsQ q n) = prI r := by
    have h1 := leS_le (rsQ q n) r hrr
    rw [step_open hro] at h1
    obtain ⟨x, hx, ex⟩ := leS_mem (rsQ q n) (ch := rsQ q n) hR.ch.ne
    have hxo : x.pr ≠ none := fun c => by
      have : stepR (rsQ q n) x = endlessI (rsQ q n) := by unfold stepR; rw [c]; rfl
      omega
    have hxm : x ∈ opQ q n := List.mem_filter.mpr ⟨hx, decide_eq_true hxo⟩
    have := hmin (prI x) (List.mem_map.mpr ⟨x, hxm, rfl⟩)
    rw [step_open (opQ_pr x hxm)] at ex
    omega
  have eB : bestS (rsQ q n) (rsQ q n) = bestO (opQ q n) (prI r) := by
    unfold bestS bestO opQ
    rw [eM, List.filter_filter]
    congr 1
    refine List.filter_congr fun x hx => ?_
    cases c : x.pr with
    | none =>
      have e1 : stepR (rsQ q n) x = endlessI (rsQ q n) := by unfold stepR; rw [c]; rfl
      rw [e1, decide_eq_false (show ¬ endlessI (rsQ q n) = prI r by omega)]
      simp
    | some p =>
      rw [step_open c]
      simp
  refine ⟨by rw [hR.cost, eM], ?_, ?_⟩
  · rw [hR.turns lt true, if_pos rfl]
    unfold firstS
    rw [eB]
  · rw [hR.turns lt false, if_neg Bool.false_ne_true]
    unfold lastS
    rw [eB]
/-- the two wishes -/
structure TwoW (q : Nat → Option Int) (n : Nat) (es : Wsh) (d : Option Bool) : Prop where
  r : ChR (rsQ q n) (topE d es)
  ok : EndsOk (rsQ q n) es
  len : es.length ≤ 2
  tell : opQ q n ≠ [] → OkW (rsQ q n) es d
  bar : opQ q n = [] → ¬ OkW (rsQ q n) es d
  xy : ∀ x y, BarW (rsQ q n) es d x y → x = "item" ∧ y = "top"
theorem two_w {q : Nat → Option Int} (hq : ∀ k, PriceOk (q k)) {n : Nat} (hn : n ≤ 11) {es : Wsh} {d : Option Bool} (h : (es = esA ∧ d = none) ∨ (es = esB ∧ d = some false)) : TwoW q n es d := by
  have ne : ("top" : Str) ≠ "item" := by decide +kernel
  have ee : ∀ e, e ∈ topE d es ↔ e = (("item" : Str), true) ∨ e = (("top" : Str), false) := fun e => by
    rcases h with ⟨rfl, rfl⟩ | ⟨rfl, rfl⟩
    · show e ∈ esA ↔ _
      unfold esA
      simp only [List.mem_cons, List.not_mem_nil, or_false]
      exact or_comm
    · show e ∈ putE esB "top" false ↔ _
      have : putE esB "top" false = [(("item" : Str), true), (("top" : Str), false)] := by decide +kernel
      rw [this]
      simp only [List.mem_cons, List.not_mem_nil, or_false]
  have e1 : endO (topE d es) "item" = some true := by rcases h with ⟨rfl, rfl⟩ | ⟨rfl, rfl⟩ <;> decide +kernel
  have e2 : endO (topE d es) "top" = some false := by rcases h with ⟨rfl, rfl⟩ | ⟨rfl, rfl⟩ <;> decide +kernel
  have e3 : ∀ z : Str, z ≠ "item" → z ≠ "top" → endO (topE d es) z = none := fun z h1 h2 => by
    cases c : endO (topE d es) z with
    | none => rfl
    | some b =>
      rcases (ee _).mp (endO_some c) with k | k
      · exact absurd (Prod.mk.inj k).1 h1
      · exact absurd (Prod.mk.inj k).1 h2
  have hR := chr_rsQ hq hn e1 e2 e3
  have ok : EndsOk (rsQ q n) es := by
    have mi : ("item" : Str) ∈ plc (rsQ q n) := mem_plc.mpr (.inr (by show _ ∈ (rsQ q n).map (·.nm); rw [rsQ_nm]; simp))
    rcases h with ⟨rfl, rfl⟩ | ⟨rfl, rfl⟩
    · refine ⟨by decide +kernel, fun e he => ?_, by decide⟩
      simp only [esA, List.mem_cons, List.not_mem_nil, or_false] at he
      rcases he with rfl | rfl
      · exact mem_plc.mpr (.inl rfl)
      · exact mi
    · refine ⟨by decide +kernel, fun e he => ?_, by decide⟩
      simp only [esB, List.mem_cons, List.not_mem_nil, or_false] at he
      rw [he]; exact mi
  have ll : es.length ≤ 2 := by rcases h with ⟨rfl, rfl⟩ | ⟨rfl, rfl⟩ <;> decide
  have w1 : ∀ b, endO es "top" = some b → d ≠ some (!b) := fun b hb => by
    rcases h with ⟨rfl, rfl⟩ | ⟨rfl, rfl⟩
    · exact nofun
    · have : endO esB "top" = none := by decide +kernel
      rw [this] at hb; cases hb
  have ow := hR.okw (fun e he => by rw [rsQ_last]; exact (ee e).mp he) ⟨by rw [rsQ_last]; exact (ee _).mpr (.inl rfl), (ee _).mpr (.inr rfl)⟩
  have op : opQ q n ≠ [] ↔ ∃ r ∈ rsQ q n, r.pr ≠ none := by
    constructor
    · intro hne
      obtain ⟨r, hr⟩ := List.exists_mem_of_ne_nil _ hne
      exact ⟨r, (List.mem_filter.mp hr).1, of_decide_eq_true (List.mem_filter.mp hr).2⟩
    · rintro ⟨r, hr, hp⟩ e
      have : r ∈ opQ q n := List.mem_filter.mpr ⟨hr, decide_eq_true hp⟩
      rw [e] at this; cases this
  refine ⟨hR, ok, ll, fun hne => ⟨w1, ow.mpr (op.mp hne)⟩, fun he o => op.mpr (ow.mp o.2) he, fun x y hb => ?_⟩
  rcases hb with ⟨_, _, b, h1, h2⟩ | ⟨_, hb⟩
  · exact absurd h2 (w1 b h1)
  · have h1 := (ee _).mp hb.1
    have h2 := (ee _).mp hb.2.1
    refine ⟨?_, ?_⟩
    · rcases h1 with k | k
      · exact (Prod.mk.inj k).1
      · cases (Prod.mk.inj k).2
    · rcases h2 with k | k
      · cases (Prod.mk.inj k).2
      · exact (Prod.mk.inj k).1
end Ts

set_option maxRecDepth 100000
set_option maxHeartbeats 4000000
namespace L2
open PySem PySem.Spec PyProof.Rows
/-! ### == of any thing and a text; != of lists of lists of one and the same thing; list.count of texts -/
theorem dict_eq_no_str (l : Addr) (o : Obj) (b : Str) (u : Tok) :
    Meets (Builtin.«dict.__eq__» ⟨[.ref l, .str b u], []⟩) (fun _ R s => s.heap.get? l = some o ∧ o.cls = .type "dict" ∧ R (.ok (.ret .notImplemented)) s) :=
  .of_wp fun prog w A R s h => by
    obtain ⟨hp, g, d, tk, os⟩ := s
    obtain ⟨hl, hc, h⟩ := h
    have f1 := F.sub_str_dict
    wp_walk
    exact ⟨_, rfl, h⟩
theorem str_eq_no_dict (b : Str) (u : Tok) (l : Addr) (c : Value) (es : Array DictEntry) (ep : Nat) (dd : Option Addr) (sl : Array (Option Value)) :
    Meets (Builtin.«str.__eq__» ⟨[.str b u, .ref l], []⟩) (fun _ R s => s.heap.get? l = some { cls := c, dict := dd, data := .dict es ep, slots := sl } ∧ R (.ok (.ret .notImplemented)) s) :=
  .of_wp fun prog w A R s h => by
    obtain ⟨hp, g, d, tk, os⟩ := s
    obtain ⟨hl, h⟩ := h
    wp_walk using wpAny_load hl
    exact ⟨_, rfl, h⟩
theorem rc_dict_str {A : Around} {s : Shared} {l : Addr} {es : Array DictEntry} {ep : Nat} {dd : Option Addr} {sl : Array (Option Value)} (b : Str) (u : Tok) (ho : s.heap.get? l = some { cls := .type "dict", dict := dd, data := .dict es ep, slots := sl }) (hu : A.units < cLine) : SeqAt.RcAt A s (.ref l) (.str b u) false := fun prog w E Q h =>
  SeqAt.rc_eq_decline_or (k := false) ⟨_, ho, rfl⟩ (typeIs_str s b u) (by decide) F.sub_str_dict F.slot_dict_eq F.slot_str_eq_refl
    (fun _ hq => call_meets F.slot_dict_eq ⟨_, ho, rfl⟩ F.entry_dict_eq (F.args_dict_eq_2 _ _) (dict_eq_no_str l _ b u) ⟨ho, rfl, hq⟩)
    (fun _ hq => call_meets F.slot_str_eq_refl (typeIs_str s b u) F.entry_str_eq (F.args_str_eq_2 _ _) (str_eq_no_dict b u l (.type "dict") es ep dd sl) ⟨ho, hq⟩)
    (fun _ hq => wpAny_of_eq (rfl : isSame (.ref l) (.str b u) = pure false) hq) (.inr hu) h
/-- a thing that is no text -/
def OddV (K : PySem.W.Frag) (H : Hp) (x : V) : Prop := x = .non ∨ (∃ i, x = .int i) ∨ (∃ b, x = .bl b) ∨ (∃ a xs, x = .ref a ∧ SqL K H a xs) ∨ (∃ a xs, x = .ref a ∧ SqT K H a xs) ∨ ∃ a kvs, x = .ref a ∧ H a = some (.dK kvs)
section
variable {X : Cx}
/-- == of any thing and a text -/
def rEqOdd (K : PySem.W.Frag) : R2 := fun x y H Q => ∃ z, y = .str z ∧ ((∃ z', x = .str z' ∧ Q (.bl (decide (z' = z))) H) ∨ (OddV K H x ∧ Q (.bl false) H))
theorem op_eqOdd (hu : X.A.units < cLine) : OpR X (compareOp .Eq) (rEqOdd X.K) := by
  intro pins s σ H x y v u Q I rx ry h
  obtain ⟨z, rfl, h⟩ := h
  obtain ⟨t2, rfl⟩ := ry
  rcases h with ⟨z', rfl, q⟩ | ⟨rfl | ⟨i, rfl⟩ | ⟨b, rfl⟩ | ⟨a, xs, rfl, ha⟩ | ⟨a, xs, rfl, ha⟩ | ⟨a, kvs, rfl, ha⟩, q⟩
  · obtain ⟨t, rfl⟩ := rx
    refine SeqAt.RcAt.str_str z' t z t2 _ _ _ _ ⟨.bl _, H, I, ?_, q⟩
    show Value.bool (z' == z) = Value.bool (decide (z' = z))
    rw [Bool.eq_iff_iff.mpr (show (z' == z) = true ↔ decide (z' = z) = true by simp)]
  · cases rx
    exact SeqAt.RcAt.none_str z t2 _ _ _ _ ⟨.bl false, H, I, rfl, q⟩
  · obtain ⟨t, rfl⟩ := rx
    exact SeqAt.RcAt.int_str i t z t2 _ _ _ _ ⟨.bl false, H, I, rfl, q⟩
  · cases rx
    exact SeqAt.RcAt.bool_str b z t2 _ _ _ _ ⟨.bl false, H, I, rfl, q⟩
  · cases rx
    obtain ⟨its, r1, p1, _⟩ := I.list ha
    exact SeqAt.RcAt.list_str z t2 p1.isList hu _ _ _ _ ⟨.bl false, H, I, rfl, q⟩
  · cases rx
    obtain ⟨its, r1, p1, _⟩ := I.tuple ha
    exact SeqAt.RcAt.tuple_str z t2 p1 hu _ _ _ _ ⟨.bl false, H, I, rfl, q⟩
  · cases rx
    obtain ⟨_, _, vs, _, dd⟩ := (show ObjOk X.prog X.w H s.heap a (.dK kvs) from I.hok a _ ha)
    obtain ⟨⟨cls, dd, data, sl⟩, es, ep, ho, hx, hd, _⟩ := dd
    obtain ⟨h1, h2⟩ := hx
    simp only at h1 hd
    subst h1 hd
    exact rc_dict_str z t2 ho hu _ _ _ _ ⟨.bl false, H, I, rfl, q⟩
/-- != of lists of lists of one and the same thing each -/
def rNeLL (K : PySem.W.Frag) : R2 := fun x y H Q => ∃ (a b : Addr) (as bs : List Addr) (u : V), x = .ref a ∧ y = .ref b ∧ SqL K H a (as.map V.ref) ∧ SqL K H b (bs.map V.ref) ∧ as.length = bs.length ∧ (∀ p ∈ as, SqL K H p [u]) ∧ (∀ p ∈ bs, SqL K H p [u]) ∧ (flatB u = true ∨ ∃ c, u = .ref c) ∧ Q (.bl false) H
theorem op_neLL (hu : X.A.units + 64 < cLine) : OpR X (compareOp .NotEq) (rNeLL X.K) := by
  intro pins s σ H x y v w Q I rx ry h
  obtain ⟨a, b, as, bs, u, rfl, rfl, ha, hb, hl, hA, hB, hu2, q⟩ := h
  cases (show v = Value.ref a from rx)
  cases (show w = Value.ref b from ry)
  obtain ⟨us, r1, p1, _⟩ := I.list ha
  obtain ⟨ws, r2, p2, _⟩ := I.list hb
  have e1 : us.length = as.length := by have := r1.length; rw [List.length_map] at this; exact this.symm
  have e2 : ws.length = bs.length := by have := r2.length; rw [List.length_map] at this; exact this.symm
  have at_ : ∀ {cs : List Addr} {zs : List Value}, Vals (cs.map V.ref) zs → ∀ (j : Nat) (h : j < zs.length), ∃ c ∈ cs, zs[j] = Value.ref c := fun {cs zs} r j h => by
    have e : zs.length = cs.length := by have := r.length; rw [List.length_map] at this; exact this.symm
    obtain ⟨z, hz, rz⟩ := Vals.get (i := j) (x := V.ref (cs[j]'(by omega))) r (by rw [List.getElem?_map, List.getElem?_eq_getElem (by omega)]; rfl)
    rw [List.getElem?_eq_getElem h] at hz
    cases hz
    exact ⟨_, List.getElem_mem _, rz⟩
  have one : ∀ {p : Addr}, SqL X.K H p [u] → ∃ z : Value, RelV u z ∧ s.heap.IsList p #[z] := fun {p} h => by
    obtain ⟨zs, r, pl, _⟩ := I.list h
    cases r with
    | cons r1 r2 => cases r2; exact ⟨_, r1, pl.isList⟩
  refine SeqAt.RcNeAt.lists p1.isList p2.isList (by rw [List.size_toArray, List.size_toArray, e1, e2, hl]) (by omega) (e := fun _ => true) (fun j h1 h2 => ?_) _ _ _ _ ?_
  · obtain ⟨c, hc, ec⟩ := at_ r1 j (by simpa using h1)
    obtain ⟨d, hd, ed⟩ := at_ r2 j (by simpa using h2)
    have ec' : us.toArray[j] = Value.ref c := by simpa using ec
    have ed' : ws.toArray[j] = Value.ref d := by simpa using ed
    rw [ec', ed']
    by_cases e : c = d
    · rw [e]; exact SeqAt.EqAt.same _
    · obtain ⟨z1, k1, l1⟩ := one (hA c hc)
      obtain ⟨z2, k2, l2⟩ := one (hB d hd)
      refine SeqAt.EqAt.of_refs e ?_
      have := SeqAt.RcAt.lists (A := X.A.in1) (e := fun _ => true) l1 l2 rfl (by show X.A.units + 1 < cLine; omega) (fun i h3 h4 => by
        have i0 : i = 0 := by
          have : (#[z1] : Array Value).size = 1 := rfl
          omega
        subst i0
        show SeqAt.EqAt _ s z1 z2 true
        rcases hu2 with f | ⟨c', rfl⟩
        · exact eqAt_same k1 k2 f
        · cases (show z1 = Value.ref c' from k1)
          cases (show z2 = Value.ref c' from k2)
          exact SeqAt.EqAt.same _)
      exact this
  · rw [show ((List.range us.toArray.size).all fun _ => true) = true from List.all_eq_true.mpr fun _ _ => rfl]
    exact ⟨.bl false, H, I, rfl, q⟩
end
section
variable {X : Cx}
def eqs (k : Str) : Value → Bool
  | .str z _ => z == k
  | _ => false
theorem strs_ofV : ∀ {ns : List Str} {us : List Value}, Vals (ns.map V.str) us → ∀ u ∈ us, ∃ z t, u = .str z t
  | [], _, h, u, hu => by cases h; cases hu
  | n :: ns, _, h, u, hu => by
    cases h with
    | cons r1 r2 =>
      obtain ⟨t, rfl⟩ := r1
      rcases List.mem_cons.mp hu with rfl | hu
      · exact ⟨n, t, rfl⟩
      · exact strs_ofV r2 u hu
theorem eqs_count (k : Str) : ∀ {ns : List Str} {us : List Value}, Vals (ns.map V.str) us → us.countP (eqs k) = ns.count k
  | [], _, h => by cases h; rfl
  | n :: ns, _, h => by
    cases h with
    | cons r1 r2 =>
      obtain ⟨t, rfl⟩ := r1
      rw [List.countP_cons, List.count_cons, eqs_count k r2]
      rfl
def rCntS (K : PySem.W.Frag) : V → List V → Hp → VK → Prop := fun x xs H Q => ∃ (p : Addr) (ns : List Str) (k : Str), x = .ref p ∧ xs = [.str k] ∧ SqL K H p (ns.map V.str) ∧ Q (.int (ns.count k : Nat)) H
theorem mt_scount : MtR X "list.count" (rCntS X.K) := by
  intro pins s σ H x xs v us Q I rx rxs h
  obtain ⟨p, ns, k, rfl, rfl, hs, q⟩ := h
  cases rx
  obtain ⟨u, rfl, ru⟩ := rxs.one
  obtain ⟨t, rfl⟩ := ru
  obtain ⟨its, rv, ⟨⟨cls, dd, data, sl⟩, n, ho, hc, hdn, hd⟩, hlen⟩ := I.list hs
  simp only at hc hd
  subst hc hd
  refine call_meets PySem.F.slot_list_count ⟨_, ho, rfl⟩ PySem.F.entry_list_count (PySem.F.args_list_count_2 _ _)
    (SeqAt.list_countAt p its.toArray n dd sl (.str k t) (eqs k)) ⟨ho, fun y hy => ?_, ?_⟩
  · obtain ⟨z, t', rfl⟩ := strs_ofV rv y (by simpa using hy)
    exact SeqAt.EqAt.str_str z t' k t
  have ec : its.toArray.toList.countP (eqs k) = ns.count k := eqs_count k rv
  refine ⟨.int (ns.count k : Nat), H, I.tok _, ⟨s.toks, ?_⟩, q⟩
  show Value.int ((its.toArray.toList.countP (eqs k) : Nat) : Int) s.toks = Value.int ((ns.count k : Nat) : Int) s.toks
  rw [ec]
end
end L2

set_option maxRecDepth 100000
set_option maxHeartbeats 4000000
namespace Ts
open PySem L2
/-! ### what a tree refuses -/
def OddT (K : PySem.W.Frag) (H : Hp) (x : V) : Prop := OddV K H x ∧ Other K H x (.type "str")
/-- no box, no place -/
def OddN (K : PySem.W.Frag) (H : Hp) (rs : List Row) (x : V) : Prop := (∃ z : Str, x = .str z ∧ z ∉ names rs) ∨ OddT K H x
def OddP (K : PySem.W.Frag) (H : Hp) (rs : List Row) (x : V) : Prop := (∃ z : Str, x = .str z ∧ z ≠ ("top" : Str) ∧ z ∉ names rs) ∨ OddT K H x
def spRef (K : PySem.W.Frag) (C CN : Addr) (Od : PySem.W.Frag → Hp → List Row → V → Prop) : Sp := fun vs H Q E => ∃ (t : Addr) (x : V) (rs : List Row), vs = [.ref t, x] ∧ TreeAt C H t rs ∧ Od K H rs x ∧ ∀ d H', H d = none → Same H H' → H' d = some (.xd [("box", x)]) → E (.ref CN) (some d) H'
def spIsPlaceX (K : PySem.W.Frag) (C : Addr) : Sp := fun vs H Q _ => ∃ (t : Addr) (x : V) (rs : List Row), vs = [.ref t, x] ∧ TreeAt C H t rs ∧ OddP K H rs x ∧ Q (.bl false) H
section
variable {P : Program} {w : World} {K : PySem.W.Frag} {mg : Str → Option Value} {base : Heap} {C CN : Addr}
theorem odd_contains {H : Hp} {t : Addr} {rs : List Row} {x : V} {Q : VK} {E : XK} (ht : TreeAt C H t rs) (h : OddN K H rs x) (k : Q (.bl false) H) : spContains K C [.ref t, x] H Q E := by
  rcases h with ⟨z, rfl, hz⟩ | ⟨_, ho⟩
  · refine ⟨t, _, rs, rfl, ht, .inl ⟨z, rfl, ?_⟩⟩
    rw [decide_eq_false hz]; exact k
  · exact ⟨t, _, rs, rfl, ht, .inr ⟨ho, k⟩⟩
theorem OddP.n {H : Hp} {rs : List Row} {x : V} (h : OddP K H rs x) : OddN K H rs x := h.imp (fun ⟨z, e, _, hz⟩ => ⟨z, e, hz⟩) id
theorem ok_check_boxX {fI : Addr} {fdI : FuncData} (D : DefAt K mg "check_box" s_check_box ["tree", "thing"]) (M : MethAt K C "__contains__" "Tree.__contains__" s_Tree_contains ["self", "x"]) (B : TxB mg) (T : TxT K mg C)
    (TN : ErrT K mg CN "NoBox" "box") (iC : PySem.W.findIn K (.ref CN) "__init__" = some (some (.ref fI))) (tI : PySem.W.typeIn K (.ref fI) = some (.type "function")) (GI : FnOk P w K mg base CX0 2 fI fdI ["self", "box"] (spErr1 CN "box")) (bI : Binds K fdI ["self", "box"] []) :
    FnOk P w K mg base (L2.CX P w) 4 D.f D.fd ["tree", "thing"] (spRef K C CN OddN) := by
  have G : FnOk P w K mg base CX0 2 M.f M.fd ["self", "x"] (spContains K C) := ok_Tree_contains M.F B T
  refine D.F.okX sc_check_box (fun vs H Q E h => ?_) (fun cdv A outer s H vs Q E hr h => ?_)
  · obtain ⟨t, x, rs, rfl, _⟩ := h
    rfl
  · obtain ⟨t, x, rs, rfl, ht, hx, hE⟩ := h
    obtain ⟨dx, q, f, k, p, qs, h1, h2⟩ := id ht.ex
    have hr2 : Room 2 _ := hr.mono (by decide)
    refine ⟨_, pss_one (ps_if (pt_cmpR (op_notinC G M.m hr2 M.b pass0) (pv 1) (pv 0) (by rfl)) (pss_one (ps_raise rfl (takes_of rfl rfl rfl rfl) (pmk_oex TN.O iC tI GI hr bI .nil pass0 rfl TN.g (by exact pa_cons (pv 1) pa_nil)))) pss_nil), ?_⟩
    refine ⟨_, rfl, _, rfl, t, dx, _, rfl, h1, odd_contains ht hx ⟨_, rfl, _, rfl, ?_⟩⟩
    refine iteT ?_
    exact ⟨_, rfl, rd_err1 fun d hd => hE d _ hd (Same.new hd) upd_same⟩
theorem ok_is_placeX (D : DefAt K mg "is_place" s_is_place ["tree", "thing"]) (M : MethAt K C "__contains__" "Tree.__contains__" s_Tree_contains ["self", "x"]) (B : TxB mg) (TC : TxC K mg) (T : TxT K mg C) : FnOk P w K mg base CX0 3 D.f D.fd ["tree", "thing"] (spIsPlaceX K C) := by
  have G : FnOk P w K mg base CX0 2 M.f M.fd ["self", "x"] (spContains K C) := ok_Tree_contains M.F B T
  obtain ⟨t1, gT⟩ := TC.top
  refine D.F.ok sc_is_place (fun vs H Q E h => ?_) (fun cdv A outer s H vs Q E hr h => ?_)
  · obtain ⟨t, z, rs, rfl, _⟩ := h
    rfl
  · obtain ⟨t, x, rs, rfl, ht, hx, hq⟩ := h
    have h64 := hr.units
    obtain ⟨dx, q, f, k, p, qs, h1, h2⟩ := id ht.ex
    refine ⟨_, pss_one (ps_ret (pe_or (pe_cmpR (op_eqOdd (Nat.lt_of_le_of_lt (Nat.le_add_right _ _) h64)) (pv 1) (pe_glob (by rfl) gT (v := .str ("top" : Str)) ⟨_, rfl⟩) (nomark _)) (pe_one (pe_cmpR (op_inC G M.m hr M.b pass0) (pv 1) (pv 0) (by rfl))))), ?_⟩
    have fin : ∃ b, V.bl false = V.bl b ∧ if b = true then Q (V.bl true) H else tOp (rInC C (spContains K C) E0) (tVar 1) (tVar 0) (L2.start ["tree", "thing"] [V.ref t, x]) H Q := by
      refine ⟨false, rfl, iteF ?_⟩
      exact ⟨_, rfl, _, rfl, t, dx, _, rfl, h1, odd_contains ht hx.n ⟨_, rfl, hq⟩⟩
    refine ⟨_, rfl, ("top" : Str), rfl, ?_⟩
    rcases hx with ⟨z, rfl, hz1, hz2⟩ | ⟨ho, _⟩
    · refine .inl ⟨z, rfl, ?_⟩
      rw [decide_eq_false hz1]
      exact fin
    · exact .inr ⟨ho, fin⟩
theorem ok_check_placeX {fI : Addr} {fdI : FuncData} (D : DefAt K mg "check_place" s_check_place ["tree", "thing"]) (Db : DefAt K mg "is_place" s_is_place ["tree", "thing"]) (Gb : FnOk P w K mg base CX0 3 Db.f Db.fd ["tree", "thing"] (spIsPlaceX K C))
    (TN : ErrT K mg CN "NoBox" "box") (iC : PySem.W.findIn K (.ref CN) "__init__" = some (some (.ref fI))) (tI : PySem.W.typeIn K (.ref fI) = some (.type "function")) (GI : FnOk P w K mg base CX0 2 fI fdI ["self", "box"] (spErr1 CN "box")) (bI : Binds K fdI ["self", "box"] []) :
    FnOk P w K mg base (L2.CX P w) 4 D.f D.fd ["tree", "thing"] (spRef K C CN OddP) := by
  refine D.F.okX sc_check_place (fun vs H Q E h => ?_) (fun cdv A outer s H vs Q E hr h => ?_)
  · obtain ⟨t, x, rs, rfl, _⟩ := h
    rfl
  · obtain ⟨t, x, rs, rfl, ht, hx, hE⟩ := h
    refine ⟨_, pss_one (ps_if (pt_not (pt_val (pe_call Gb hr rfl Db.g Db.F.kp Db.b .nil pass0 (pa_cons (pv 0) (pa_cons (pv 1) pa_nil))))) (pss_one (ps_raise rfl (takes_of rfl rfl rfl rfl) (pmk_oex TN.O iC tI GI hr bI .nil pass0 rfl TN.g (by exact pa_cons (pv 1) pa_nil)))) pss_nil), ?_⟩
    refine ⟨_, rfl, _, rfl, t, x, rs, rfl, ht, hx, _, rfl, iteT ?_⟩
    exact ⟨_, rfl, rd_err1 fun d hd => hE d _ hd (Same.new hd) upd_same⟩
theorem ok_folderX {f : Addr} {fd : FuncData} (F : Fun K "folder" "Tree.folder" s_Tree_folder f fd) (Db : DefAt K mg "check_box" s_check_box ["tree", "thing"]) (Gb : FnOk P w K mg base (L2.CX P w) 4 Db.f Db.fd ["tree", "thing"] (spRef K C CN OddN)) : FnOk P w K mg base (L2.CX P w) 5 f fd ["self", "box"] (spRef K C CN OddN) := by
  refine F.okX sc_Tree_folder (fun vs H Q E h => ?_) (fun cdv A outer s H vs Q E hr h => ?_)
  · obtain ⟨t, x, rs, rfl, _⟩ := h
    rfl
  · obtain ⟨t, x, rs, rfl, ht, hx, hE⟩ := h
    refine ⟨_, pss_cons (ps_expr (pe_call Gb hr rfl Db.g Db.F.kp Db.b .nil (passes_call (takes_of rfl rfl rfl rfl) (fun _ _ _ _ h => h)) (pa_cons (pv 0) (pa_cons (pv 1) pa_nil)))) pss_never, ?_⟩
    exact ⟨_, rfl, _, rfl, t, x, rs, rfl, ht, hx, hE⟩
theorem ok_kindX {f : Addr} {fd : FuncData} (F : Fun K "kind" "Tree.kind" s_Tree_kind f fd) (Db : DefAt K mg "check_box" s_check_box ["tree", "thing"]) (Gb : FnOk P w K mg base (L2.CX P w) 4 Db.f Db.fd ["tree", "thing"] (spRef K C CN OddN)) : FnOk P w K mg base (L2.CX P w) 5 f fd ["self", "box"] (spRef K C CN OddN) := by
  refine F.okX sc_Tree_kind (fun vs H Q E h => ?_) (fun cdv A outer s H vs Q E hr h => ?_)
  · obtain ⟨t, x, rs, rfl, _⟩ := h
    rfl
  · obtain ⟨t, x, rs, rfl, ht, hx, hE⟩ := h
    refine ⟨_, pss_cons (ps_expr (pe_call Gb hr rfl Db.g Db.F.kp Db.b .nil (passes_call (takes_of rfl rfl rfl rfl) (fun _ _ _ _ h => h)) (pa_cons (pv 0) (pa_cons (pv 1) pa_nil)))) pss_never, ?_⟩
    exact ⟨_, rfl, _, rfl, t, x, rs, rfl, ht, hx, hE⟩
theorem ok_priceX {f : Addr} {fd : FuncData} (F : Fun K "price" "Tree.price" s_Tree_price f fd) (Db : DefAt K mg "check_box" s_check_box ["tree", "thing"]) (Gb : FnOk P w K mg base (L2.CX P w) 4 Db.f Db.fd ["tree", "thing"] (spRef K C CN OddN)) : FnOk P w K mg base (L2.CX P w) 5 f fd ["self", "box"] (spRef K C CN OddN) := by
  refine F.okX sc_Tree_price (fun vs H Q E h => ?_) (fun cdv A outer s H vs Q E hr h => ?_)
  · obtain ⟨t, x, rs, rfl, _⟩ := h
    rfl
  · obtain ⟨t, x, rs, rfl, ht, hx, hE⟩ := h
    refine ⟨_, pss_cons (ps_expr (pe_call Gb hr rfl Db.g Db.F.kp Db.b .nil (passes_call (takes_of rfl rfl rfl rfl) (fun _ _ _ _ h => h)) (pa_cons (pv 0) (pa_cons (pv 1) pa_nil)))) pss_never, ?_⟩
    exact ⟨_, rfl, _, rfl, t, x, rs, rfl, ht, hx, hE⟩
theorem ok_belowX {f : Addr} {fd : FuncData} (F : Fun K "below" "Tree.below" s_Tree_below f fd) (Db : DefAt K mg "check_place" s_check_place ["tree", "thing"]) (Gb : FnOk P w K mg base (L2.CX P w) 4 Db.f Db.fd ["tree", "thing"] (spRef K C CN OddP)) : FnOk P w K mg base (L2.CX P w) 5 f fd ["self", "box"] (spRef K C CN OddP) := by
  refine F.okX sc_Tree_below (fun vs H Q E h => ?_) (fun cdv A outer s H vs Q E hr h => ?_)
  · obtain ⟨t, x, rs, rfl, _⟩ := h
    rfl
  · obtain ⟨t, x, rs, rfl, ht, hx, hE⟩ := h
    refine ⟨_, pss_cons (ps_expr (pe_call Gb hr rfl Db.g Db.F.kp Db.b .nil (passes_call (takes_of rfl rfl rfl rfl) (fun _ _ _ _ h => h)) (pa_cons (pv 0) (pa_cons (pv 1) pa_nil)))) pss_never, ?_⟩
    exact ⟨_, rfl, _, rfl, t, x, rs, rfl, ht, hx, hE⟩
end
end Ts

set_option maxRecDepth 100000
set_option maxHeartbeats 4000000
namespace L2
open PySem PySem.Spec PyProof.Rows
/-! ### whether any thing is in a list or tuple of texts -/
theorem rc_str_dict {A : Around} {s : Shared} {l : Addr} {es : Array DictEntry} {ep : Nat} {dd : Option Addr} {sl : Array (Option Value)} (b : Str) (u : Tok) (ho : s.heap.get? l = some { cls := .type "dict", dict := dd, data := .dict es ep, slots := sl }) (hu : A.units < cLine) : SeqAt.RcAt A s (.str b u) (.ref l) false := fun prog w E Q h =>
  SeqAt.rc_eq_decline_or (k := false) (typeIs_str s b u) ⟨_, ho, rfl⟩ (by decide) F.sub_dict_str F.slot_str_eq F.slot_dict_eq_refl
    (fun _ hq => call_meets F.slot_str_eq (typeIs_str s b u) F.entry_str_eq (F.args_str_eq_2 _ _) (str_eq_no_dict b u l (.type "dict") es ep dd sl) ⟨ho, hq⟩)
    (fun _ hq => call_meets F.slot_dict_eq_refl ⟨_, ho, rfl⟩ F.entry_dict_eq (F.args_dict_eq_2 _ _) (dict_eq_no_str l _ b u) ⟨ho, rfl, hq⟩)
    (fun _ hq => wpAny_of_eq (rfl : isSame (.str b u) (.ref l) = pure false) hq) (.inr hu) h
theorem eqAt_str_dict {A : Around} {s : Shared} {l : Addr} {es : Array DictEntry} {ep : Nat} {dd : Option Addr} {sl : Array (Option Value)} (b : Str) (u : Tok) (ho : s.heap.get? l = some { cls := .type "dict", dict := dd, data := .dict es ep, slots := sl }) (hu : A.units < cLine) : SeqAt.EqAt A s (.str b u) (.ref l) false := fun prog w E Q h => by
  unfold eqBool
  refine wpAny_holding (wpAny_ite_split (fun same => absurd (eq_of_beq same) nofun) fun _ => ?_)
  exact wpAny_bind (rc_str_dict b u ho hu prog w E _ (wpAny_truthy_bool h))
section
variable {X : Cx} {pins : List (Addr × Obj)} {σ : St} {H : Hp} {s : Shared}
/-- a text and a thing that is none -/
theorem odd_eqAt (I : Inv X pins σ H s) {A : Around} {x : V} {v : Value} (h : OddV X.K H x) (r : RelV x v) (z : Str) (t : Tok) (hu : A.units < cLine) : SeqAt.EqAt A s (.str z t) v false := by
  rcases h with rfl | ⟨i, rfl⟩ | ⟨b, rfl⟩ | ⟨a, xs, rfl, ha⟩ | ⟨a, xs, rfl, ha⟩ | ⟨a, kvs, rfl, ha⟩
  · cases r
    exact SeqAt.EqAt.str_none z t
  · obtain ⟨t2, rfl⟩ := r
    exact SeqAt.EqAt.str_int z t i t2
  · cases r
    exact SeqAt.EqAt.str_bool z t b
  · cases r
    obtain ⟨its, _, p, _⟩ := I.list ha
    exact SeqAt.EqAt.str_list z t p.isList hu
  · cases r
    obtain ⟨its, _, p, _⟩ := I.tuple ha
    exact SeqAt.EqAt.str_tuple z t p hu
  · cases r
    obtain ⟨_, _, vs, _, dd⟩ := (show ObjOk X.prog X.w H s.heap a (.dK kvs) from I.hok a _ ha)
    obtain ⟨⟨cls, dd, data, sl⟩, es, ep, ho, hx, hd, _⟩ := dd
    obtain ⟨h1, h2⟩ := hx
    simp only at h1 hd
    subst h1 hd
    exact eqAt_str_dict z t ho hu
def eqStr (z : Str) : Value → Bool
  | .str y _ => y == z
  | _ => false
theorem any_eqStr (z : Str) : ∀ {ns : List Str} {us : List Value}, Vals (ns.map V.str) us → us.any (eqStr z) = decide (z ∈ ns)
  | [], _, h => by cases h; rfl
  | n :: ns, _, h => by
    cases h with
    | cons r1 r2 =>
      obtain ⟨t, rfl⟩ := r1
      rw [List.any_cons, any_eqStr z r2]
      show (n == z || decide (z ∈ ns)) = decide (z ∈ n :: ns)
      by_cases e : n = z
      · rw [decide_eq_true (show z ∈ n :: ns from by rw [e]; exact List.mem_cons_self ..), show (n == z) = true from beq_iff_eq.mpr e, Bool.true_or]
      · rw [show (n == z) = false from beq_eq_false_iff_ne.mpr e, Bool.false_or]
        exact decide_eq_decide.mpr ⟨fun h => List.mem_cons_of_mem _ h, fun h => (List.mem_cons.mp h).resolve_left fun q => e q.symm⟩
/-- x in ts, x not in ts -/
def rInOdd (K : PySem.W.Frag) (neg : Bool) : R2 := fun x y H Q => ∃ (p : Addr) (ns : List Str), y = .ref p ∧ (SqL K H p (ns.map V.str) ∨ SqT K H p (ns.map V.str)) ∧ ((∃ z, x = .str z ∧ Q (.bl (neg != decide (z ∈ ns))) H) ∨ (OddV K H x ∧ Q (.bl neg) H))
end
section
variable {X : Cx}
theorem op_inOdd (hu : X.A.units + 1 < cLine) : OpR X (compareOp .In) (rInOdd X.K false) := by
  intro pins s σ H x y v u Q I rx ry h
  obtain ⟨p, ns, rfl, hq, h⟩ := h
  cases ry
  have hu1 : X.A.in1.units < cLine := hu
  rcases h with ⟨z, rfl, q⟩ | ⟨hx, q⟩
  · obtain ⟨t, rfl⟩ := rx
    have q' : Q (.bl (decide (z ∈ ns))) H := by rw [Bool.false_bne] at q; exact q
    rcases hq with hq | hq
    · obtain ⟨its, r, pl, hz⟩ := I.list hq
      refine SeqAt.in_listAt (eqStr z) pl.isList (fun w hw => ?_) ⟨.bl _, H, I, rfl, ?_⟩
      · obtain ⟨z', t', rfl⟩ := strs_ofV r w (by simpa using hw)
        exact SeqAt.EqAt.str_str z' t' z t
      · rw [show its.toArray.any (eqStr z) = its.any (eqStr z) by simp, any_eqStr z r]; exact q'
    · obtain ⟨its, r, pl, hz⟩ := I.tuple hq
      refine SeqAt.in_tupleAt (eqStr z) pl (fun w hw => ?_) ⟨.bl _, H, I, rfl, ?_⟩
      · obtain ⟨z', t', rfl⟩ := strs_ofV r w (by simpa using hw)
        exact SeqAt.EqAt.str_str z' t' z t
      · rw [show its.toArray.any (eqStr z) = its.any (eqStr z) by simp, any_eqStr z r]; exact q'
  · have none_ : ∀ its : List Value, its.toArray.any (fun _ => false) = false := fun its => by simp
    rcases hq with hq | hq
    · obtain ⟨its, r, pl, hz⟩ := I.list hq
      refine SeqAt.in_listAt (fun _ => false) pl.isList (fun w hw => ?_) ⟨.bl _, H, I, rfl, ?_⟩
      · obtain ⟨z', t', rfl⟩ := strs_ofV r w (by simpa using hw)
        exact odd_eqAt I hx rx z' t' hu1
      · rw [none_]; exact q
    · obtain ⟨its, r, pl, hz⟩ := I.tuple hq
      refine SeqAt.in_tupleAt (fun _ => false) pl (fun w hw => ?_) ⟨.bl _, H, I, rfl, ?_⟩
      · obtain ⟨z', t', rfl⟩ := strs_ofV r w (by simpa using hw)
        exact odd_eqAt I hx rx z' t' hu1
      · rw [none_]; exact q
theorem op_notinOdd (hu : X.A.units + 1 < cLine) : OpR X (compareOp .NotIn) (rInOdd X.K true) := by
  intro pins s σ H x y v u Q I rx ry h
  obtain ⟨p, ns, rfl, hq, h⟩ := h
  cases ry
  have hu1 : X.A.in1.units < cLine := hu
  rcases h with ⟨z, rfl, q⟩ | ⟨hx, q⟩
  · obtain ⟨t, rfl⟩ := rx
    have q' : Q (.bl (!decide (z ∈ ns))) H := by rw [Bool.true_bne] at q; exact q
    rcases hq with hq | hq
    · obtain ⟨its, r, pl, hz⟩ := I.list hq
      refine SeqAt.notIn_listAt (eqStr z) pl.isList (fun w hw => ?_) ⟨.bl _, H, I, rfl, ?_⟩
      · obtain ⟨z', t', rfl⟩ := strs_ofV r w (by simpa using hw)
        exact SeqAt.EqAt.str_str z' t' z t
      · rw [show its.toArray.any (eqStr z) = its.any (eqStr z) by simp, any_eqStr z r]; exact q'
    · obtain ⟨its, r, pl, hz⟩ := I.tuple hq
      refine SeqAt.notIn_tupleAt (eqStr z) pl (fun w hw => ?_) ⟨.bl _, H, I, rfl, ?_⟩
      · obtain ⟨z', t', rfl⟩ := strs_ofV r w (by simpa using hw)
        exact SeqAt.EqAt.str_str z' t' z t
      · rw [show its.toArray.any (eqStr z) = its.any (eqStr z) by simp, any_eqStr z r]; exact q'
  · have none_ : ∀ its : List Value, its.toArray.any (fun _ => false) = false := fun its => by simp
    rcases hq with hq | hq
    · obtain ⟨its, r, pl, hz⟩ := I.list hq
      refine SeqAt.notIn_listAt (fun _ => false) pl.isList (fun w hw => ?_) ⟨.bl _, H, I, rfl, ?_⟩
      · obtain ⟨z', t', rfl⟩ := strs_ofV r w (by simpa using hw)
        exact odd_eqAt I hx rx z' t' hu1
      · rw [none_]; exact q
    · obtain ⟨its, r, pl, hz⟩ := I.tuple hq
      refine SeqAt.notIn_tupleAt (fun _ => false) pl (fun w hw => ?_) ⟨.bl _, H, I, rfl, ?_⟩
      · obtain ⟨z', t', rfl⟩ := strs_ofV r w (by simpa using hw)
        exact odd_eqAt I hx rx z' t' hu1
      · rw [none_]; exact q
end
end L2

set_option maxRecDepth 100000
set_option maxHeartbeats 4000000
namespace Ts
open PySem L2
open LamX (ExtN Tabs TabB)
theorem Same.x {H H' : Hp} (s : Same H H') : ExtN H H' := ExtN.of s
theorem TreeAt.ext {C : Addr} {H H' : Hp} {t : Addr} {rs : List Row} (h : TreeAt C H t rs) (s : ExtN H H') : TreeAt C H' t rs := by
  obtain ⟨dx, q, f, k, p, qs, h1, h2, h3, h4, h5, h6⟩ := h.ex
  exact ⟨⟨dx, q, f, k, p, qs, s _ _ h1 nofun, s _ _ h2 nofun, ⟨h3.len, fun i b r hb hr => s _ _ (h3.at_ i b r hb hr) nofun⟩, s _ _ h4 nofun, s _ _ h5 nofun, s _ _ h6 nofun⟩, h.val, h.len⟩
theorem RowsL.ext {H H' : Hp} {p : Addr} {rs : List Row} (h : RowsL H p rs) (s : ExtN H H') : RowsL H' p rs := by
  obtain ⟨as, h1, h2⟩ := h.ex
  exact ⟨as, s _ _ h1 nofun, ⟨h2.len, fun i b r hb hr => s _ _ (h2.at_ i b r hb hr) nofun⟩⟩
/-- a thing that is no text, new -/
def OddH (H : Hp) (x : V) : Prop := x = .non ∨ (∃ i, x = .int i) ∨ (∃ b, x = .bl b) ∨ (∃ a xs, x = .ref a ∧ H a = some (.lst xs)) ∨ (∃ a xs, x = .ref a ∧ H a = some (.tup xs)) ∨ ∃ a kvs, x = .ref a ∧ H a = some (.dK kvs)
theorem OddH.ext {H H' : Hp} {x : V} (h : OddH H x) (s : ExtN H H') : OddH H' x := by
  rcases h with h | h | h | ⟨a, xs, e, h⟩ | ⟨a, xs, e, h⟩ | ⟨a, xs, e, h⟩
  · exact .inl h
  · exact .inr (.inl h)
  · exact .inr (.inr (.inl h))
  · exact .inr (.inr (.inr (.inl ⟨a, xs, e, s _ _ h nofun⟩)))
  · exact .inr (.inr (.inr (.inr (.inl ⟨a, xs, e, s _ _ h nofun⟩))))
  · exact .inr (.inr (.inr (.inr (.inr ⟨a, xs, e, s _ _ h nofun⟩))))
theorem OddH.t {K : PySem.W.Frag} {H : Hp} {x : V} (h : OddH H x) : OddT K H x := by
  rcases h with rfl | ⟨i, rfl⟩ | ⟨b, rfl⟩ | ⟨a, xs, rfl, h⟩ | ⟨a, xs, rfl, h⟩ | ⟨a, xs, rfl, h⟩
  · exact ⟨.inl rfl, _, .base .non, kit_ty (by decide +kernel)⟩
  · exact ⟨.inr (.inl ⟨i, rfl⟩), _, .base (.int i), kit_ty (by decide +kernel)⟩
  · exact ⟨.inr (.inr (.inl ⟨b, rfl⟩)), _, .base (.bl b), kit_ty (by decide +kernel)⟩
  · exact ⟨.inr (.inr (.inr (.inl ⟨a, xs, rfl, SqL.of h⟩))), _, .base (.lst h), kit_ty (by decide +kernel)⟩
  · exact ⟨.inr (.inr (.inr (.inr (.inl ⟨a, xs, rfl, sqT h⟩)))), _, .base (.tup h), kit_ty (by decide +kernel)⟩
  · exact ⟨.inr (.inr (.inr (.inr (.inr ⟨a, xs, rfl, h⟩)))), _, .base (.dK h), kit_ty (by decide +kernel)⟩
def NoBx (H : Hp) (rs : List Row) (x : V) : Prop := (∃ z : Str, x = .str z ∧ z ∉ names rs) ∨ OddH H x
def NoPl (H : Hp) (rs : List Row) (x : V) : Prop := (∃ z : Str, x = .str z ∧ z ≠ ("top" : Str) ∧ z ∉ names rs) ∨ OddH H x
theorem NoBx.ext {H H' : Hp} {rs : List Row} {x : V} (h : NoBx H rs x) (s : ExtN H H') : NoBx H' rs x := h.imp id fun h => h.ext s
theorem NoPl.ext {H H' : Hp} {rs : List Row} {x : V} (h : NoPl H rs x) (s : ExtN H H') : NoPl H' rs x := h.imp id fun h => h.ext s
theorem NoBx.o {K : PySem.W.Frag} {H : Hp} {rs : List Row} {x : V} (h : NoBx H rs x) : OddN K H rs x := h.imp id OddH.t
theorem NoPl.o {K : PySem.W.Frag} {H : Hp} {rs : List Row} {x : V} (h : NoPl H rs x) : OddP K H rs x := h.imp id OddH.t
theorem NoPl.b {H : Hp} {rs : List Row} {x : V} (h : NoPl H rs x) : NoBx H rs x := h.imp (fun ⟨z, e, _, h⟩ => ⟨z, e, h⟩) id
end Ts

set_option maxRecDepth 100000
set_option maxHeartbeats 4000000
namespace Ts
open PySem L2
open LamX (ExtN Tabs TabB)
/-! ### rows of any things -/
def nmB (z : Str) : Bool := !decide (z = ("top" : Str)) && (!decide (8 < z.length) && (Txt.isascii z && (Txt.isalpha z && Txt.islower z)))
def nameB : V → Bool
  | .str z => nmB z
  | _ => false
def inB (l : List Str) : V → Bool
  | .str z => decide (z ∈ l)
  | _ => false
def numB (n : Int) : V → Bool
  | .int i => decide (n ≤ i)
  | _ => false
def prB : V → Bool
  | .non => true
  | x => numB 1 x
def fitB (N F : List Str) : List V → Bool
  | [a, b, c, d] => nameB a && (!inB N a && (inB F b && (inB kinds3 c && prB d)))
  | _ => false
def nmC : List V → Str
  | .str z :: _ => z
  | _ => ""
def foC : List V → Bool
  | [_, _, c, _] => inB ["folder"] c
  | _ => false
/-- a thing in a row -/
def CellV (H : Hp) (x : V) : Prop := (∃ z : Str, x = .str z ∧ z.length ≤ 100) ∨ OddH H x
theorem CellV.ext {H H' : Hp} {x : V} (h : CellV H x) (s : ExtN H H') : CellV H' x := h.imp id fun h => h.ext s
def isS : V → Bool
  | .str _ => true
  | _ => false
def isI : V → Bool
  | .int _ => true
  | .bl _ => true
  | _ => false
def isBl : V → Bool
  | .bl _ => true
  | _ => false
theorem CellV.ty {K : PySem.W.Frag} {H : Hp} {x : V} (h : CellV H x) : ∃ t, TyX K H x t ∧ PySem.W.kitOne K t (.type "str") = some (isS x) ∧ PySem.W.kitOne K t (.type "int") = some (isI x) ∧ PySem.W.kitOne K t (.type "bool") = some (isBl x) := by
  rcases h with ⟨z, rfl, _⟩ | rfl | ⟨i, rfl⟩ | ⟨b, rfl⟩ | ⟨a, xs, rfl, h⟩ | ⟨a, xs, rfl, h⟩ | ⟨a, xs, rfl, h⟩
  · exact ⟨_, .base (.str z), (show PySem.W.kitOne K (.type "str") (.type "str") = some true from kit_ty (by decide +kernel)), (show PySem.W.kitOne K (.type "str") (.type "int") = some false from kit_ty (by decide +kernel)), (show PySem.W.kitOne K (.type "str") (.type "bool") = some false from kit_ty (by decide +kernel))⟩
  · exact ⟨_, .base .non, (show PySem.W.kitOne K (.type "NoneType") (.type "str") = some false from kit_ty (by decide +kernel)), (show PySem.W.kitOne K (.type "NoneType") (.type "int") = some false from kit_ty (by decide +kernel)), (show PySem.W.kitOne K (.type "NoneType") (.type "bool") = some false from kit_ty (by decide +kernel))⟩
  · exact ⟨_, .base (.int i), (show PySem.W.kitOne K (.type "int") (.type "str") = some false from kit_ty (by decide +kernel)), (show PySem.W.kitOne K (.type "int") (.type "int") = some true from kit_ty (by decide +kernel)), (show PySem.W.kitOne K (.type "int") (.type "bool") = some false from kit_ty (by decide +kernel))⟩
  · exact ⟨_, .base (.bl b), (show PySem.W.kitOne K (.type "bool") (.type "str") = some false from kit_ty (by decide +kernel)), (show PySem.W.kitOne K (.type "bool") (.type "int") = some true from kit_ty (by decide +kernel)), (show PySem.W.kitOne K (.type "bool") (.type "bool") = some true from kit_ty (by decide +kernel))⟩
  · exact ⟨_, .base (.lst h), (show PySem.W.kitOne K (.type "list") (.type "str") = some false from kit_ty (by decide +kernel)), (show PySem.W.kitOne K (.type "list") (.type "int") = some false from kit_ty (by decide +kernel)), (show PySem.W.kitOne K (.type "list") (.type "bool") = some false from kit_ty (by decide +kernel))⟩
  · exact ⟨_, .base (.tup h), (show PySem.W.kitOne K (.type "tuple") (.type "str") = some false from kit_ty (by decide +kernel)), (show PySem.W.kitOne K (.type "tuple") (.type "int") = some false from kit_ty (by decide +kernel)), (show PySem.W.kitOne K (.type "tuple") (.type "bool") = some false from kit_ty (by decide +kernel))⟩
  · exact ⟨_, .base (.dK h), (show PySem.W.kitOne K (.type "dict") (.type "str") = some false from kit_ty (by decide +kernel)), (show PySem.W.kitOne K (.type "dict") (.type "int") = some false from kit_ty (by decide +kernel)), (show PySem.W.kitOne K (.type "dict") (.type "bool") = some false from kit_ty (by decide +kernel))⟩
def NoSq (H : Hp) (y : V) : Prop := y = .non ∨ (∃ i, y = .int i) ∨ (∃ z, y = .str z) ∨ ∃ a kvs, y = .ref a ∧ H a = some (.dK kvs)
theorem NoSq.ext {H H' : Hp} {y : V} (h : NoSq H y) (s : ExtN H H') : NoSq H' y := by
  rcases h with h | h | h | ⟨a, kvs, e, h⟩
  · exact .inl h
  · exact .inr (.inl h)
  · exact .inr (.inr (.inl h))
  · exact .inr (.inr (.inr ⟨a, kvs, e, s _ _ h nofun⟩))
theorem kit_noseq {K : PySem.W.Frag} {T : String} (h1 : PySem.W.kitOne K (.type T) (.type "list") = some false) (h2 : PySem.W.kitOne K (.type T) (.type "tuple") = some false) : PySem.W.kitAny K (.type T) [.type "list", .type "tuple"] = some false := kitAny_cons (b := false) h1 (fun _ => kitAny_cons (b := false) h2 (fun _ => rfl) fun e => nomatch e) fun e => nomatch e
theorem NoSq.ty {K : PySem.W.Frag} {H : Hp} {y : V} (h : NoSq H y) : ∃ t, TyX K H y t ∧ PySem.W.kitAny K t [.type "list", .type "tuple"] = some false := by
  rcases h with rfl | ⟨i, rfl⟩ | ⟨z, rfl⟩ | ⟨a, kvs, rfl, h⟩
  · exact ⟨_, .base .non, kit_noseq (kit_ty (by decide +kernel)) (kit_ty (by decide +kernel))⟩
  · exact ⟨_, .base (.int i), kit_noseq (kit_ty (by decide +kernel)) (kit_ty (by decide +kernel))⟩
  · exact ⟨_, .base (.str z), kit_noseq (kit_ty (by decide +kernel)) (kit_ty (by decide +kernel))⟩
  · exact ⟨_, .base (.dK h), kit_noseq (kit_ty (by decide +kernel)) (kit_ty (by decide +kernel))⟩
/-- a thing among rows: no list and no tuple, or one of such things -/
def ThAt (H : Hp) (y : V) (cs : List V) : Prop := (NoSq H y ∧ cs = []) ∨ ∃ a, y = .ref a ∧ Seq H a cs ∧ cs.length ≤ 10 ∧ ∀ c ∈ cs, CellV H c
theorem Seq.xt {H H' : Hp} {a : Addr} {xs : List V} (h : Seq H a xs) (s : ExtN H H') : Seq H' a xs := h.imp (fun h => s _ _ h nofun) (fun h => s _ _ h nofun)
theorem ThAt.ext {H H' : Hp} {y : V} {cs : List V} (h : ThAt H y cs) (s : ExtN H H') : ThAt H' y cs := by
  rcases h with ⟨h, e⟩ | ⟨a, e, h, l, c⟩
  · exact .inl ⟨h.ext s, e⟩
  · exact .inr ⟨a, e, h.xt s, l, fun x hx => (c x hx).ext s⟩
structure ThL (H : Hp) (ys : List V) (css : List (List V)) : Prop where
  len : ys.length = css.length
  at_ : ∀ (i : Nat) (y : V) (cs : List V), ys[i]? = some y → css[i]? = some cs → ThAt H y cs
theorem ThL.ext {H H' : Hp} {ys : List V} {css : List (List V)} (h : ThL H ys css) (s : ExtN H H') : ThL H' ys css := ⟨h.len, fun i y cs a b => (h.at_ i y cs a b).ext s⟩
/-- names and folders behind some rows -/
def nsA (N : List Str) (css : List (List V)) : List Str := N ++ css.map nmC
def fsA (F : List Str) (css : List (List V)) : List Str := F ++ (css.filter foC).map nmC
def fitAt (N F : List Str) (css : List (List V)) (i : Nat) : Bool := match css[i]? with
  | some cs => fitB (nsA N (css.take i)) (fsA F (css.take i)) cs
  | none => false
inductive DueI (N F : List Str) (css : List (List V)) : Option Nat → Prop
  | fine (h : ∀ i, i < css.length → fitAt N F css i = true) : DueI N F css none
  | bad {i : Nat} (hi : i < css.length) (h : ∀ j, j < i → fitAt N F css j = true) (hb : fitAt N F css i = false) : DueI N F css (some i)
theorem dueI_ex (N F : List Str) (css : List (List V)) : ∃ r, DueI N F css r := by
  have : ∀ n, n ≤ css.length → (∀ i, i < n → fitAt N F css i = true) ∨ ∃ i, i < n ∧ (∀ j, j < i → fitAt N F css j = true) ∧ fitAt N F css i = false := by
    intro n
    induction n with
    | zero => exact fun _ => .inl fun i hi => by omega
    | succ n ih =>
      intro hn
      rcases ih (by omega) with h | ⟨i, hi, h1, h2⟩
      · cases e : fitAt N F css n with
        | true =>
          refine .inl fun i hi => ?_
          by_cases q : i = n
          · rw [q]; exact e
          · exact h i (by omega)
        | false => exact .inr ⟨n, by omega, h, e⟩
      · exact .inr ⟨i, by omega, h1, h2⟩
  rcases this css.length (Nat.le_refl _) with h | ⟨i, hi, h1, h2⟩
  · exact ⟨none, .fine h⟩
  · exact ⟨some i, .bad hi h1 h2⟩
theorem fit_top {N F : List Str} {cs : List V} : fitB (("top" : Str) :: N) F cs = fitB N F cs := by
  unfold fitB
  split
  · rename_i a b c d
    cases a with
    | str z =>
      by_cases e : z = ("top" : Str)
      · subst e
        have : nameB (.str ("top" : Str)) = false := by show nmB _ = false; unfold nmB; simp
        rw [this]; rfl
      · have : inB (("top" : Str) :: N) (.str z) = inB N (.str z) := by
          show decide (z ∈ ("top" : Str) :: N) = decide (z ∈ N)
          exact decide_eq_decide.mpr ⟨fun h => (List.mem_cons.mp h).resolve_left e, fun h => List.mem_cons_of_mem _ h⟩
        rw [this]
    | _ => rfl
  · rfl
theorem fitAt_top {N F : List Str} {css : List (List V)} {i : Nat} : fitAt (("top" : Str) :: N) F css i = fitAt N F css i := by
  unfold fitAt
  split
  · exact fit_top
  · rfl
theorem DueI.top {N F : List Str} {css : List (List V)} {r : Option Nat} (h : DueI (("top" : Str) :: N) F css r) : DueI N F css r := by
  cases h with
  | fine h => exact .fine fun i hi => by rw [← fitAt_top]; exact h i hi
  | bad hi h hb => exact .bad hi (fun j hj => by rw [← fitAt_top]; exact h j hj) (by rw [← fitAt_top]; exact hb)
def spIsNameG : Sp := fun vs H Q _ => ∃ x, vs = [x] ∧ CellV H x ∧ Q (.bl (nameB x)) H
def spIsNumberG : Sp := fun vs H Q _ => ∃ (x : V) (n : Int), vs = [x, .int n] ∧ CellV H x ∧ Q (.bl (numB n x)) H
def spIsPriceG : Sp := fun vs H Q _ => ∃ x, vs = [x] ∧ CellV H x ∧ Q (.bl (prB x)) H
def spIsRowG : Sp := fun vs H Q _ => ∃ (y : V) (d1 d2 : Addr) (cs : List V) (N F : List Str), vs = [y, .ref d1, .ref d2] ∧ ThAt H y cs ∧ MemD H d1 N ∧ MemD H d2 F ∧ ∀ H', Same H H' → Q (.bl (fitB N F cs)) H'
theorem bfalse {b : Bool} {p : Prop} (h : b = false → p) (h2 : b = true → p) : p := by cases b; exact h rfl; exact h2 rfl
section
variable {P : Program} {w : World} {K : PySem.W.Frag} {mg : Str → Option Value} {base : Heap}
theorem ok_is_nameG (D : DefAt K mg "is_name" s_is_name ["thing"]) (B : TxB mg) (C : TxC K mg) : FnOk P w K mg base CX0 2 D.f D.fd ["thing"] spIsNameG := by
  obtain ⟨t1, gT⟩ := C.top
  obtain ⟨t2, gL⟩ := C.long
  refine D.F.ok sc_is_name (fun vs H Q E h => ?_) (fun cdv A outer s H vs Q E hr h => ?_)
  · obtain ⟨z, rfl, _⟩ := h
    rfl
  · obtain ⟨x, rfl, hx, hq⟩ := h
    refine ⟨_, pss_cons (ps_if (PW.pt (pw_or (pt_not (pt_val (pe_callB call_isi (by rfl) B.isinstance (by decide +kernel) (pa_cons (pv 0) (pa_cons (pe_bltn (by rfl) B.str (by decide +kernel) (v := .ty "str") rfl) pa_nil)))))
        (pw_or (pt_cmpR op_eq (pv 0) (pe_glob (by rfl) gT (v := .str ("top" : Str)) ⟨_, rfl⟩) (nomark _)) (pw_or1 (pt_cmpR op_gt (pe_callB call_len (by rfl) B.len PySem.boot_len (pa_cons (pv 0) pa_nil)) (pe_glob (by rfl) gL (v := .int 8) ⟨_, rfl⟩) (nomark _)))))) (pss_one (ps_ret pe_bl)) pss_nil)
      (pss_one (ps_ret (pe_and (pe_m0 PySem.F.slot_str_isascii PySem.F.type_str_isascii mt_isascii (pv 0)) (pe_and (pe_m0 PySem.F.slot_str_isalpha PySem.F.type_str_isalpha mt_isalpha (pv 0)) (pe_one (pe_m0 PySem.F.slot_str_islower PySem.F.type_str_islower mt_islower (pv 0))))))), ?_⟩
    obtain ⟨ty, hty, k1, _, _⟩ := hx.ty (K := K)
    rcases hx with ⟨z, rfl, lz⟩ | ho
    · refine ⟨_, rfl, _, _, _, _, true, rfl, .ty "str", hty, k1, _, rfl, iteF ?_⟩
      refine ⟨_, rfl, rfl, _, rfl, ?_⟩
      have hq' : Q (.bl (nmB z)) H := hq
      unfold nmB at hq'
      by_cases e : z = ("top" : Str)
      · rw [decide_eq_true (show V.str z = V.str ("top" : Str) by rw [e])]
        rw [decide_eq_true e] at hq'
        exact iteT hq'
      rw [decide_eq_false (fun q => e (V.str.inj q))]
      rw [decide_eq_false e] at hq'
      refine iteF ?_
      refine ⟨_, rfl, _, z.length, rfl, ⟨szl (by omega), rfl⟩, _, _, rfl, rfl, _, rfl, ?_⟩
      by_cases e8 : 8 < z.length
      · rw [decide_eq_true (by omega)]
        rw [decide_eq_true e8] at hq'
        exact iteT hq'
      rw [decide_eq_false (by omega)]
      rw [decide_eq_false e8] at hq'
      refine iteF ?_
      refine ⟨_, rfl, ⟨_, rfl⟩, _, rfl, rfl, trivial, _, rfl, ?_⟩
      have hq2 : Q (.bl (Txt.isascii z && (Txt.isalpha z && Txt.islower z))) H := hq'
      cases e1 : Txt.isascii z with
      | false => rw [e1] at hq2; exact iteF hq2
      | true =>
        rw [e1] at hq2
        refine iteT ⟨_, rfl, ⟨_, rfl⟩, _, rfl, rfl, trivial, _, rfl, ?_⟩
        have hq3 : Q (.bl (Txt.isalpha z && Txt.islower z)) H := hq2
        cases e2 : Txt.isalpha z with
        | false => rw [e2] at hq3; exact iteF hq3
        | true =>
          rw [e2] at hq3
          exact iteT ⟨_, rfl, ⟨_, rfl⟩, _, rfl, rfl, trivial, hq3⟩
    · have n1 : isS x = false := by rcases ho with rfl | ⟨i, rfl⟩ | ⟨b, rfl⟩ | ⟨a, xs, rfl, _⟩ | ⟨a, xs, rfl, _⟩ | ⟨a, xs, rfl, _⟩ <;> rfl
      have n2 : nameB x = false := by rcases ho with rfl | ⟨i, rfl⟩ | ⟨b, rfl⟩ | ⟨a, xs, rfl, _⟩ | ⟨a, xs, rfl, _⟩ | ⟨a, xs, rfl, _⟩ <;> rfl
      rw [n1] at k1
      rw [n2] at hq
      exact ⟨_, rfl, _, _, _, _, false, rfl, .ty "str", hty, k1, _, rfl, iteT hq⟩
theorem ok_is_numberG (D : DefAt K mg "is_number" s_is_number ["thing", "least"]) (B : TxB mg) : FnOk P w K mg base CX0 1 D.f D.fd ["thing", "least"] spIsNumberG := by
  refine D.F.ok sc_is_number (fun vs H Q E h => ?_) (fun cdv A outer s H vs Q E hr h => ?_)
  · obtain ⟨z, n, rfl, _⟩ := h
    rfl
  · obtain ⟨x, n, rfl, hx, hq⟩ := h
    refine ⟨_, (pss_one (ps_ret (pe_and (pe_callB call_isi (by rfl) B.isinstance (by decide +kernel) (pa_cons (pv 0) (pa_cons (pe_bltn (by rfl) B.int (by decide +kernel) (v := .ty "int") rfl) pa_nil)))
        (pe_and (pe_not (pe_callB call_isi (by rfl) B.isinstance (by decide +kernel) (pa_cons (pv 0) (pa_cons (pe_bltn (by rfl) B.bool (by decide +kernel) (v := .ty "bool") rfl) pa_nil)))) (pe_one (pe_cmpR op_ge (pv 0) (pv 1) (nomark _))))))), ?_⟩
    obtain ⟨ty, hty, _, k2, k3⟩ := hx.ty (K := K)
    refine ⟨_, rfl, _, _, _, _, isI x, rfl, .ty "int", hty, k2, _, rfl, ?_⟩
    rcases hx with ⟨z, rfl, lz⟩ | rfl | ⟨i, rfl⟩ | ⟨b, rfl⟩ | ⟨a, xs, rfl, _⟩ | ⟨a, xs, rfl, _⟩ | ⟨a, xs, rfl, _⟩
    · exact iteF hq
    · exact iteF hq
    · refine iteT ⟨_, rfl, _, _, _, _, false, rfl, .ty "bool", hty, k3, _, rfl, _, rfl, iteT ?_⟩
      exact ⟨_, rfl, _, rfl, _, _, rfl, rfl, hq⟩
    · exact iteT ⟨_, rfl, _, _, _, _, true, rfl, .ty "bool", hty, k3, _, rfl, _, rfl, iteF hq⟩
    · exact iteF hq
    · exact iteF hq
    · exact iteF hq
theorem ok_is_priceG (D : DefAt K mg "is_price" s_is_price ["thing"]) (B : TxB mg) (C : TxC K mg) : FnOk P w K mg base CX0 2 D.f D.fd ["thing"] spIsPriceG := by
  have Gn : FnOk P w K mg base CX0 1 C.num.f C.num.fd ["thing", "least"] spIsNumberG := ok_is_numberG C.num B
  refine D.F.ok sc_is_price (fun vs H Q E h => ?_) (fun cdv A outer s H vs Q E hr h => ?_)
  · obtain ⟨z, rfl, _⟩ := h
    rfl
  · obtain ⟨x, rfl, hx, hq⟩ := h
    refine ⟨_, (pss_one (ps_ret (pe_or (pe_cmpR op_isN (pv 0) pe_non (nomark _)) (pe_one (pe_call Gn hr rfl C.num.g C.num.F.kp C.num.b .nil pass0 (pa_cons (pv 0) (pa_cons pe_int pa_nil))))))), ?_⟩
    refine ⟨_, rfl, rfl, _, rfl, ?_⟩
    by_cases e : x = .non
    · subst e
      rw [decide_eq_true rfl]
      exact iteT hq
    · rw [decide_eq_false e]
      have e2 : prB x = numB 1 x := by cases x <;> first | rfl | exact absurd rfl e
      rw [e2] at hq
      exact iteF ⟨_, rfl, x, 1, rfl, hx, hq⟩
end
end Ts

set_option maxRecDepth 100000
set_option maxHeartbeats 4000000
namespace Ts
open PySem L2
/-- the boxes on one of two ways alone -/
def stepsL (rs : List Row) (x y : Str) : List Str := (names rs).filter fun z => decide (((wayOf rs x ++ wayOf rs y).count z : Nat) = 1)
def spSteps (C : Addr) : Sp := fun vs H Q _ => ∃ (t : Addr) (x y : Str) (rs : List Row), vs = [.ref t, .str x, .str y] ∧ TreeAt C H t rs ∧ (x = ("top" : Str) ∨ x ∈ names rs) ∧ (y = ("top" : Str) ∨ y ∈ names rs) ∧
  ∀ D H', H D = none → Same H H' → H' D = some (.lst ((stepsL rs x y).map V.str)) → Q (.ref D) H'
section
variable {P : Program} {w : World} {K : PySem.W.Frag} {mg : Str → Option Value} {base : Heap} {C : Addr}
abbrev nSteps : List Str := ["self", "one", "other", "ways", "name"]
theorem sc_Tree_steps : FnScope nSteps ["self", "one", "other"] (defScope s_Tree_steps) := ⟨rfl, rfl, rfl, by decide +kernel, rfl, by decide +kernel, by decide +kernel⟩
theorem ok_Tree_steps {f : Addr} {fd : FuncData} (F : Fun K "steps" "Tree.steps" s_Tree_steps f fd) (T : TxT K mg C) (mW : MethAt K C "way" "Tree.way" s_Tree_way ["self", "box"]) (GW : FnOk P w K mg base CX0 5 mW.f mW.fd ["self", "box"] (spListOf C wayOf)) :
    FnOk P w K mg base CX0 6 f fd ["self", "one", "other"] (spSteps C) := by
  refine F.ok sc_Tree_steps (fun vs H Q E h => ?_) (fun cdv A outer s H vs Q E hr h => ?_)
  · obtain ⟨t, x, y, rs, rfl, _⟩ := h
    rfl
  · obtain ⟨t, x, y, rs, rfl, ht, hx, hy, hq⟩ := h
    obtain ⟨dx, q, f, k, p, qs, h1, h2, h3, h4, h5, h6⟩ := id ht.ex
    refine ⟨_, pss_cons (ps_set (i := 3) sc_Tree_steps.nd rfl (.inr rfl) (pe_op op_cat (pe_meth (pv 0) T.cl mW.m GW hr mW.b .nil pass0 (pa_cons (pv 1) pa_nil)) (pe_meth (pv 0) T.cl mW.m GW hr mW.b .nil pass0 (pa_cons (pv 2) pa_nil))))
      (pss_one (ps_ret (pe_lock (pe_lc (own := [("name", 4)]) (g := gName 4) (tt := tTest (tOp rEq (tBM K "list" (rCntS K) (tVar 3) (tCons (tVar 4) tNil)) (tC (.int 1)))) (te := tVar 4) rfl sc_Tree_steps.nd (pi_keys (pe_fld (pv 0) rfl)) (blkOk_by (N := nSteps) (sc := defScope s_Tree_steps) (by decide +kernel))
        (fun _ _ _ _ _ => pg_name (i := 4) sc_Tree_steps.nd rfl (Or.inl rfl)) (fun _ _ _ _ _ => by exact pts_one (pt_cmpR op_eq (pe_bm PySem.F.plainAttrs_list PySem.F.slot_list_count PySem.F.type_list_count mt_scount (pv 3) (pa_cons (pv 4) pa_nil)) pe_int (nomark _))) (fun _ _ _ _ _ => pv 4))))), ?_⟩
    have noW : (tf q f k p).lookup ("way" : Str) = none := tf_no _ _ _ _ (by decide +kernel) (by decide +kernel) (by decide +kernel) (by decide +kernel)
    have l100 := ht.len
    have lx := way_len (rs := rs) (z := x)
    have ly := way_len (rs := rs) (z := y)
    refine ⟨_, rfl, t, dx, _, rfl, h1, noW, _, rfl, t, x, rs, rfl, ht, hx, fun D1 H1 n1 s1 e1 => ?_⟩
    refine ⟨_, rfl, t, dx, _, rfl, s1 _ _ h1, noW, _, rfl, t, y, rs, rfl, ht.same s1, hy, fun D2 H2 n2 s2 e2 => ?_⟩
    refine ⟨D1, D2, _, _, rfl, rfl, s2 _ _ e1, e2, szl (by rw [List.length_map, List.length_map]; omega), fun W hW => ?_⟩
    rw [← List.map_append]
    have s3 : Same H (upd H2 W (.lst ((wayOf rs x ++ wayOf rs y).map V.str))) := (s1.trans s2).trans (Same.new hW)
    have e3 : (upd H2 W (.lst ((wayOf rs x ++ wayOf rs y).map V.str))) W = some (.lst ((wayOf rs x ++ wayOf rs y).map V.str)) := upd_same
    have h1' := s3 _ _ h1
    have h4' := s3 _ _ h4
    generalize upd H2 W (.lst ((wayOf rs x ++ wayOf rs y).map V.str)) = H3 at s3 e3 h1' h4'
    refine ⟨f, _, h4', trivial, fun od => ?_⟩
    have tf_ : t ≠ f := ne_of h1' h4' (by intro x; cases x)
    have Wf : W ≠ f := ne_of e3 h4' (by intro x; cases x)
    refine ⟨_, rfl, t, C, dx, _, _, rfl, Eq.trans (upd_ne tf_) h1', T.cl, T.nf, tf_f _ _ _ _, f, od, rfl, .inl ⟨_, upd_same, fun D hD => ?_⟩⟩
    have Df : D ≠ f := fun e => by rw [e, upd_same] at hD; cases hD
    have hD0 : H3 D = none := by rw [upd_ne Df] at hD; exact hD
    refine lc_it (walk_keys (d := f) (o := od) (kvs := kvF (fun r => .str r.fo) rs)) (fun i H' => Same (upd H3 f (.frz od (.dK (kvF (fun r => .str r.fo) rs)))) H' ∧ H' D = some (.lst ((((names rs).take i).filter fun z => decide (((wayOf rs x ++ wayOf rs y).count z : Nat) = 1)).map V.str))) ⟨Same.new hD, upd_same⟩ (fun i H' _ m => m.1 _ _ upd_same) ?_ ?_
    · rintro i u H4 H4' hi ⟨sm, hDi⟩ ⟨rfl, k', v', hk, rfl⟩
      obtain ⟨r, hr', rfl, rfl⟩ := kvF_at hk
      have hn : (names rs)[i]? = some r.nm := by unfold names; rw [List.getElem?_map, hr']; rfl
      have eW : H4' W = some (.lst ((wayOf rs x ++ wayOf rs y).map V.str)) := sm _ _ (by rw [upd_ne Wf]; exact e3)
      have i100 : i < 100 := by
        have := (List.getElem?_eq_some_iff.mp hr').1
        omega
      refine ⟨rfl, _, rfl, .inl ⟨rfl, _, SqL.of eW⟩, _, rfl, W, _, r.nm, rfl, rfl, SqL.of eW, rfl, _, rfl, ?_⟩
      refine ite2 (fun hc => ?_) (fun hc => ?_)
      · have hc' : ((wayOf rs x ++ wayOf rs y).count r.nm : Nat) = 1 := by
          have := V.int.inj (of_decide_eq_true hc)
          omega
        refine ⟨_, rfl, _, hDi, small1000 ?_, fun b o e => ?_, ?_⟩
        · rw [List.length_map]
          have := List.length_filter_le (fun z => decide (((wayOf rs x ++ wayOf rs y).count z : Nat) = 1)) ((names rs).take i)
          rw [List.length_take] at this
          omega
        · rw [upd_ne (fun q => by rw [q, hD] at e; cases e)]
          exact sm b o e
        · rw [upd_same, take_more hn, List.filter_append, List.filter_cons_of_pos (by rw [decide_eq_true hc']), List.map_append]; rfl
      · have hc' : ¬ ((wayOf rs x ++ wayOf rs y).count r.nm : Nat) = 1 := fun q => hc (by rw [q]; rfl)
        refine ⟨sm, ?_⟩
        rw [take_more hn, List.filter_append, List.filter_cons_of_neg (by rw [decide_eq_false hc']; exact Bool.false_ne_true), List.filter_nil, List.append_nil]
        exact hDi
    · rintro H4 ⟨sm, hDD⟩
      have e : (kvF (fun r => V.str r.fo) rs).length = (names rs).length := by unfold kvF names; rw [List.length_map, List.length_map]
      rw [e, List.take_length] at hDD
      refine ⟨sm _ _ upd_same, ?_⟩
      refine hq D _ (s3.free hD0) (s3.trans fun b o e => ?_) ?_
      · by_cases hb : b = f
        · rw [hb, upd_same, ← h4', ← hb]; exact e
        · rw [upd_ne hb]; exact sm _ _ (by rw [upd_ne hb]; exact e)
      · rw [upd_ne Df]; exact hDD
end
end Ts

set_option maxRecDepth 100000
set_option maxHeartbeats 4000000
namespace Ts
open PySem L2
theorem end_plc {rs : List Row} {es : Wsh} (h : EndsOk rs es) {z : Str} {b : Bool} (e : endO es z = some b) : z = ("top" : Str) ∨ z ∈ names rs := mem_plc.mp (h.inp _ (endO_some e))
end Ts

set_option maxRecDepth 100000
set_option maxHeartbeats 8000000
namespace Ts
open PySem L2
open LamX (ExtN Tabs TabB)
/-! ### what the law asks of ways -/
def intB : V → Bool
  | .int _ => true
  | _ => false
theorem wayR_nd : ∀ (l : List Row), (l.map (·.nm)).Nodup → ∀ z, (wayR l z).Nodup ∧ ∀ y ∈ wayR l z, y ∈ l.map (·.nm) := by
  intro l
  induction l with
  | nil => exact fun _ z => ⟨List.nodup_nil, fun y hy => by cases hy⟩
  | cons r l ih =>
    intro nd z
    rw [List.map_cons, List.nodup_cons] at nd
    unfold wayR
    split
    · rename_i e
      obtain ⟨h1, h2⟩ := ih nd.2 r.fo
      refine ⟨?_, fun y hy => ?_⟩
      · refine List.nodup_append.mpr ⟨h1, by simp, fun a ha b hb q => ?_⟩
        rw [List.mem_singleton] at hb
        subst q
        have := h2 a ha
        rw [hb, ← e] at this
        exact nd.1 this
      · rcases List.mem_append.mp hy with hy | hy
        · exact List.mem_cons_of_mem _ (h2 y hy)
        · rw [List.mem_singleton.mp hy, ← e]; exact List.mem_cons_self ..
    · obtain ⟨h1, h2⟩ := ih nd.2 z
      exact ⟨h1, fun y hy => List.mem_cons_of_mem _ (h2 y hy)⟩
theorem wayOf_nd {rs : List Row} (hv : Valid rs) (z : Str) : (wayOf rs z).Nodup ∧ ∀ y ∈ wayOf rs z, y ∈ names rs := by
  obtain ⟨h1, h2⟩ := wayR_nd rs.reverse (by rw [List.map_reverse]; exact (List.reverse_perm _).nodup_iff.mpr hv.nodup) z
  exact ⟨h1, fun y hy => by have := h2 y hy; rw [List.map_reverse, List.mem_reverse] at this; exact this⟩
def lawSteps (rs : List Row) (x y : Str) : List Str := (wayOf rs x ++ wayOf rs y).filter fun z => !decide (decide (z ∈ wayOf rs x) = decide (z ∈ wayOf rs y))
theorem cnt_one {l : List Str} (h : l.Nodup) (z : Str) : l.count z = if z ∈ l then 1 else 0 := by
  rw [List.Nodup.count h]
theorem mem_lawSteps {rs : List Row} (hv : Valid rs) (x y z : Str) : z ∈ lawSteps rs x y ↔ z ∈ stepsL rs x y := by
  unfold lawSteps stepsL
  rw [List.mem_filter, List.mem_filter, List.mem_append, List.count_append, cnt_one (wayOf_nd hv x).1, cnt_one (wayOf_nd hv y).1]
  have hx := (wayOf_nd hv x).2 z
  have hy := (wayOf_nd hv y).2 z
  by_cases a : z ∈ wayOf rs x <;> by_cases b : z ∈ wayOf rs y <;> simp [a, b] <;> first | exact hx a | exact hy b
def spLWith : Sp := fun vs H Q _ => ∃ (wd : Addr) (z : Str) (b : Bool) (es : Wsh), vs = [.ref wd, .str z, .bl b] ∧ H wd = some (.dK (kvE es)) ∧ es.length ≤ 150 ∧ ∀ D H', H D = none → Same H H' → H' D = some (.dK (kvE (putE es z b))) → Q (.ref D) H'
def spLPins : Sp := fun vs H Q _ => ∃ (wd : Addr) (d : Option Bool) (es : Wsh), vs = [.ref wd, dfV d] ∧ H wd = some (.dK (kvE es)) ∧ es.length ≤ 150 ∧ ∀ D H', H D = none → Same H H' → H' D = some (.dK (kvE (topE d es))) → Q (.ref D) H'
def spLSteps : Sp := fun vs H Q _ => ∃ (p : Addr) (x y : Str) (rs : List Row), vs = [.ref p, .str x, .str y] ∧ RowsL H p rs ∧ Valid rs ∧ rs.length ≤ 100 ∧ x ∈ plc rs ∧ y ∈ plc rs ∧ ∀ D H', H D = none → Same H H' → H' D = some (.lst ((lawSteps rs x y).map V.str)) → Q (.ref D) H'
def spLInt : Sp := fun vs H Q _ => ∃ x, vs = [x] ∧ CellV H x ∧ Q (.bl (intB x)) H
section
variable {P : Program} {w : World} {K : PySem.W.Frag} {mg : Str → Option Value} {base : Heap} {C CB : Addr}
abbrev pLw : List Str := ["_law_things", "_law_key", "_law_value"]
abbrev nLw : List Str := ["_law_things", "_law_key", "_law_value", "_law_found"]
abbrev pLp : List Str := ["_law_wish_here", "_law_default_here"]
abbrev pLs : List Str := ["_law_rows_here", "_law_one", "_law_other"]
abbrev nLs : List Str := ["_law_rows_here", "_law_one", "_law_other", "_law_mine", "_law_theirs", "_law_name_here"]
theorem filt_moreS {l : List Str} {p : Str → Bool} {i : Nat} {y : Str} (h : l[i]? = some y) : (l.take (i + 1)).filter p = (l.take i).filter p ++ if p y = true then [y] else [] := by
  rw [take_more h, List.filter_append]
  by_cases q : p y = true
  · rw [if_pos q]; simp [q]
  · rw [if_neg q]; simp [q]
end
end Ts

set_option maxRecDepth 100000
set_option maxHeartbeats 1000000
namespace Ts
open PySem PySem.Spec PyProof.Rows L2 SeqAt
/-- a list == [] -/
def rEqNil (K : PySem.W.Frag) : R2 := fun x y H Q => ∃ (a b : Addr) (xs : List V), x = .ref a ∧ y = .ref b ∧ SqL K H a xs ∧ SqL K H b [] ∧ Q (.bl xs.isEmpty) H
theorem op_eqNil {X : Cx} (hu : X.A.units < cLine) : OpR X (compareOp .Eq) (rEqNil X.K) := by
  intro pins s σ H x y v u Q I rx ry h
  obtain ⟨a, b, xs, rfl, rfl, ha, hb, q⟩ := h
  cases (show v = Value.ref a from rx)
  cases (show u = Value.ref b from ry)
  obtain ⟨us, r1, p1, _⟩ := I.list ha
  obtain ⟨ws, r2, p2, _⟩ := I.list hb
  have l1 := r1.length
  have l2 := r2.length
  cases xs with
  | nil =>
    refine eq_listAt (e := fun _ => true) p1.isList p2.isList (by rw [List.size_toArray, List.size_toArray, ← l1, ← l2]) hu (fun j h1 h2 => ?_) ?_
    · rw [List.size_toArray, ← l1] at h1
      exact absurd h1 (by simp)
    · rw [List.size_toArray, ← l1]
      exact ⟨.bl true, H, I, rfl, q⟩
  | cons c cs =>
    refine eq_list_lengthsAt p1.isList p2.isList ?_ hu ⟨.bl false, H, I, rfl, q⟩
    rw [List.size_toArray, List.size_toArray, ← l1, ← l2]
    simp
end Ts

set_option maxRecDepth 100000
set_option maxHeartbeats 8000000
namespace Ts
open PySem L2
open LamX (ExtN Tabs TabB)
/-- what lists there are stay lists, the rest stays -/
def LK (H H' : Hp) : Prop := ∀ b o, H b = some o → H' b = some o ∨ ((∃ xs, o = .lst xs) ∧ ∃ ys, H' b = some (.lst ys))
theorem LK.of {H H' : Hp} (s : Same H H') : LK H H' := fun b o e => .inl (s _ _ e)
theorem LK.trans {H H' H2 : Hp} (h : LK H H') (h2 : LK H' H2) : LK H H2 := fun b o e => by
  rcases h b o e with h | ⟨⟨xs, rfl⟩, ys, h⟩
  · exact h2 b o h
  · rcases h2 b _ h with k | ⟨_, zs, k⟩
    · exact .inr ⟨⟨xs, rfl⟩, ys, k⟩
    · exact .inr ⟨⟨xs, rfl⟩, zs, k⟩
theorem LK.sb {H H' : Hp} {a : Addr} {n m : Int} (st : Stm H a n) (s : SB a H H') (st' : Stm H' a m) : LK H H' := fun b o e => by
  by_cases q : b = a
  · obtain ⟨x, y, z, e1, _⟩ := st
    obtain ⟨x', y', z', e2, _⟩ := st'
    subst q
    rw [e1] at e
    exact .inr ⟨⟨_, (Option.some.inj e).symm⟩, _, e2⟩
  · exact .inl (s b o q e)
theorem LK.put {H : Hp} {a : Addr} {xs ys : List V} (e : H a = some (.lst xs)) : LK H (upd H a (.lst ys)) := fun b o eb => by
  by_cases q : b = a
  · subst q
    rw [e] at eb
    exact .inr ⟨⟨_, (Option.some.inj eb).symm⟩, _, upd_same⟩
  · exact .inl (by rw [upd_ne q]; exact eb)
theorem CellV.lk {H H' : Hp} {x : V} (h : CellV H x) (s : LK H H') : CellV H' x := by
  rcases h with h | rfl | h | h | ⟨a, xs, rfl, h⟩ | ⟨a, xs, rfl, h⟩ | ⟨a, xs, rfl, h⟩
  · exact .inl h
  · exact .inr (.inl rfl)
  · exact .inr (.inr (.inl h))
  · exact .inr (.inr (.inr (.inl h)))
  · rcases s _ _ h with k | ⟨_, ys, k⟩
    · exact .inr (.inr (.inr (.inr (.inl ⟨a, xs, rfl, k⟩))))
    · exact .inr (.inr (.inr (.inr (.inl ⟨a, ys, rfl, k⟩))))
  · rcases s _ _ h with k | ⟨⟨_, k⟩, _⟩
    · exact .inr (.inr (.inr (.inr (.inr (.inl ⟨a, xs, rfl, k⟩)))))
    · cases k
  · rcases s _ _ h with k | ⟨⟨_, k⟩, _⟩
    · exact .inr (.inr (.inr (.inr (.inr (.inr ⟨a, xs, rfl, k⟩)))))
    · cases k
def spLWish : Sp := fun vs H Q _ => ∃ (a p : Addr) (most n : Int) (rs : List Row), vs = [.ref a, .ref p, .int most] ∧ Stm H a n ∧ n ≤ 10000000 ∧ RowsL H p rs ∧ p ≠ a ∧ Valid rs ∧ rs.length ≤ 100 ∧ 0 ≤ most ∧ most ≤ 100 ∧
  ∀ (D : Addr) (es : Wsh) (H' : Hp), H D = none → D ≠ a → H' D = some (.dK (kvE es)) → EndsOk rs es → (es.length : Int) ≤ most → SB a H H' → Stm H' a (n + 1 + 2 * most) → Q (.ref D) H'
def spLDefault : Sp := fun vs H Q _ => ∃ (a : Addr) (n : Int), vs = [.ref a] ∧ Stm H a n ∧ n ≤ 10000000 ∧ ∀ (d : Option Bool) (H' : Hp), SB a H H' → Stm H' a (n + 1) → Q (dfV d) H'
section
variable {P : Program} {w : World} {K : PySem.W.Frag} {mg : Str → Option Value} {base : Heap} {C CB : Addr}
abbrev pDw : List Str := ["_law_stream_here", "_law_many"]
abbrev pSm : List Str := ["_law_stream_here", "_law_things"]
abbrev pWi : List Str := ["_law_stream_here", "_law_rows_here", "_law_most"]
abbrev nWi : List Str := ["_law_stream_here", "_law_rows_here", "_law_most", "_law_places", "_law_found", "_law_k", "_law_row"]
end
end Ts

set_option maxRecDepth 100000
set_option maxHeartbeats 4000000
namespace Ts
open PySem PySem.Spec PyProof.Rows L2
/-! ### an own error class that takes nothing -/
abbrev veBases : List Value := [.type "ValueError", .type "Exception", .type "BaseException", .type "object"]
structure Err0 (K : PySem.W.Frag) (mg : Str → Option Value) (E : Addr) (nm : Str) : Prop where
  q : PySem.W.excIn K E veBases "ValueError.__new__" = true
  k : PySem.W.keepIn K (.ref E) = true
  b : PySem.W.subIn K (.ref E) (.type "BaseException") = some true
  t : PySem.W.typeIn K (.ref E) = some (.type "type")
  g : mg nm = some (.ref E)
  te : PySem.W.exmOne K (.ref E) (.ref E) = some true
theorem pmk_err0 {X : Cx} {E : Addr} {x : Str} {p pos : Pos} (T : Err0 X.K X.mg E x) (hg : Gl X x) (hdb : (x == ("__debug__" : Str)) = false := by decide) :
    PMk X (.Call (.Name x p) [] [] pos) (fun _ H Q => Q (.ref E) none H) := by
  intro pins s σ H Q I h
  refine wpAny_Call_Name_kw (ld_glob I hg T.g ?_ hdb)
  refine PySem.W.callWith_K0 I.kIn T.k ?_
  show wpAny _ _ (call (.ref E) []) _ _ _
  obtain ⟨_, _, _, _, _, _, _, _, _, _, _, _, _, _, _, _, _, cl, mr, nin, tl⟩ := exc_obj I.kIn T.q
  refine wpAny_call_exc_subT PySem.F.excBase_ValueError tl cl mr nin (fun h' e made => ?_) (Nat.zero_le _)
  exact mk_of I made (raises_own T.b T.t) h (I.hok.gone made.new)
end Ts

set_option maxRecDepth 100000
set_option maxHeartbeats 4000000
namespace L2
open PySem PySem.Spec PyProof.Rows
/-! ### several clauses, each with a name: except A as e: .. except B as e: .. -/
abbrev AsClause := Value × Option Nat × (Addr → Value → Option Addr → TS)
/-- behind its suite the clause's name is gone -/
def unAs1 (i : Nat) (D : Ends) : Ends where
  nx := fun u v => D.nx (u.set i none) v
  rt := D.rt
  bk := fun u v => D.bk (u.set i none) v
  ct := fun u v => D.ct (u.set i none) v
def unAs : Option Nat → Ends → Ends
  | none, D => D
  | some i, D => unAs1 i D
def putAs : Option Nat → Addr → St → St
  | none, _, u => u
  | some i, p, u => u.set i (some (.ref p))
def wAsM (K : PySem.W.Frag) (W0 : WX) (D : Ends) : List AsClause → WX
  | [] => W0
  | q :: rest => fun cl od u v => ∃ y, PySem.W.exmOne K cl q.1 = some y ∧ (y = true → ∀ p, v p = none → q.2.2 p cl od (unAs q.2.1 D) (putAs q.2.1 p u) v) ∧ (y = false → wAsM K W0 D rest cl od u v)
inductive AsOk (X : Cx) : List ExceptHandler → List AsClause → Prop
  | nil : AsOk X [] []
  | cons {cn en : Str} {cv : Value} {k : Nat} {act : Addr → Value → Option Addr → TS} {st : Stmt} {sts : List Stmt} {p1 p2 : Pos} {more : List ExceptHandler} {l : List AsClause}
      (slot : X.N[k]? = some en) (own : X.env.kindOf en = some .local) (nm : Names X cn cv)
      (run : ∀ (p : Addr) (ob : Obj) (cl : Value) (od : Option Addr) (pn : List (Addr × Obj)), Zc cl od ob → (∃ fs, ob.data = .fields fs) → PSs (X.suite p ((p, ob) :: pn)) (st :: sts) (act p cl od))
      (rest : AsOk X more l) : AsOk X (.ExceptHandler (some (.Name cn p1)) (some en) (st :: sts) p2 :: more) ((cv, some k, act) :: l)
  | bare {cn : Str} {cv : Value} {act : Addr → Value → Option Addr → TS} {st : Stmt} {sts : List Stmt} {p1 p2 : Pos} {more : List ExceptHandler} {l : List AsClause} (nm : Names X cn cv)
      (run : ∀ (p : Addr) (ob : Obj) (cl : Value) (od : Option Addr) (pn : List (Addr × Obj)), Zc cl od ob → (∃ fs, ob.data = .fields fs) → PSs (X.suite p ((p, ob) :: pn)) (st :: sts) (act p cl od))
      (rest : AsOk X more l) : AsOk X (.ExceptHandler (some (.Name cn p1)) none (st :: sts) p2 :: more) ((cv, none, act) :: l)
section
variable {X : Cx} {ss : List Stmt} {hd : ExceptHandler} {hs : List ExceptHandler} {cls : List AsClause} {pos : Pos} {tb : WX → TS} {W0 : WX}
theorem ps_try_asm (st1 : X.stack = X.env :: X.outer) (fr1 : X.env.frame = some X.env.locals) (nd : X.N.Nodup) (take : Takes X W0)
    (try_ : ∀ (V : WX) (ps : List (Addr × Obj)) (ex : Value → Shared → Prop), Takes (X.tr ps ex) V → PassesOwn (model X.prog X.w) X.A X.env ex → PSs (X.tr ps ex) ss (tb V))
    (all : AsOk X (hd :: hs) cls) : PS X (.Try ss (hd :: hs) [] [] pos) (fun D u v => tb (wAsM X.K W0 D cls) D u v) := by
  refine ⟨fun pins s0 u0 v0 D inv want => ?_⟩
  have rdy := inv.ok
  have frames_ : X.A.frames = some (X.env :: X.outer) := by rw [rdy.frames, st1]
  refine wpAny_Try_except ?_
  refine wpAny_mono ((try_ (wAsM X.K W0 D cls) (X.pn ++ pins)
      (fun er z1 => wpAny (model X.prog X.w) X.A (noteFrame er X.env)
        (fun _ z2 => wpAny (model X.prog X.w) X.A (setFlight er none)
          (fun _ z3 => wpAny (model X.prog X.w) X.A (handleBy er X.env (hd :: hs)) (SP X pins D) X.xe z3) X.xe z2) X.xe z1)
      (fun er z1 caught => ?_) PassesOwn.looking).run [] s0 u0 v0 D (inv.toTry _) want) (fun fl z1 went => ?_) (fun _ _ z => z)
  · -- an error of the body
    obtain ⟨p, B, sX, pinsX, u1, v1, cl, od, rfl, invT, nb, grew, sky0, np, os0, ag0, wish⟩ := caught
    have invJ : Inv X pins u1 v1 sX := invT.ofTry rdy
    have sky1 : Sky B (X.env :: X.outer) p (Zc cl od) X.env.locals z1.heap := by
      rw [← st1]
      exact sky0
    show wpAny (model X.prog X.w) X.A (noteFrame (.ref p) X.env) _ _ _
    refine Sky.land Zc.steady frames_ fr1 sky1 fun g3 lands3 grew3 => ?_
    have inv3 : Inv X pins u1 v1 { z1 with heap := g3 } := invJ.landed nb lands3.1 (grew.trans grew3) os0 ag0
    obtain ⟨ob3, fs3, get3, zc3, dat3⟩ := lands3.there
    have away : ∀ {h : Heap} {o : Obj} {w : Array Value}, h.FunFrames B (X.env :: X.outer) → h.get? p = some o → o.data = .fields w → p ∉ frs (X.env :: X.outer) := by
      intro h o w ff ge da mem
      obtain ⟨_, o1, ge1, no1⟩ := ff.mem mem
      rw [ge] at ge1
      cases ge1
      exact no1 _ da
    have offAll := away lands3.2.2.1 get3 dat3
    have offL : p ≠ X.env.locals := by
      intro same
      exact offAll (List.mem_filterMap.mpr ⟨X.env, List.mem_cons_self, by rw [fr1, same]⟩)
    have offF : p ∉ X.fs := by
      intro mem
      obtain ⟨en, hen, qen⟩ := List.mem_filterMap.mp mem
      exact offAll (List.mem_filterMap.mpr ⟨en, List.mem_cons_of_mem _ hen, qen⟩)
    have invS := inv3.suite get3 dat3 np offL offF
    have each : ∀ {hh : List ExceptHandler} {ll : List AsClause}, AsOk X hh ll → wAsM X.K W0 D ll cl od u1 v1 → wpAny (model X.prog X.w) X.A (handleBy (.ref p) X.env hh) (SP X pins D) X.xe { z1 with heap := g3 } := by
      intro hh ll ok
      induction ok with
      | nil =>
        intro last
        refine wpAny_handleBy_nil ?_
        obtain ⟨_, _, _, ob, fs, T, oT, tk1, g1, g2, g4, g5, _⟩ := id lands3
        unfold PySem.passOn
        refine wpAny_bind (wpAny_field g1 g4 g5 ?_)
        rw [if_neg (show ¬ ((Value.ref T == Value.none) = true) by simp)]
        have done_ : wpAny (model X.prog X.w) X.A (setFlight (.ref p) X.env.frame)
            (fun _ z4 => wpAny (model X.prog X.w) X.A (throw (.ref p) : Sem Flow) (SP X pins D) X.xe z4) X.xe { z1 with heap := g3 } := by
          rw [fr1]
          refine HandSPX.setFlight_upZ lands3 fun g6 land6 grew6 => wpAny_throw (take _ _ ?_)
          exact ⟨p, B, sX, pins, u1, v1, cl, od, rfl, invJ, nb, (grew.trans grew3).trans grew6, .inr (.inr (by rw [st1]; exact land6)), np, os0, ag0, last⟩
        first
          | exact wpAny_bind (wpAny_pure (wpAny_bind done_))
          | exact wpAny_bind done_
      | @cons cn en cv k act st sts p1 p2 more l slot own nm run rest ih =>
        intro wants
        obtain ⟨y, is_, yes, no⟩ := wants
        refine wpAny_handleBy_cons (codeAny_handlers_test ?_) (by intro q; cases q)
        have looks : PySem.W.Looks (model X.prog X.w) g3 (typeOf (.ref p)) cl := fun A Q E z keep q => wpAny_typeOf_ref (keep _ _ get3) (by rw [zc3.1]; exact q)
        have meets_ := PySem.W.exm_one (M := model X.prog X.w) (inv3.kIn) looks is_
        have ask : ∀ {Q E : Value → Shared → Prop}, Q cv { z1 with heap := g3 } → wpAny (model X.prog X.w) (X.A.mark (some (.ref p))) (eval (.Name cn p1) X.env) Q E { z1 with heap := g3 } := by
          intro Q E q
          obtain ⟨isG, dbg, atM | ⟨atM, atB, notN⟩⟩ := nm
          · exact ld_glob (X := X.suite p ((p, ob3) :: (X.pn ++ pins))) invS isG atM q dbg
          · exact ld_blt (X := X.suite p ((p, ob3) :: (X.pn ++ pins))) invS isG atM atB q notN dbg
        refine ask (meets_.here ?_)
        cases y with
        | false =>
          show wpAny _ X.A (handleBy (.ref p) X.env more) _ _ _
          exact ih (no rfl)
        | true =>
          refine codeAny_handlers_suite_as ?_
          refine HandSPX.lands_againZ lands3 fun g4 lands4 grew4 => ?_
          have inv4 : Inv X pins u1 v1 { z1 with heap := g4 } := invJ.landed nb lands4.1 ((grew.trans grew3).trans grew4) os0 ag0
          obtain ⟨ob4, fs4, get4, zc4, dat4⟩ := lands4.there
          have invS4 := inv4.suite get4 dat4 np offL offF
          refine store_ok (X := X.suite p ((p, ob4) :: (X.pn ++ pins))) (v := .ref p) invS4 nd slot (.inl own) rfl (fun z5 inv5 => ?_) (.inr own)
          refine wpAny_mono ((run p ob4 cl od (X.pn ++ pins) zc4 ⟨_, dat4⟩).run [] z5 _ v1 _ inv5 (yes rfl p np)) (fun fl z6 went => ?_) (fun _ _ z => False.elim z)
          have gone : ∀ {u6 : St} {v6 : Hp} {Q : Shared → Prop}, Inv (X.suite p ((p, ob4) :: (X.pn ++ pins))) [] u6 v6 z6 → (∀ z7, Inv X pins (u6.set k none) v6 z7 → Q z7) →
              wpAny (model X.prog X.w) X.A (do bindName X.env en .none; unbindBehindTheSuite X.env en p2) (fun _ z7 => Q z7) X.xe z6 := by
            intro u6 v6 Q i6 q6
            exact gone_ok (i6.unsuite rdy) nd slot own q6
          cases fl with
          | next =>
            obtain ⟨u6, v6, i6, q6⟩ := went
            exact gone i6 fun z7 i7 => ⟨_, _, i7, q6⟩
          | brk =>
            obtain ⟨u6, v6, i6, q6⟩ := went
            exact gone i6 fun z7 i7 => ⟨_, _, i7, q6⟩
          | cont =>
            obtain ⟨u6, v6, i6, q6⟩ := went
            exact gone i6 fun z7 i7 => ⟨_, _, i7, q6⟩
          | ret rv =>
            obtain ⟨w6, u6, v6, i6, r6, q6⟩ := went
            exact gone i6 fun z7 i7 => ⟨_, _, _, i7, r6, q6⟩
      | @bare cn cv act st sts p1 p2 more l nm run rest ih =>
        intro wants
        obtain ⟨y, is_, yes, no⟩ := wants
        refine wpAny_handleBy_cons (codeAny_handlers_test ?_) (by intro q; cases q)
        have looks : PySem.W.Looks (model X.prog X.w) g3 (typeOf (.ref p)) cl := fun A Q E z keep q => wpAny_typeOf_ref (keep _ _ get3) (by rw [zc3.1]; exact q)
        have meets_ := PySem.W.exm_one (M := model X.prog X.w) (inv3.kIn) looks is_
        have ask : ∀ {Q E : Value → Shared → Prop}, Q cv { z1 with heap := g3 } → wpAny (model X.prog X.w) (X.A.mark (some (.ref p))) (eval (.Name cn p1) X.env) Q E { z1 with heap := g3 } := by
          intro Q E q
          obtain ⟨isG, dbg, atM | ⟨atM, atB, notN⟩⟩ := nm
          · exact ld_glob (X := X.suite p ((p, ob3) :: (X.pn ++ pins))) invS isG atM q dbg
          · exact ld_blt (X := X.suite p ((p, ob3) :: (X.pn ++ pins))) invS isG atM atB q notN dbg
        refine ask (meets_.here ?_)
        cases y with
        | false =>
          show wpAny _ X.A (handleBy (.ref p) X.env more) _ _ _
          exact ih (no rfl)
        | true =>
          refine codeAny_handlers_suite ?_
          refine HandSPX.lands_againZ lands3 fun g4 lands4 grew4 => ?_
          have inv4 : Inv X pins u1 v1 { z1 with heap := g4 } := invJ.landed nb lands4.1 ((grew.trans grew3).trans grew4) os0 ag0
          obtain ⟨ob4, fs4, get4, zc4, dat4⟩ := lands4.there
          have invS4 := inv4.suite get4 dat4 np offL offF
          refine wpAny_mono ((run p ob4 cl od (X.pn ++ pins) zc4 ⟨_, dat4⟩).run [] _ _ v1 _ invS4 (yes rfl p np)) (fun fl z6 went => ?_) (fun _ _ z => False.elim z)
          cases fl with
          | next =>
            obtain ⟨u6, v6, i6, q6⟩ := went
            exact ⟨_, _, i6.unsuite rdy, q6⟩
          | brk =>
            obtain ⟨u6, v6, i6, q6⟩ := went
            exact ⟨_, _, i6.unsuite rdy, q6⟩
          | cont =>
            obtain ⟨u6, v6, i6, q6⟩ := went
            exact ⟨_, _, i6.unsuite rdy, q6⟩
          | ret rv =>
            obtain ⟨w6, u6, v6, i6, r6, q6⟩ := went
            exact ⟨_, _, _, i6.unsuite rdy, r6, q6⟩
    exact each all wish
  · cases fl with
    | next =>
      obtain ⟨u6, v6, i6, q6⟩ := went
      exact wpAny_execs_nil ⟨u6, v6, i6.ofTry rdy, q6⟩
    | brk =>
      obtain ⟨u6, v6, i6, q6⟩ := went
      exact ⟨u6, v6, i6.ofTry rdy, q6⟩
    | cont =>
      obtain ⟨u6, v6, i6, q6⟩ := went
      exact ⟨u6, v6, i6.ofTry rdy, q6⟩
    | ret rv =>
      obtain ⟨w6, u6, v6, i6, r6, q6⟩ := went
      exact ⟨w6, u6, v6, i6.ofTry rdy, r6, q6⟩
end
end L2

set_option maxRecDepth 100000
set_option maxHeartbeats 4000000
namespace Ts
open PySem L2
open LamX (ExtN Tabs TabB)
/-! ### the ends of the ways -/
def PN (S : Str → Prop) (l : List Part) : Prop := ∀ e ∈ l, S e.2
def WN (S : Str → Prop) (l : List Way3) : Prop := ∀ e ∈ l, S e.2.1 ∧ S e.2.2
theorem PN.shorter {S : Str → Prop} {l : List Part} (h : PN S l) (m : Int) : PN S (shorterL l m) := by
  match l, h with
  | [], h => exact h
  | (n, p) :: l, h =>
    intro e he
    rcases List.mem_append.mp he with he | he
    · by_cases q : m < n
      · rw [if_pos q] at he
        rw [List.mem_singleton.mp he]
        exact h (n, p) (List.mem_cons_self ..)
      · rw [if_neg q] at he; cases he
    · exact h e (List.mem_cons_of_mem _ he)
theorem PN.letp {S : Str → Prop} : ∀ {l : List Part}, PN S l → ∀ p, PN S (letL l p)
  | [], h, p => h
  | (a, x) :: l, h, p => by
    intro e he
    unfold letL at he
    rcases List.mem_append.mp he with he | he
    · by_cases q : 0 < min a p
      · rw [if_pos q] at he
        rw [List.mem_singleton.mp he]
        exact h (a, x) (List.mem_cons_self ..)
      · rw [if_neg q] at he; cases he
    · exact PN.letp (l := l) (fun e he => h e (List.mem_cons_of_mem _ he)) _ e he
theorem pairF_pn {S : Str → Prop} : ∀ (n : Nat) (o f : List Part) (w : List Way3), PN S o → PN S f → WN S w → WN S (pairF n o f w).1 ∧ PN S (pairF n o f w).2.1 ∧ PN S (pairF n o f w).2.2
  | 0, o, f, w, ho, hf, hw => ⟨hw, ho, hf⟩
  | n + 1, [], f, w, ho, hf, hw => by rw [pairF_nil1]; exact ⟨hw, ho, hf⟩
  | n + 1, e :: o, [], w, ho, hf, hw => by rw [pairF_nil2]; exact ⟨hw, ho, hf⟩
  | n + 1, (a, x) :: o, (b, y) :: f, w, ho, hf, hw => by
    have e : pairF (n + 1) ((a, x) :: o) ((b, y) :: f) w = pairF n (shorterL ((a, x) :: o) (min a b)) (shorterL ((b, y) :: f) (min a b)) (w ++ [(min a b, x, y)]) := rfl
    rw [e]
    refine pairF_pn n _ _ _ (ho.shorter _) (hf.shorter _) fun e he => ?_
    rcases List.mem_append.mp he with he | he
    · exact hw e he
    · rw [List.mem_singleton.mp he]
      exact ⟨ho (a, x) (List.mem_cons_self ..), hf (b, y) (List.mem_cons_self ..)⟩
theorem meet_pn {rs : List Row} {es : Wsh} {S : Str → Prop} (hS : ∀ z b, endO es z = some b → S z) {W : Wait} {z : Str} (h : ∀ b, PN S (W z b)) : WN S (meetP rs es W z).1 ∧ PN S (meetP rs es W z).2.1 ∧ PN S (meetP rs es W z).2.2 := by
  have he : ∀ b, PN S (endP rs es W z b) := fun b => by
    unfold endP
    by_cases q : endO es z = some b
    · rw [if_pos q]
      intro e he
      rw [List.mem_singleton.mp he]
      exact hS z b q
    · rw [if_neg q]; exact h b
  exact pairF_pn _ _ _ _ (he true) (he false) fun e h => by cases h
theorem waysS_pn {rs : List Row} {es : Wsh} {S : Str → Prop} (hS : ∀ z b, endO es z = some b → S z) : ∀ l : List Row, WN S (waysS rs es l).1 ∧ ∀ z b, PN S ((waysS rs es l).2 z b)
  | [] => ⟨(fun e h => by cases h), fun z b e h => by cases h⟩
  | r :: l => by
    obtain ⟨h1, h2⟩ := waysS_pn hS l
    obtain ⟨m1, m2, m3⟩ := meet_pn (rs := rs) hS (W := (waysS rs es l).2) (z := r.nm) fun b => h2 r.nm b
    refine ⟨fun e he => ?_, fun z b => ?_⟩
    · rcases List.mem_append.mp he with he | he
      · exact h1 e he
      · exact m1 e he
    · show PN S (if z = r.fo then (waysS rs es l).2 z b ++ letL (sideP (meetP rs es (waysS rs es l).2 r.nm) b) (stepR rs r) else (waysS rs es l).2 z b)
      by_cases q : z = r.fo
      · rw [if_pos q]
        intro e he
        rcases List.mem_append.mp he with he | he
        · exact h2 z b e he
        · refine PN.letp (l := sideP (meetP rs es (waysS rs es l).2 r.nm) b) ?_ _ e he
          cases b
          · exact m3
          · exact m2
      · rw [if_neg q]; exact h2 z b
theorem waysF_pn {rs : List Row} {es : Wsh} (ok : EndsOk rs es) : WN (fun z => z ∈ plc rs) (waysF rs es) := by
  have hS : ∀ z b, endO es z = some b → z ∈ plc rs := fun z b h => mem_plc.mpr (end_plc ok h)
  obtain ⟨h1, h2⟩ := waysS_pn (rs := rs) hS rs
  obtain ⟨m1, _, _⟩ := meet_pn (rs := rs) hS (W := (waysS rs es rs).2) (z := "top") fun b => h2 _ b
  intro e he
  rcases List.mem_append.mp he with he | he
  · exact h1 e he
  · exact m1 e he
theorem waysF_len {rs : List Row} (hv : Valid rs) (es : Wsh) : (waysF rs es).length ≤ rs.length + 1 := by
  have h := ways_pot rs es rs [] hv
  have m := meet_len rs es (waysS rs es rs).2 "top"
  have e : ((plc []).map (wLen (waysS rs es rs).2)).sum = wLen (waysS rs es rs).2 "top" := by
    show (wLen (waysS rs es rs).2 "top" + 0 : Nat) = _
    exact Nat.add_zero _
  rw [e] at h
  unfold wLen at h
  show ((waysS rs es rs).1 ++ (meetP rs es (waysS rs es rs).2 "top").1).length ≤ _
  rw [List.length_append]
  omega
/-! ### what is asked, told or refused -/
structure ErrsW (K : PySem.W.Frag) (mg : Str → Option Value) (CB CW CD CN CT CX : Addr) : Prop where
  B : ErrT K mg CB "Barred" "one"
  o : PySem.W.findIn K (.ref CB) "other" = some none
  W : ErrT K mg CW "BadWish" "box"
  D : Err0 K mg CD "BadDefault"
  N : ErrT K mg CN "BadNumber" "number"
  T : ErrT K mg CT "TooDear" "cost"
  X : ErrT K mg CX "NoBox" "box"
def RefW (CB : Addr) (H' : Hp) (cls : Value) (d : Option Addr) (xs : List V) : Prop :=
   cls = .ref CB ∧ ∃ dd x y, d = some dd ∧ H' dd = some (.xd [("other", y), ("one", x)]) ∧ xs = [.str ("barred" : Str), x, y]
def TAsk (CB : Addr) : (XK → Hp → VK → Prop) → Hp → VK → Prop := fun tl H Q =>
  tl (fun cls d H' => ∃ xs, RefW CB H' cls d xs ∧ ∀ p, H' p = none → Q (.ref p) (upd H' p (.tup xs))) H (fun v H' => ([V.str ("told" : Str), v] : List V).length ≤ sizeLine ∧ ∀ p, H' p = none → Q (.ref p) (upd H' p (.tup [.str ("told" : Str), v])))
abbrev nRf : List Str := ["_law_ask", "e"]
theorem sc_Rf : FnScope nRf ["_law_ask"] (defScope s_L_asked) := ⟨rfl, rfl, rfl, by decide +kernel, rfl, by decide +kernel, by decide +kernel⟩
theorem pss_len {X : Cx} {ss : List Stmt} {t : TS} (h : PSs X ss t) : PSs X ss (fun D σ H => σ.length = X.N.length → t D σ H) := ⟨fun pins s σ H D I q => h.run pins s σ H D I (q I.len)⟩
abbrev tRf0 (wd : Str) : TS := tRet (tTup (tCons (tC (.str wd)) tNil))
abbrev tRf (a : Addr) (cls : Value) (d : Option Addr) (wd : Str) (C : Addr) (f : Str) : TS := fun D σ H => σ.length = nRf.length → tRet (tTup (tCons (tC (.str wd)) (tCons (tXf a cls d C f (tVar 1)) tNil))) D σ H
abbrev tBf (a : Addr) (cls : Value) (d : Option Addr) (C : Addr) : TS := fun D σ H => σ.length = nRf.length → tRet (tTup (tCons (tC (.str ("barred" : Str))) (tCons (tXf a cls d C "one" (tVar 1)) (tCons (tXf a cls d C "other" (tVar 1)) tNil)))) D σ H
theorem asked_gives {X : Cx} {g CB CW CD CN CT CX_ : Addr} {cdg : Value} {q : Str} (T : ErrsW X.K X.mg CB CW CD CN CT CX_) : LamX.GivesTo X nRf "_law_asked" (defScope s_L_asked) g cdg (defBody s_L_asked) "_law_ask" q (TAsk CB) := by
  intro f c' s H Q tl act hc h
  refine ⟨_, pss_one (ps_try_asm (X := (cxOf C8.CX0 X.prog X.w X.K X.mg X.base nRf "_law_asked" (defScope s_L_asked) g cdg X.A X.stack s H C8.E0).nox)
      (tb := fun W D σ H => ∃ Ech : XK, (∀ cls d σ' H', Ech cls d H' → W cls d σ' H') ∧ σ[0]? = some (some (.ref f)) ∧ H c' = some (LamX.CodeO c' q) ∧ tl Ech H (fun v H1 => ([V.str ("told" : Str), v] : List V).length ≤ sizeLine ∧ ∀ p, H1 p = none → D.rt (.ref p) (upd H1 p (.tup [.str ("told" : Str), v]))))
      (W0 := fun _ _ _ _ => False)
      (cls := [(.ref CB, some 1, fun a cls d => tBf a cls d CB), (.ref CW, some 1, fun a cls d => tRf a cls d "wish" CW "box"), (.ref CD, none, fun _ _ _ => tRf0 "default"), (.ref CN, some 1, fun a cls d => tRf a cls d "number" CN "number"), (.ref CT, some 1, fun a cls d => tRf a cls d "dear" CT "cost"), (.ref CX_, some 1, fun a cls d => tRf a cls d "box" CX_ "box")])
      rfl rfl sc_Rf.nd LamX.takes0 (fun W pn xe tk _ => ?_)
      (.cons rfl rfl ⟨rfl, by decide, .inl T.B.g⟩ (fun a oe cls d pn hz hf => pss_len (pss_one (ps_ret (by exact pe_tup (pa_cons pe_str (pa_cons (pe_xf T.B.X T.B.nb hz hf (pv 1)) (pa_cons (pe_xf T.B.X T.o hz hf (pv 1)) pa_nil)))))))
        (.cons rfl rfl ⟨rfl, by decide, .inl T.W.g⟩ (fun a oe cls d pn hz hf => pss_len (pss_one (ps_ret (by exact pe_tup (pa_cons pe_str (pa_cons (pe_xf T.W.X T.W.nb hz hf (pv 1)) pa_nil))))))
        (.bare ⟨rfl, by decide, .inl T.D.g⟩ (fun a oe cls d pn hz hf => pss_one (ps_ret (by exact pe_tup (pa_cons pe_str pa_nil))))
        (.cons rfl rfl ⟨rfl, by decide, .inl T.N.g⟩ (fun a oe cls d pn hz hf => pss_len (pss_one (ps_ret (by exact pe_tup (pa_cons pe_str (pa_cons (pe_xf T.N.X T.N.nb hz hf (pv 1)) pa_nil))))))
        (.cons rfl rfl ⟨rfl, by decide, .inl T.T.g⟩ (fun a oe cls d pn hz hf => pss_len (pss_one (ps_ret (by exact pe_tup (pa_cons pe_str (pa_cons (pe_xf T.T.X T.T.nb hz hf (pv 1)) pa_nil))))))
        (.cons rfl rfl ⟨rfl, by decide, .inl T.X.g⟩ (fun a oe cls d pn hz hf => pss_len (pss_one (ps_ret (by exact pe_tup (pa_cons pe_str (pa_cons (pe_xf T.X.X T.X.nb hz hf (pv 1)) pa_nil)))))) .nil))))))), ?_⟩
  · refine ⟨fun pins s' σ H' D I h' => ?_⟩
    obtain ⟨Ech, hW, h1, h2, h3⟩ := h'
    exact PSs.run (pss_one (ps_ret (pe_tup (pa_cons pe_str (pa_cons (act W pn xe Ech _ _ tk hW) pa_nil))))) pins s' σ H' D I ⟨h1, h2, h3⟩
  · refine ⟨_, fun cls d σ' H' z => ?_, rfl, hc, h⟩
    have no2 : ∀ {P : Prop}, (true = false) → P := fun q => Bool.noConfusion q
    have lk : ∀ a : Addr, (σ'.set 1 (some (V.ref a))).length = nRf.length → (σ'.set 1 (some (V.ref a)))[1]? = some (some (V.ref a)) := fun a hl => List.getElem?_set_self (by rw [List.length_set] at hl; rw [hl]; decide)
    obtain ⟨xs, ⟨rfl, dd, x, y, rfl, e, rfl⟩, k⟩ := z
    exact ⟨true, T.B.te, fun _ a ha hl => ⟨_, lk a hl, rfl, rfl, dd, _, x, rfl, e, (by rfl), _, lk a hl, rfl, rfl, dd, _, y, rfl, e, (by simp [List.lookup]), (by show 3 ≤ sizeLine; decide), fun p hp => k p hp⟩, no2⟩
/-! ### a def whose code object is known -/
structure FunC (K : PySem.W.Frag) (x q : Str) (st : Stmt) (f : Addr) (fd : FuncData) (c : Addr) : Prop where
  ex : ∃ (oc : Value) (od : Option Addr) (kV doc pm : Value) (an : Option Addr) (ct : Value) (osl : Array (Option Value)),
    fd = PySem.W.fnOf x q (defArgs st) (defBody st) (defScope st) .none kV doc pm an (.ref c) ct ∧ K.lookup f = some ⟨oc, od, .func fd, osl⟩ ∧ PySem.W.codeIn K (.ref c) q = true
  kp : PySem.W.keepIn K (.ref f) = true
section
variable {P : Program} {w : World} {K : PySem.W.Frag} {mg : Str → Option Value} {base : Heap} {C : Addr}
theorem FunC.ok {x qual : Str} {st : Stmt} {f c : Addr} {fd : FuncData} {N ps : List Str} {k : Nat} {sp : Sp} (F : FunC K x qual st f fd c) (S : FnScope N ps (defScope st)) (len : ∀ vs H Q E, sp vs H Q E → vs.length = ps.length)
    (hbody : ∀ (A : Around) (outer : List Env) (s : Shared) (H : Hp) (vs : List V) (Q : VK) (E : XK), Room k (A.deeper (PyProof.Rows.envOfC qual (defScope st) s.heap.objs.size f (.ref c))) → sp vs H Q E →
      ∃ t, PSs (cxOf CX0 P w K mg base N qual (defScope st) f (.ref c) A outer s H E).nox (defBody st) t ∧ t { nx := fun _ H' => Q .non H', rt := Q } (L2.start N vs) H) : FnOk P w K mg base CX0 (k + 1) f fd ps sp := by
  obtain ⟨oc, od, kV, doc, pm, an, ct, osl, rfl, lk, hcd⟩ := F.ex
  refine fn_of lk hcd S len fun A outer s H vs Q E hr hsp => ?_
  obtain ⟨t, h, q⟩ := hbody A outer s H vs Q E hr hsp
  exact ⟨t, h.nox, q⟩
structure DefC (K : PySem.W.Frag) (mg : Str → Option Value) (x : Str) (st : Stmt) (ps : List Str) where
  f : Addr
  fd : FuncData
  c : Addr
  F : FunC K x x st f fd c
  b : Binds K fd ps []
  g : mg x = some (.ref f)
theorem pe_asked {X : Cx} {T : List (Addr × Str)} {c P : Addr} {k : Nat} {params : Arguments} {body : Expr} {scope : Scope} {t : XK → TE} {p lpos pos : Pos} (D : DefAt X.K X.mg "_law_asked" s_L_asked ["_law_ask"]) {CB CW CD CN CT CX_ : Addr} (TN : ErrsW X.K X.mg CB CW CD CN CT CX_)
    (hg : Gl X "_law_asked") (TB : TabB X.base X.mg c P) (hcode : X.env.code = .ref c) (hmT : (P, X.env.qual ++ "<lambda>") ∈ T) (hu : ∀ p ∈ T, p.1 = P → p.2 = X.env.qual ++ "<lambda>") (hr : Room (k + 2) X.A) (L : LamX.LamS X.env.scope scope) (hdef : defaultsOf params X.env = ([], []))
    (hbind : ∀ (q : Str) (cl : List (Str × Addr)) (pm cv ctv : Value), bindArgs (PySem.W.kla_fn "<lambda>" q params body scope cl pm cv ctv) ⟨[], []⟩ = pure [])
    (hbody : ∀ (A : Around) (outer : List Env) (s : Shared) (H : Hp) (E : XK) (f c' : Addr), Room k (A.deeper (LamX.lamEnv X scope s.heap.objs.size f c')) → PE (LamX.lamCx X A outer s H E scope f c') body (t E)) :
    PE X (.Call (.Name "_law_asked" p) [.Lambda params body scope lpos] [] pos) (LamX.tLam T (TAsk CB) t) := by
  obtain ⟨f, fd, F, b, g⟩ := D
  have kp := F.kp
  obtain ⟨oc, od, kV, doc, pm, an, cdv, ct, osl, rfl, lk, hcd⟩ := F.ex
  exact LamX.pe_lamcall hg g kp lk hcd b sc_Rf rfl (.inl rfl) (asked_gives TN) TB hcode hmT hu hr L hdef hbind hbody
end
theorem tabs_put {T : List (Addr × Str)} {H : Hp} {D : Addr} {xs ys : List V} (h : Tabs T H) (e : H D = some (.lst xs)) : Tabs T (upd H D (.lst ys)) := fun p hp => by
  obtain ⟨ps, h1, h2, h3⟩ := h p hp
  have n1 : p.1 ≠ D := fun q => by rw [q, e] at h1; cases h1
  refine ⟨ps, by rw [upd_ne n1]; exact h1, h2, fun pos cv hc => ?_⟩
  obtain ⟨c, e1, e2⟩ := h3 pos cv hc
  refine ⟨c, e1, ?_⟩
  rw [upd_ne fun q => by rw [q, e] at e2; unfold LamX.CodeO at e2; cases e2]
  exact e2
theorem tabs_sb {T : List (Addr × Str)} {H H' : Hp} {a : Addr} {n : Int} (h : Tabs T H) (st : Stm H a n) (s : SB a H H') : Tabs T H' := fun p hp => by
  obtain ⟨ps, h1, h2, h3⟩ := h p hp
  obtain ⟨x, y, z, ea, _⟩ := st
  have n1 : p.1 ≠ a := fun q => by rw [q, ea] at h1; cases h1
  refine ⟨ps, s _ _ n1 h1, h2, fun pos cv hc => ?_⟩
  obtain ⟨c, e1, e2⟩ := h3 pos cv hc
  exact ⟨c, e1, s _ _ (fun q => by rw [q, ea] at e2; unfold LamX.CodeO at e2; cases e2) e2⟩
theorem sq_ext {K : PySem.W.Frag} {H H' : Hp} {a : Addr} {xs : List V} (h : SqL K H a xs) (s : ExtN H H') : SqL K H' a xs := by
  rcases h with (h | ⟨o, h⟩) | h
  · exact .inl (.inl (s _ _ h nofun))
  · exact .inl (.inr ⟨o, s _ _ h nofun⟩)
  · exact .inr h
theorem Stm.ext {H H' : Hp} {a : Addr} {n : Int} (h : Stm H a n) (s : ExtN H H') : Stm H' a n := let ⟨x, y, z, e, k⟩ := h; ⟨x, y, z, s _ _ e nofun, k⟩
end Ts

set_option maxRecDepth 100000
set_option maxHeartbeats 4000000
namespace L2
open PySem PySem.Spec PyProof.Rows
section
variable {X : Cx}
/-- sorted(t) of a tuple of texts -/
theorem cr_sortedT : CallR X (.builtin "sorted") (fun vs H Q => ∃ (a : Addr) (xs : List Str), vs = [V.ref a] ∧ SqT X.K H a (xs.map V.str) ∧ xs.length < 64 ∧
    ∀ (ys : List Str) (p : Addr), ys.Perm xs → sortedS ys = true → H p = none → Q (.ref p) (upd H p (.lst (ys.map V.str)))) := by
  intro pins s σ H vs us Q I r h
  obtain ⟨a, xs, rfl, hs, h64, q⟩ := h
  obtain ⟨its, rv, pl, hz⟩ := I.tuple hs
  obtain ⟨o, ho, hc, n, hd⟩ := pl
  rw [Vals.ref1 r]
  have hal : its.length = xs.length := by rw [← rv.length, List.length_map]
  have hS : StrsAre its xs := rv.strs
  refine Calls.call_function_entry PyProof.Rows.kind_sorted PyProof.Rows.plain_sorted PyProof.Rows.entry_sorted (PyProof.Rows.args_sorted1 _) ?_
  unfold Builtin.«sorted»
  refine wpAny_bind (m := checkCount "sorted" 1 1 _) (wpAny_pure ?_)
  refine wpAny_bind (wpAny_collect_seq a (.inr rfl) ho hc hd (fun h' hk => ?_) (by simp only [List.size_toArray]; rw [hal, sizeLine_eq]; omega))
  have I1 : Inv X pins σ H { s with heap := h', toks := s.toks } := I.kept hk
  refine wpAny_bind (wpAny_newList ?_ (by simp only [List.size_toArray, Array.length_toList]; rw [hal, sizeLine_eq]; omega))
  have hoL : (h'.push (seqObj "list" its.toArray 0)).get? h'.objs.size = some (seqObj "list" its.toArray 0) := Heap.get?_push_size _ rfl
  have ea : its.toArray.toList.toArray = its.toArray := by simp
  show wpAny _ _ _ _ _ { s with heap := h'.push (seqObj "list" its.toArray 0) }
  refine wpAny_bind (wpAny_holding (wpAny_call_entry PyProof.Rows.slot_list_sort ⟨_, hoL, rfl⟩ PyProof.Rows.entry_list_sort
    (list_sort_treeK strKind_oneLt (s := { s with heap := h'.push (seqObj "list" its.toArray 0) }) hoL hS.keysOf (fun v₁ v₂ rest e => keyKind_strs (by rw [← e]; exact hS)) (by rw [hal]; exact h64) fun st' hp hs => ⟨_, rfl, ?_⟩)
    (PyProof.Rows.args_list_sort _)))
  obtain ⟨ys, g1, g2, g3⟩ := sorted_out_str hS hp hs
  obtain ⟨e', he'⟩ := PyProof.Rows.sortedHeap_at (vs := its) (out := (arrOf st').map (·.2)) hoL
  have hlen : (ys.map V.str).length ≤ sizeLine := by
    rw [List.length_map, g2.length_eq]
    exact Nat.le_trans (Nat.le_of_lt h64) (by decide)
  refine wpAny_pure ⟨_, rfl, .ref h'.objs.size, upd H h'.objs.size (.lst (ys.map V.str)), I1.laid (t' := s.toks) (fun b u e => ?_) (Nat.le_refl _)
    (show ObjOk X.prog X.w _ _ _ (.lst (ys.map V.str)) from ⟨hlen, ((arrOf st').map (·.2)).toList, e', vals_of_strs g1, by rw [Array.toArray_toList]; exact he'⟩), rfl, q ys _ g2 g3 (I1.hok.fresh (Nat.le_refl _))⟩
  have hb : b < h'.objs.size := Heap.lt_size e
  rw [PyProof.Rows.sortedHeap_old (Nat.ne_of_lt hb) (by rw [size_push']; exact Nat.lt_succ_of_lt hb)]
  exact Heap.get?_push_of_some _ e
end
end L2

set_option maxRecDepth 100000
set_option maxHeartbeats 16000000
namespace Ts
open PySem L2
open LamX (ExtN Tabs TabB)
theorem bar_not {rs : List Row} {es : Wsh} {d : Option Bool} {x y : Str} (h : BarW rs es d x y) : ¬ OkW rs es d := fun o => by
  rcases h with ⟨_, _, b, h1, h2⟩ | ⟨_, hb⟩
  · exact o.1 b h1 h2
  · have := o.2 _ hb.1 _ hb.2.1 hb.2.2
    cases this
theorem sort_two {ys : List Str} (h : ys.Perm [("item" : Str), ("top" : Str)]) (s : PyProof.Rows.sortedS ys = true) : ys = [("item" : Str), ("top" : Str)] := by
  have hl := h.length_eq
  match ys, hl with
  | [x, y], _ =>
    have hx : x ∈ [("item" : Str), ("top" : Str)] := h.subset (by simp)
    have hy : y ∈ [("item" : Str), ("top" : Str)] := h.subset (by simp)
    have nd : ([x, y] : List Str).Nodup := h.nodup_iff.mpr (by decide +kernel)
    simp only [List.mem_cons, List.not_mem_nil, or_false] at hx hy
    rcases hx with rfl | rfl <;> rcases hy with rfl | rfl
    · simp at nd
    · rfl
    · exact absurd s (by decide +kernel)
    · simp at nd
def spLChR (K : PySem.W.Frag) (T : List (Addr × Str)) : Sp := fun vs H Q _ => ∃ (a : Addr) (n : Int), vs = [.ref a] ∧ Stm H a n ∧ n ≤ 1000000 ∧ Tabs T H ∧ ∀ H', (∀ b o, b ≠ a → H b = some o → (∀ ps, o ≠ .tbl ps) → H' b = some o) → Tabs T H' → Stm H' a (n + 100) → Q (.bl true) H'
abbrev qCr : Str := "_law_chain_right.<locals>.<lambda>"
section
variable {P : Program} {w : World} {K : PySem.W.Frag} {mg : Str → Option Value} {base : Heap} {C CM CH CB CW CD CN CT CX_ : Addr} {T : List (Addr × Str)} {P1 : Addr}
abbrev nCr : List Str := ["_law_stream_here", "_law_rows", "_law_open_rows", "_law_wish", "_law_default", "_law_found", "_law_row"]
abbrev pChp : List Str := ["tree", "wish", "default"]
theorem sc_Lcr : FnScope nCr ["_law_stream_here"] (defScope s_L_chain_right) := ⟨rfl, rfl, rfl, by decide +kernel, rfl, by decide +kernel, by decide +kernel⟩
theorem ok_Lcr {fT fk : Addr} {fdT fdk : FuncData} (D : DefC K mg "_law_chain_right" s_L_chain_right ["_law_stream_here"]) (B : TxB mg) (TT : TxT K mg C) (hSo : mg "sorted" = none)
    (Dak : DefAt K mg "_law_asked" s_L_asked ["_law_ask"]) (TQE : ErrsW K mg CB CW CD CN CT CX_)
    (TB : TabB base mg D.c P1) (hm : (P1, qCr) ∈ T) (hu : ∀ p ∈ T, p.1 = P1 → p.2 = qCr)
    (Dd : DefAt K mg "_law_draw" s_L_draw pDw) (Gd : FnOk P w K mg base CX0 2 Dd.f Dd.fd pDw spDraw)
    (Dc : DefAt K mg "_law_chain_rows" s_L_chain_rows pCn) (Gc : FnOk P w K mg base CX0 3 Dc.f Dc.fd pCn spChain)
    (Dcu : DefAt K mg "_law_is_cut" s_L_is_cut ["_law_rows", "_law_found"]) (Gcu : FnOk P w K mg base CX0 1 Dcu.f Dcu.fd ["_law_rows", "_law_found"] (spLCut C CM CH))
    (gk : mg "cheapest" = some (.ref fk)) (kk : PySem.W.keepIn K (.ref fk) = true) (bk : Binds K fdk pChp []) (Xk : FnOk P w K mg base (L2.CX P w) 11 fk fdk pChp (spCheapest C CM CB CH))
    (MT : Mk K C fT) (bT : Binds K fdT ["self", "rows"] []) (GT : FnOk P w K mg base CX0 5 fT fdT ["self", "rows"] (spTreeInit C)) :
    FnOk P w K mg base CX0 14 D.f D.fd ["_law_stream_here"] (spLChR K T) := by
  refine D.F.ok sc_Lcr (fun vs H Q E h => ?_) (fun A outer s H vs Q E hr h => ?_)
  · obtain ⟨a, n, rfl, _⟩ := h
    rfl
  · obtain ⟨a, n, rfl, hst, hn, hT, hq⟩ := h
    have h64 := hr.units
    have hu1 := Nat.lt_of_le_of_lt (Nat.le_add_right _ _) h64
    have r1 : Room 1 _ := hr.mono (by decide)
    have r2 : Room 2 _ := hr.mono (by decide)
    have r3 : Room 3 _ := hr.mono (by decide)
    refine ⟨_, pss_cons (ps_set (i := 1) sc_Lcr.nd rfl (.inr rfl) (pe_call Gc r3 rfl Dc.g Dc.F.kp Dc.b .nil pass0 (pa_cons (pv 0) (pa_cons (pe_op op_add pe_int (pe_call Gd r2 rfl Dd.g Dd.F.kp Dd.b .nil pass0 (pa_cons (pv 0) (pa_cons pe_int pa_nil)))) pa_nil))))
      (pss_cons (ps_set (i := 1) sc_Lcr.nd rfl (.inr rfl) (pe_lc (own := [("_law_row", 6)]) (g := gName 6) (tt := tYes) (te := tOp (rCatT K) (tSl (rSlT K) (tVar 6) tNoPart (tPart (tC (.int 3)))) (tTup (tCons (tIf (tTest (tOp rEq (tCall spDraw [] E0 (tCons (tVar 0) (tCons (tC (.int 3)) tNil))) (tC (.int 0)))) (tC .non) (tOp (rIxT K) (tVar 6) (tC (.int 3)))) tNil))) rfl sc_Lcr.nd (pi_list (pv 1)) (blkOk_by (N := nCr) (sc := defScope s_L_chain_right) (by decide +kernel))
          (fun _ _ _ _ _ => pg_name (i := 6) sc_Lcr.nd rfl (Or.inl rfl)) (fun _ _ _ _ _ => pts_nil) (fun _ _ _ _ _ => by exact pe_op op_catT (pe_slice sl_tup (pv 6) po_none (po_some pe_int)) (pe_tup (pa_cons (pe_ifExp (pt_cmpR op_eq (pe_call Gd r2 rfl Dd.g Dd.F.kp Dd.b .nil pass0 (pa_cons (pv 0) (pa_cons pe_int pa_nil))) pe_int (nomark _)) pe_non (pe_ix ix_tup (pv 6) pe_int (fun _ _ => rfl))) pa_nil)))))
      (pss_cons (ps_expr (pe_bm PySem.F.plainAttrs_list PySem.F.slot_list_append PySem.F.type_list_append mt_append (pv 1) (pa_cons (pe_tup (pa_cons pe_str (pa_cons (pe_ix ix_tup (pe_ix ix_list (pv 1) (pe_un un_neg pe_int) (fun _ _ => rfl)) pe_int (fun _ _ => rfl)) (pa_cons pe_str (pa_cons pe_non pa_nil))))) pa_nil)))
      (pss_cons (ps_setLc (i := 2) (own := [("_law_row", 6)]) (g := gName 6) (tt := tTest (tOp (fun x y H Q => y = .non ∧ Q (.bl (!decide (x = .non))) H) (tOp (rIxT K) (tVar 6) (tC (.int 3))) (tC .non))) (te := tVar 6) rfl sc_Lcr.nd rfl rfl (sw_true rfl rfl rfl (by decide +kernel)) (pi_list (pv 1)) (blkOk_by (N := nCr) (sc := defScope s_L_chain_right) (by decide +kernel))
          (fun _ _ _ _ _ => pg_name (i := 6) sc_Lcr.nd rfl (Or.inl rfl)) (fun _ _ _ _ _ => by exact pts_one (pt_cmpR op_notN (pe_ix ix_tup (pv 6) pe_int (fun _ _ => rfl)) pe_non (nomark _))) (fun _ _ _ _ _ => pv 6))
      (pss_cons (ps_for PassesOwn.never rfl (pi_list (pe_lst (pa_cons (pe_tup (pa_cons (pe_disp (pps_cons pe_str pe_bl (pps_cons pe_str pe_bl pps_nil)) (by rfl) (by rfl) (fun z => by cases z) (by decide)) (pa_cons pe_non pa_nil))) (pa_cons (pe_tup (pa_cons (pe_disp (pps_cons pe_str pe_bl pps_nil) (by rfl) (by rfl) (fun z => by cases z) (by decide)) (pa_cons pe_bl pa_nil))) pa_nil)))) (pg_tup rfl (pgs_cons (pg_name (i := 3) sc_Lcr.nd rfl (.inr rfl)) (pgs_cons (pg_name (i := 4) sc_Lcr.nd rfl (.inr rfl)) pgs_nil)))
        (C8.pss_cut (ps_set (i := 5) sc_Lcr.nd rfl (.inl rfl) (pe_asked (k := 11) (t := fun E => tCall (spCheapest C CM CB CH) [] E (tCons (tMake C (spTreeInit C) [] E0 (tCons (tVar 1) tNil)) (tCons (tVar 3) (tCons (tVar 4) tNil)))) Dak TQE (by rfl) TB rfl hm hu hr (LamX.lamS_by (show LamX.lamSB (defScope s_L_chain_right) _ = true by decide +kernel)) rfl (fun _ _ _ _ _ => rfl) (fun A outer s H E f c' hr2 => pe_call Xk hr2 rfl gk kk bk .nil (passes_call (takes_of rfl rfl rfl rfl) (fun _ _ _ _ h => h)) (pa_cons (pe_make MT GT (hr2.mono (by decide)) rfl TT.g bT .nil pass0 (pa_cons (pv 1) pa_nil)) (pa_cons (pv 3) (pa_cons (pv 4) pa_nil))))))
        (pss_one (ps_if (pt_cmpR (op_eqNil hu1) (pv 2) (pe_lst pa_nil) (nomark _))
          (pss_one (ps_if (PW.pt (pw_or (pt_cmpR op_ne (pe_ix ix_tup (pv 5) pe_int (fun _ _ => rfl)) pe_str (nomark _)) (pw_or1 (pt_cmpR (op_neD h64) (pe_callB cr_sortedT (by rfl) hSo (by decide +kernel) (pa_cons (pe_slice sl_tup (pv 5) (po_some pe_int) po_none) pa_nil)) (pe_lst (pa_cons pe_str (pa_cons pe_str pa_nil))) (nomark _))))) (pss_one (ps_ret pe_bl)) pss_nil))
          (pss_one (ps_if (PW.pt (pw_or (pt_cmpR op_ne (pe_ix ix_tup (pv 5) pe_int (fun _ _ => rfl)) pe_str (nomark _)) (pw_or1 (pt_not (pt_val (pe_call Gcu r1 rfl Dcu.g Dcu.F.kp Dcu.b .nil pass0 (pa_cons (pv 2) (pa_cons (pe_ix ix_tup (pv 5) pe_int (fun _ _ => rfl)) pa_nil)))))))) (pss_one (ps_ret pe_bl)) pss_nil))))))
      (pss_one (ps_ret pe_bl)))))), ?_⟩
    refine ⟨_, rfl, _, rfl, a, 11, n, rfl, hst, by omega, by decide, by decide, fun r H1 r0 r1' st1 q1 => ⟨_, _, rfl, rfl, a, _, _, rfl, st1, by omega, by omega, by omega, fun p1 as f H2 np1 npa e2 hr2 hf sb2 st2 => ?_⟩⟩
    obtain ⟨m, hm1, hm2, hmm⟩ : ∃ m : Nat, 1 ≤ m ∧ m ≤ 11 ∧ (1 + r).toNat = m := ⟨(1 + r).toNat, by omega, by omega, rfl⟩
    rw [hmm, chainF_folF] at hr2
    have sb12 : SB a H H2 := (sb_eq q1).trans sb2
    have st2 := st2.mono (show _ ≤ n + 20 by omega)
    clear st1 q1 sb2 np1
    have las : as.length = m := by rw [hr2.len, folF_len]
    refine ⟨_, rfl, p1, rfl, ⟨_, SqL.of e2⟩, fun D hD => ?_⟩
    have Da : D ≠ a := (st2.ne hD).symm
    have Dp : p1 ≠ D := ne_of_none e2 hD
    refine lc_list (K := K) (a := p1) (xs := as.map V.ref) (fun i H' => ∃ (bs : List Addr) (q : Nat → Option Int), H' D = some (.lst (bs.map V.ref)) ∧ RowsAt H' bs (foQ q i) ∧ (∀ k, PriceOk (q k)) ∧ (∀ b o, b ≠ a → b ≠ D → H2 b = some o → H' b = some o) ∧ Stm H' a (n + 20 + (i : Int))) ⟨[], fun _ => none, upd_same, RowsAt.nil, fun _ => trivial, fun b o _ nd e => by rw [upd_ne nd]; exact e, by simpa using st2.upd hD⟩ (fun i H' _ ⟨_, _, _, _, _, k, _⟩ => SqL.of (k _ _ npa Dp e2)) ?_ ?_
    · rintro i x H3 hx ⟨bs, q, eD, rb, hq', k3, st3⟩
      obtain ⟨ra, r', rfl, hra, hr', e0⟩ := rows_at hr2 hx
      have hi : i < m := by rw [← las]; exact (List.getElem?_eq_some_iff.mp hra).1
      have er : r' = ⟨cnN i, foN cnN i, "folder", some (f i)⟩ := by
        unfold folF at hr'
        rw [List.getElem?_map, List.getElem?_range (by omega)] at hr'
        exact (Option.some.inj hr').symm
      rw [er] at e0
      have raa : ra ≠ a := fun q => by
        obtain ⟨_, _, _, e, _⟩ := st2
        rw [q, e] at e0; cases e0
      have raD : ra ≠ D := ne_of_none e0 hD
      have e0' : H3 ra = some (.tup [.str (cnN i), .str (foN cnN i), .str ("folder" : Str), .int (f i)]) := k3 _ _ raa raD e0
      have lbs : bs.length ≤ 11 := by rw [rb.len, foQ_len]; omega
      refine ⟨rfl, tYes_if ⟨_, rfl, _, rfl, ra, _, rfl, sqT e0', (by show ¬ (0 = 0 ∧ 3 = 4); decide), fun u1 hu1 => ?_⟩⟩
      have s3 : Same H3 (upd H3 u1 (.tup (cutV [V.str (cnN i), .str (foN cnN i), .str ("folder" : Str), .int (f i)] none (some 3)))) := Same.new hu1
      have e6 : (upd H3 u1 (.tup (cutV [V.str (cnN i), .str (foN cnN i), .str ("folder" : Str), .int (f i)] none (some 3)))) u1 = some (.tup (cutV [V.str (cnN i), .str (foN cnN i), .str ("folder" : Str), .int (f i)] none (some 3))) := upd_same
      have u1a : u1 ≠ a := (st3.ne hu1).symm
      have st3' := st3.same s3
      generalize upd H3 u1 (.tup (cutV [V.str (cnN i), .str (foN cnN i), .str ("folder" : Str), .int (f i)] none (some 3))) = H3' at s3 e6 st3'
      refine ⟨_, rfl, a, 3, _, rfl, st3', by omega, by decide, by decide, fun r' H4 r0' r1'' st4 q4 => ⟨rfl, _, rfl, ?_⟩⟩
      refine ite2 (fun _ => ?_) (fun _ => ?_)
      · refine ⟨(by show 1 ≤ sizeLine; decide), fun u2 hu2 => ?_⟩
        have s5 : Same H4 (upd H4 u2 (.tup [V.non])) := Same.new hu2
        have e5 : (upd H4 u2 (.tup [V.non])) u2 = some (.tup [V.non]) := upd_same
        have u15 := s5 _ _ (sb_eq q4 _ _ u1a e6)
        generalize upd H4 u2 (.tup [V.non]) = H5 at s5 e5 u15
        refine ⟨u1, u2, _, _, rfl, rfl, sqT u15, sqT e5, (by show ¬ ([V.str (cnN i), .str (foN cnN i), .str ("folder" : Str)] : List V) = []; simp), (by show 3 + 1 ≤ sizeLine; decide), (fun h => by cases h), fun _ u3 hu3 => ?_⟩
        have s6' : Same H5 (upd H5 u3 (.tup (cutV [V.str (cnN i), .str (foN cnN i), .str ("folder" : Str), .int (f i)] none (some 3) ++ [V.non]))) := Same.new hu3
        have e6' : (upd H5 u3 (.tup (cutV [V.str (cnN i), .str (foN cnN i), .str ("folder" : Str), .int (f i)] none (some 3) ++ [V.non]))) u3 = some (.tup (rowVs ⟨cnN i, foN cnN i, "folder", none⟩)) := upd_same
        generalize upd H5 u3 (.tup (cutV [V.str (cnN i), .str (foN cnN i), .str ("folder" : Str), .int (f i)] none (some 3) ++ [V.non])) = H6 at s6' e6'
        have K46 : ∀ b o, b ≠ a → H3 b = some o → H6 b = some o := fun b o nb e => s6' _ _ (s5 _ _ (sb_eq q4 _ _ nb (s3 _ _ e)))
        have d6 := K46 _ _ Da eD
        have st6 : Stm H6 a (n + 20 + (i : Int) + 1) := (st4.same s5).same s6'
        refine ⟨_, d6, small1000 (by rw [List.length_map]; omega), bs ++ [u3], fun k => if k = i then none else q k, by rw [upd_same, List.map_append]; rfl, ?_, fun k => ?_, fun b o na nd e => ?_, ?_⟩
        · rw [foQ_snoc, if_pos rfl, foQ_congr (g := q) fun k hk => if_neg (by omega)]
          have u3D : u3 ≠ D := fun q' => by rw [q', d6] at e6'; cases e6'
          have h1 : RowsAt H6 bs (foQ q i) := rb.kp (xs := [a]) (fun b o nb e => K46 _ _ (by simpa using nb) e) (fun x hx t => by
            rw [List.mem_singleton.mp hx]
            obtain ⟨_, _, _, e, _⟩ := st3
            rw [e]; exact nofun)
          exact (h1.kp (Kp.put (xs := [D]) (by simp)) fun x hx t => by rw [List.mem_singleton.mp hx, d6]; exact nofun).snoc (by rw [upd_ne u3D]; exact e6')
        · show PriceOk (if k = i then none else q k)
          by_cases qk : k = i
          · rw [if_pos qk]; trivial
          · rw [if_neg qk]; exact hq' k
        · rw [upd_ne nd]; exact K46 _ _ na (k3 _ _ na nd e)
        · obtain ⟨x, y, z, e, k⟩ := st6
          exact Stm.mono ⟨x, y, z, by rw [upd_ne (Ne.symm Da)]; exact e, k⟩ (by push_cast; omega)
      · refine ⟨_, rfl, ra, _, _, _, rfl, rfl, sqT (sb_eq q4 _ _ raa (s3 _ _ e0')), atI3 _ _ _ _, (by show 1 ≤ sizeLine; decide), fun u2 hu2 => ?_⟩
        have s5 : Same H4 (upd H4 u2 (.tup [V.int (f i)])) := Same.new hu2
        have e5 : (upd H4 u2 (.tup [V.int (f i)])) u2 = some (.tup [V.int (f i)]) := upd_same
        have u15 := s5 _ _ (sb_eq q4 _ _ u1a e6)
        generalize upd H4 u2 (.tup [V.int (f i)]) = H5 at s5 e5 u15
        refine ⟨u1, u2, _, _, rfl, rfl, sqT u15, sqT e5, (by show ¬ ([V.str (cnN i), .str (foN cnN i), .str ("folder" : Str)] : List V) = []; simp), (by show 3 + 1 ≤ sizeLine; decide), (fun h => by cases h), fun _ u3 hu3 => ?_⟩
        have s6' : Same H5 (upd H5 u3 (.tup (cutV [V.str (cnN i), .str (foN cnN i), .str ("folder" : Str), .int (f i)] none (some 3) ++ [V.int (f i)]))) := Same.new hu3
        have e6' : (upd H5 u3 (.tup (cutV [V.str (cnN i), .str (foN cnN i), .str ("folder" : Str), .int (f i)] none (some 3) ++ [V.int (f i)]))) u3 = some (.tup (rowVs ⟨cnN i, foN cnN i, "folder", some (f i)⟩)) := upd_same
        generalize upd H5 u3 (.tup (cutV [V.str (cnN i), .str (foN cnN i), .str ("folder" : Str), .int (f i)] none (some 3) ++ [V.int (f i)])) = H6 at s6' e6'
        have K46 : ∀ b o, b ≠ a → H3 b = some o → H6 b = some o := fun b o nb e => s6' _ _ (s5 _ _ (sb_eq q4 _ _ nb (s3 _ _ e)))
        have d6 := K46 _ _ Da eD
        have st6 : Stm H6 a (n + 20 + (i : Int) + 1) := (st4.same s5).same s6'
        refine ⟨_, d6, small1000 (by rw [List.length_map]; omega), bs ++ [u3], fun k => if k = i then some (f i) else q k, by rw [upd_same, List.map_append]; rfl, ?_, fun k => ?_, fun b o na nd e => ?_, ?_⟩
        · rw [foQ_snoc, if_pos rfl, foQ_congr (g := q) fun k hk => if_neg (by omega)]
          have u3D : u3 ≠ D := fun q' => by rw [q', d6] at e6'; cases e6'
          have h1 : RowsAt H6 bs (foQ q i) := rb.kp (xs := [a]) (fun b o nb e => K46 _ _ (by simpa using nb) e) (fun x hx t => by
            rw [List.mem_singleton.mp hx]
            obtain ⟨_, _, _, e, _⟩ := st3
            rw [e]; exact nofun)
          exact (h1.kp (Kp.put (xs := [D]) (by simp)) fun x hx t => by rw [List.mem_singleton.mp hx, d6]; exact nofun).snoc (by rw [upd_ne u3D]; exact e6')
        · show PriceOk (if k = i then some (f i) else q k)
          by_cases qk : k = i
          · rw [if_pos qk]; exact (hf i).1
          · rw [if_neg qk]; exact hq' k
        · rw [upd_ne nd]; exact K46 _ _ na (k3 _ _ na nd e)
        · obtain ⟨x, y, z, e, k⟩ := st6
          exact Stm.mono ⟨x, y, z, by rw [upd_ne (Ne.symm Da)]; exact e, k⟩ (by push_cast; omega)
    rintro H3 ⟨bs, q, eD, rb, hq', k3, st3⟩
    rw [List.length_map, las] at rb st3
    -- the item at the end
    obtain ⟨m', rfl⟩ : ∃ m', m = m' + 1 := ⟨m - 1, by omega⟩
    obtain ⟨bs', la, rfl, la3⟩ := (show RowsAt H3 bs (foQ q m' ++ [⟨cnN m', foN cnN m', "folder", q m'⟩]) by rw [← foQ_snoc]; exact rb).unsnoc
    have la3 : H3 la = some (.tup [.str (cnN m'), .str (foN cnN m'), .str ("folder" : Str), prV (q m')]) := la3
    have lbs : (bs' ++ [la]).length ≤ 11 := by rw [rb.len, foQ_len]; omega
    have eD' := eD
    rw [List.map_append] at eD'
    refine ⟨_, rfl, .inl ⟨rfl, _, SqL.of eD⟩, _, rfl, _, rfl, D, _, -1, .ref la, rfl, rfl, SqL.of eD', atI_last _ _, la, _, 0, .str (cnN m'), rfl, rfl, sqT la3, rfl, (by show 4 ≤ sizeLine; decide), fun u hu => ?_⟩
    have s4 : Same H3 (upd H3 u (.tup [V.str ("item" : Str), .str (cnN m'), .str ("item" : Str), .non])) := Same.new hu
    have e4 : (upd H3 u (.tup [V.str ("item" : Str), .str (cnN m'), .str ("item" : Str), .non])) u = some (.tup (rowVs (itQ (m' + 1)))) := upd_same
    generalize upd H3 u (.tup [V.str ("item" : Str), .str (cnN m'), .str ("item" : Str), .non]) = H4 at s4 e4
    have d4 := s4 _ _ eD
    refine ⟨D, _, _, rfl, rfl, d4, small1000 (by rw [List.length_map]; omega), ?_⟩
    have uD : u ≠ D := fun q => by rw [q, d4] at e4; cases e4
    have D5 : (upd H4 D (.lst ((bs' ++ [la]).map V.ref ++ [V.ref u]))) D = some (.lst (((bs' ++ [la]) ++ [u]).map V.ref)) := by rw [upd_same, List.map_append (l₁ := bs' ++ [la])]; rfl
    have rs5 : RowsAt (upd H4 D (.lst ((bs' ++ [la]).map V.ref ++ [V.ref u]))) ((bs' ++ [la]) ++ [u]) (rsQ q (m' + 1)) := ((rb.same s4).kp (Kp.put (xs := [D]) (by simp)) fun x hx t => by rw [List.mem_singleton.mp hx, d4]; exact nofun).snoc (by rw [upd_ne uD]; exact e4)
    have nHD : H D = none := sb_none sb12 Da hD
    have K5 : ∀ b o, b ≠ a → H b = some o → (upd H4 D (.lst ((bs' ++ [la]).map V.ref ++ [V.ref u]))) b = some o := fun b o na e => by
      have nd := ne_of_none e nHD
      rw [upd_ne nd]
      exact s4 _ _ (k3 _ _ na nd (sb12 _ _ na e))
    have st5 : Stm (upd H4 D (.lst ((bs' ++ [la]).map V.ref ++ [V.ref u]))) a (n + 40) := by
      obtain ⟨x, y, z, e, k⟩ := st3
      exact Stm.mono ⟨x, y, z, by rw [upd_ne (Ne.symm Da)]; exact s4 _ _ e, k⟩ (by omega)
    have T5 : Tabs T (upd H4 D (.lst ((bs' ++ [la]).map V.ref ++ [V.ref u]))) := fun p hp => by
      obtain ⟨ps, h1, h2, h3⟩ := hT p hp
      obtain ⟨_, _, _, ea, _⟩ := hst
      refine ⟨ps, K5 _ _ (fun q => by rw [q, ea] at h1; cases h1) h1, h2, fun pos cv hc => ?_⟩
      obtain ⟨c, c1, c2⟩ := h3 pos cv hc
      exact ⟨c, c1, K5 _ _ (fun q => by rw [q, ea] at c2; unfold LamX.CodeO at c2; cases c2) c2⟩
    generalize upd H4 D (.lst ((bs' ++ [la]).map V.ref ++ [V.ref u])) = H5 at D5 rs5 K5 st5 T5
    clear s4 e4 d4 la3 eD eD' rb k3 st3 hD las e2 hr2 sb12 st2
    have lrs : (rsQ q (m' + 1)).length ≤ 12 := by unfold rsQ; rw [List.length_append, foQ_len]; show m' + 1 + 1 ≤ 12; omega
    have hv := valid_rsQ (q := q) hq' hm2
    generalize (bs' ++ [la]) ++ [u] = cs at D5 rs5
    have lcs : cs.length = (rsQ q (m' + 1)).length := rs5.len
    -- the open ones
    refine ⟨_, rfl, D, rfl, ⟨_, SqL.of D5⟩, fun O hO => ?_⟩
    refine lc_list (K := K) (a := D) (xs := cs.map V.ref) (fun i H' => Same H5 H' ∧ ∃ os : List Addr, H' O = some (.lst (os.map V.ref)) ∧ RowsAt H' os (((rsQ q (m' + 1)).take i).filter fun r => decide (r.pr ≠ none))) ⟨Same.new hO, [], upd_same, RowsAt.nil⟩ (fun i H' _ k => SqL.of (k.1 _ _ D5)) ?_ ?_
    · rintro i x H6 hx ⟨s6, os, e6, ro⟩
      obtain ⟨ra, r', rfl, hra, hr', e0⟩ := rows_at rs5 hx
      have e0' := s6 _ _ e0
      have los : os.length ≤ 12 := by
        rw [ro.len]
        have := List.length_filter_le (fun r : Row => decide (r.pr ≠ none)) ((rsQ q (m' + 1)).take i)
        rw [List.length_take] at this
        omega
      refine ⟨rfl, _, rfl, ra, _, _, _, rfl, rfl, sqT e0', atI3 _ _ _ _, rfl, _, rfl, ?_⟩
      have ei : (!decide (prV r'.pr = V.non)) = decide (r'.pr ≠ none) := by cases r'.pr <;> rfl
      rw [ei, filt_moreL hr']
      refine ite2 (fun hb => ?_) (fun hb => ?_)
      · rw [if_pos hb]
        have raO : ra ≠ O := fun q => by rw [q, e6] at e0'; cases e0'
        refine ⟨_, rfl, _, e6, small1000 (by rw [List.length_map]; omega), fun b o eb => ?_, os ++ [ra], by rw [upd_same, List.map_append]; rfl, ?_⟩
        · rw [upd_ne (ne_of_none eb hO)]; exact s6 _ _ eb
        · exact (ro.kp (Kp.put (xs := [O]) (by simp)) fun x hx t => by rw [List.mem_singleton.mp hx, e6]; exact nofun).snoc (by rw [upd_ne raO]; exact e0')
      · rw [if_neg hb, List.append_nil]
        exact ⟨s6, os, e6, ro⟩
    rintro H6 ⟨s6, os, e6, ro⟩
    rw [List.length_map, lcs, List.take_length] at ro
    have ro : RowsAt H6 os (opQ q (m' + 1)) := ro
    have D6 := s6 _ _ D5
    have rs6 := rs5.same s6
    have st6 := st5.same s6
    have T6 := T5.ext s6
    have K6 : ∀ b o, b ≠ a → H b = some o → H6 b = some o := fun b o na e => s6 _ _ (K5 _ _ na e)
    have los : os.length ≤ 12 := by
      rw [ro.len]
      unfold opQ
      exact Nat.le_trans (List.length_filter_le _ _) lrs
    clear D5 rs5 st5 T5 K5 s6 hO
    -- both wishes
    refine fun wA hwA => ⟨upd_same, [(.inr ("top" : Str), .bl false), (.inr ("item" : Str), .bl true)], rfl, (by show 2 ≤ 15; decide), (by show 2 ≤ sizeLine; decide), fun tA htA => ?_⟩
    have s7 : Same H6 (upd (upd H6 wA (.dK [])) wA (.dK (mergeK [] [((.inr ("top" : Str) : Key), V.bl false), ((.inr ("item" : Str) : Key), V.bl true)]))) := fun b o e => by rw [upd_ne (ne_of_none e hwA), upd_ne (ne_of_none e hwA)]; exact e
    have a7 : (upd (upd H6 wA (.dK [])) wA (.dK (mergeK [] [((.inr ("top" : Str) : Key), V.bl false), ((.inr ("item" : Str) : Key), V.bl true)]))) wA = some (.dK (kvE esA)) := by rw [upd_same]; congr 2
    generalize upd (upd H6 wA (.dK [])) wA (.dK (mergeK [] [((.inr ("top" : Str) : Key), V.bl false), ((.inr ("item" : Str) : Key), V.bl true)])) = H7 at s7 a7 htA
    have s8 : Same H7 (upd H7 tA (.tup [V.ref wA, V.non])) := Same.new htA
    have t8 : (upd H7 tA (.tup [V.ref wA, V.non])) tA = some (.tup [V.ref wA, V.non]) := upd_same
    generalize upd H7 tA (.tup [V.ref wA, V.non]) = H8 at s8 t8
    refine fun wB hwB => ⟨upd_same, [(.inr ("item" : Str), .bl true)], rfl, (by show 1 ≤ 15; decide), (by show 2 ≤ sizeLine; decide), fun tB htB => ?_⟩
    have s9 : Same H8 (upd (upd H8 wB (.dK [])) wB (.dK (mergeK [] [((.inr ("item" : Str) : Key), V.bl true)]))) := fun b o e => by rw [upd_ne (ne_of_none e hwB), upd_ne (ne_of_none e hwB)]; exact e
    have b9 : (upd (upd H8 wB (.dK [])) wB (.dK (mergeK [] [((.inr ("item" : Str) : Key), V.bl true)]))) wB = some (.dK (kvE esB)) := upd_same
    generalize upd (upd H8 wB (.dK [])) wB (.dK (mergeK [] [((.inr ("item" : Str) : Key), V.bl true)])) = H9 at s9 b9 htB
    have s10 : Same H9 (upd H9 tB (.tup [V.ref wB, V.bl false])) := Same.new htB
    have t10 : (upd H9 tB (.tup [V.ref wB, V.bl false])) tB = some (.tup [V.ref wB, V.bl false]) := upd_same
    generalize upd H9 tB (.tup [V.ref wB, V.bl false]) = H10 at s10 t10
    refine ⟨(by show 2 ≤ sizeLine; decide), fun lq hlq => ⟨lq, rfl, ⟨_, SqL.of upd_same⟩, ?_⟩⟩
    have s11 : Same H10 (upd H10 lq (.lst [V.ref tA, V.ref tB])) := Same.new hlq
    have l11 : (upd H10 lq (.lst [V.ref tA, V.ref tB])) lq = some (.lst [V.ref tA, V.ref tB]) := upd_same
    generalize upd H10 lq (.lst [V.ref tA, V.ref tB]) = H11 at s11 l11
    have S11 := s7.trans (s8.trans (s9.trans (s10.trans s11)))
    refine for_list (K := K) (a := lq) (xs := [V.ref tA, V.ref tB]) (fun i σ H' => ∃ v3 v4 v5 : Option V, σ = [some (.ref a), some (.ref D), some (.ref O), v3, v4, v5, none] ∧ ExtN H11 H' ∧ Tabs T H') ⟨none, none, none, rfl, ExtN.refl _, T6.ext S11⟩ (fun i σ H' _ ⟨_, _, _, _, x, _⟩ => SqL.of (x _ _ l11 nofun)) ?_ ?_
    rotate_left
    · rintro σ H' ⟨_, _, _, rfl, x12, T12⟩
      refine hq _ (fun b o na e nt => x12 _ _ (S11 _ _ (K6 _ _ na e)) nt) T12 (((st6.same S11).ext x12).mono (by omega))
    rintro i x σ H12 hx ⟨v3, v4, v5, rfl, x12, T12⟩
    obtain ⟨tk, wk, es, d, rfl, htk, hwk, hcase⟩ : ∃ (tk wk : Addr) (es : Wsh) (d : Option Bool), x = .ref tk ∧ H12 tk = some (.tup [.ref wk, dfV d]) ∧ H12 wk = some (.dK (kvE es)) ∧ ((es = esA ∧ d = none) ∨ (es = esB ∧ d = some false)) := by
      match i, hx with
      | 0, hx => cases hx; exact ⟨tA, wA, esA, none, rfl, x12 _ _ ((s9.trans (s10.trans s11)) _ _ t8) nofun, x12 _ _ ((s8.trans (s9.trans (s10.trans s11))) _ _ a7) nofun, .inl ⟨rfl, rfl⟩⟩
      | 1, hx => cases hx; exact ⟨tB, wB, esB, some false, rfl, x12 _ _ (s11 _ _ t10) nofun, x12 _ _ ((s10.trans s11) _ _ b9) nofun, .inr ⟨rfl, rfl⟩⟩
    have W := two_w (q := q) hq' hm2 hcase
    refine ⟨tk, _, rfl, sqT htk, rfl, _, _, rfl, _, _, rfl, rfl, ?_⟩
    have X12 : ExtN H6 H12 := (Same.x S11).trans x12
    refine ⟨fun σ' H' => ∃ (fq : Addr) (xs : List V), σ' = [some (.ref a), some (.ref D), some (.ref O), some (.ref wk), some (dfV d), some (.ref fq), none] ∧ ExtN H12 H' ∧ Tabs T H' ∧ H' fq = some (.tup xs) ∧ ((∃ c t, xs = [.str ("told" : Str), .ref c] ∧ OkW (rsQ q (m' + 1)) es d ∧ CheAt C CM CH H' c t (rsQ q (m' + 1)) (topE d es)) ∨ ∃ x y, xs = [.str ("barred" : Str), .str x, .str y] ∧ BarW (rsQ q (m' + 1)) es d x y), ?_, ?_⟩
    · refine ⟨T12, fun H14 x14 T14 => ?_⟩
      have D14 := x14 _ _ (X12 _ _ D6 nofun) nofun
      have rs14 : RowsAt H14 cs (rsQ q (m' + 1)) := ⟨rs6.len, fun i b r hb hr => x14 _ _ (X12 _ _ (rs6.at_ i b r hb hr) nofun) nofun⟩
      refine ⟨_, rfl, fun t dt nt ndt _ => ⟨t, dt, D, cs, _, rfl, upd_same, .inr (mk_same0 (C := C) nt ndt _ _ D14), (rs14.same (mk_same0 (C := C) nt ndt)).seq, by omega, hv, fun H15 sb15 ht => ⟨rfl, ?_⟩⟩⟩
      have s15 := mk_same nt ndt sb15
      refine ⟨_, rfl, _, rfl, t, wk, _, es, d, rfl, ht, s15 _ _ (x14 _ _ hwk nofun), W.ok, by have := W.len; omega, fun ho c H16 s16 hc => ⟨(by show 2 ≤ sizeLine; decide), fun qq hqq => ?_⟩, fun x y hxy e H16 he s16 hd => ⟨_, ⟨rfl, e, _, _, rfl, hd, rfl⟩, fun qq hqq => ?_⟩⟩
      · have s17 := s15.trans (s16.trans (Same.new (o := .tup [.str ("told" : Str), .ref c]) hqq))
        exact ⟨qq, _, rfl, x14.trans (Same.x s17), T14.ext s17, upd_same, .inl ⟨c, t, rfl, ho, hc.same (Same.new hqq)⟩⟩
      · have s17 := s15.trans (s16.trans (Same.new (o := .tup [.str ("barred" : Str), .str x, .str y]) hqq))
        exact ⟨qq, _, rfl, x14.trans (Same.x s17), T14.ext s17, upd_same, .inr ⟨x, y, rfl, hxy⟩⟩
    rintro σ' H14 ⟨fq, xs, rfl, x14, T14, efq, hxs⟩
    have O14 := x14 _ _ (X12 _ _ e6 nofun) nofun
    have ro14 : RowsAt H14 os (opQ q (m' + 1)) := ⟨ro.len, fun i b r hb hr => x14 _ _ (X12 _ _ (ro.at_ i b r hb hr) nofun) nofun⟩
    refine ⟨_, rfl, Nat.zero_le _, fun l0 hl0 => ?_⟩
    have s15 : Same H14 (upd H14 l0 (.lst [])) := Same.new hl0
    have e15 : (upd H14 l0 (.lst [])) l0 = some (.lst []) := upd_same
    generalize upd H14 l0 (.lst []) = H15 at s15 e15
    have f15 := s15 _ _ efq
    refine ⟨O, l0, _, rfl, rfl, SqL.of (s15 _ _ O14), SqL.of e15, _, rfl, ?_⟩
    rcases hxs with ⟨c, t, rfl, ho, hc⟩ | ⟨x, y, rfl, hb⟩
    · have hne : opQ q (m' + 1) ≠ [] := fun e => W.bar e ho
      have hos : (os.map V.ref).isEmpty = false := by
        cases os with
        | nil => exact absurd (List.eq_nil_of_length_eq_zero ro.len.symm) hne
        | cons _ _ => rfl
      refine iteF' hos ?_
      refine ⟨_, rfl, fq, _, _, V.str ("told" : Str), rfl, rfl, sqT f15, rfl, rfl, _, rfl, iteF' (by rfl) ?_⟩
      refine ⟨_, rfl, _, rfl, fq, _, _, V.ref c, rfl, rfl, sqT f15, rfl, O, c, t, os, _, _, _, rfl, s15 _ _ O14, ro14.same s15, hne, by rw [← ro.len]; omega, opQ_pr, hv, hc.same s15, cut_rsQ hq' hm2 W.r, fun H16 s16 => ⟨_, rfl, iteF' (by rfl) ?_⟩⟩
      exact ⟨_, _, _, rfl, x12.trans (x14.trans (Same.x (s15.trans s16))), T14.ext (s15.trans s16)⟩
    · have he : opQ q (m' + 1) = [] := Classical.byContradiction fun e => bar_not hb (W.tell e)
      have hos : (os.map V.ref).isEmpty = true := by
        have := ro.len
        rw [he] at this
        rw [List.eq_nil_of_length_eq_zero this]; rfl
      obtain ⟨rfl, rfl⟩ := W.xy x y hb
      refine iteT' hos ?_
      refine ⟨_, rfl, fq, _, _, V.str ("barred" : Str), rfl, rfl, sqT f15, rfl, rfl, _, rfl, iteF' (by rfl) ?_⟩
      refine ⟨_, rfl, _, rfl, fq, _, rfl, sqT f15, (by show ¬ (HT.sIx 3 0 (some 1) = 0 ∧ HT.sIx 3 3 none = 3); decide), fun u1 hu1 => ?_⟩
      have s16 : Same H15 (upd H15 u1 (.tup (cutV [V.str ("barred" : Str), V.str ("item" : Str), V.str ("top" : Str)] (some 1) none))) := Same.new hu1
      have e16 : (upd H15 u1 (.tup (cutV [V.str ("barred" : Str), V.str ("item" : Str), V.str ("top" : Str)] (some 1) none))) u1 = some (.tup (([("item" : Str), ("top" : Str)] : List Str).map V.str)) := by rw [upd_same]; rfl
      generalize upd H15 u1 (.tup (cutV [V.str ("barred" : Str), V.str ("item" : Str), V.str ("top" : Str)] (some 1) none)) = H16 at s16 e16
      refine ⟨u1, [("item" : Str), ("top" : Str)], rfl, sqT e16, by decide, fun ys l1 hper hsrt hl1 => ?_⟩
      rw [sort_two hper hsrt]
      have s17 : Same H16 (upd H16 l1 (.lst (([("item" : Str), ("top" : Str)] : List Str).map V.str))) := Same.new hl1
      have e17 : (upd H16 l1 (.lst (([("item" : Str), ("top" : Str)] : List Str).map V.str))) l1 = some (.lst (([("item" : Str), ("top" : Str)] : List Str).map V.str)) := upd_same
      generalize upd H16 l1 (.lst (([("item" : Str), ("top" : Str)] : List Str).map V.str)) = H17 at s17 e17
      refine ⟨(by show 2 ≤ sizeLine; decide), fun l2 hl2 => ?_⟩
      have s18 : Same H17 (upd H17 l2 (.lst [V.str ("item" : Str), V.str ("top" : Str)])) := Same.new hl2
      have e18 : (upd H17 l2 (.lst [V.str ("item" : Str), V.str ("top" : Str)])) l2 = some (.lst (([("item" : Str), ("top" : Str)] : List Str).map V.str)) := upd_same
      generalize upd H17 l2 (.lst [V.str ("item" : Str), V.str ("top" : Str)]) = H18 at s18 e18
      have okS : ∀ x ∈ ([("item" : Str), ("top" : Str)] : List Str), PyData.strOk x = true := by decide +kernel
      refine ⟨_, _, strs_dp (s18 _ _ e17), strs_dp e18, shaped_strs okS, shaped_strs okS, ?_⟩
      rw [strs_same]
      refine ⟨_, rfl, iteF' (by rfl) ?_⟩
      have S18 := s15.trans (s16.trans (s17.trans s18))
      exact ⟨_, _, _, rfl, x12.trans (x14.trans (Same.x S18)), T14.ext S18⟩
end
end Ts

set_option maxRecDepth 100000
set_option maxHeartbeats 16000000
namespace Ts
open PySem L2
open LamX (ExtN Tabs TabB)
theorem len_sub : ∀ {l ns : List Str}, l.Nodup → (∀ x ∈ l, x ∈ ns) → l.length ≤ ns.length
  | [], _, _, _ => Nat.zero_le _
  | a :: l, ns, nd, h => by
    rw [List.nodup_cons] at nd
    have ha := h a (List.mem_cons_self ..)
    have ih := len_sub (l := l) (ns := ns.erase a) nd.2 fun x hx => (List.mem_erase_of_ne fun e => nd.1 (by rw [← e]; exact hx)).mpr (h x (List.mem_cons_of_mem _ hx))
    rw [List.length_erase_of_mem ha] at ih
    have := List.length_pos_of_mem ha
    rw [List.length_cons]; omega
def spareL (z : Str) : List Str := [z, "qa", "qb", "qc", "qd"]
def freeL (z : Str) (ns : List Str) : List Str := (spareL z).filter fun y => decide (y ∉ ns ++ [("top" : Str)])
theorem free_some {z : Str} {ns : List Str} (h : ns.length ≤ 3) : freeL z ns ≠ [] := fun e => by
  have all : ∀ y ∈ ([("qa" : Str), "qb", "qc", "qd"] : List Str), y ∈ ns := fun y hy => by
    refine Classical.byContradiction fun n => ?_
    have : y ∈ freeL z ns := List.mem_filter.mpr ⟨by unfold spareL; exact List.mem_cons_of_mem _ hy, decide_eq_true fun q => ?_⟩
    · rw [e] at this; cases this
    · rcases List.mem_append.mp q with q | q
      · exact n q
      · rw [List.mem_singleton.mp q] at hy
        exact absurd hy (by decide +kernel)
  have := len_sub (l := [("qa" : Str), "qb", "qc", "qd"]) (by decide +kernel) all
  simp at this
  omega
def NmL (ns : List Str) : Prop := ns.Nodup ∧ ∀ z ∈ ns, NameShape z ∧ z ≠ ("top" : Str)
theorem free_ok {z x : Str} {ns : List Str} (hz : Drawn z) (h : NmL ns) (hx : x ∈ freeL z ns) : NmL (ns ++ [x]) := by
  obtain ⟨h1, h2⟩ := List.mem_filter.mp hx
  have h2 := of_decide_eq_true h2
  have n1 : x ∉ ns := fun q => h2 (List.mem_append_left _ q)
  have n2 : x ≠ ("top" : Str) := fun q => h2 (List.mem_append_right _ (by rw [q]; exact List.mem_singleton_self _))
  have sx : NameShape x := by
    simp only [spareL, List.mem_cons, List.not_mem_nil, or_false] at h1
    rcases h1 with rfl | rfl | rfl | rfl | rfl
    · exact hz.shape
    · exact ⟨.inl (.inr (.inl (by decide +kernel))), by unfold Low; decide +kernel⟩
    · exact ⟨.inl (.inr (.inl (by decide +kernel))), by unfold Low; decide +kernel⟩
    · exact ⟨.inl (.inr (.inl (by decide +kernel))), by unfold Low; decide +kernel⟩
    · exact ⟨.inl (.inr (.inl (by decide +kernel))), by unfold Low; decide +kernel⟩
  refine ⟨?_, fun y hy => ?_⟩
  · rw [List.nodup_append]
    exact ⟨h.1, by simp, fun y hy w hw e => n1 (by rw [← List.mem_singleton.mp hw, ← e]; exact hy)⟩
  · rcases List.mem_append.mp hy with hy | hy
    · exact h.2 y hy
    · rw [List.mem_singleton.mp hy]; exact ⟨sx, n2⟩
theorem putE_new {es : Wsh} {z : Str} {b : Bool} (h : z ∉ es.map (·.1)) : putE es z b = es ++ [(z, b)] := by
  unfold putE
  rw [if_neg fun q => h (any_mem.mp q)]
theorem wish4 {b c d : Str} (bc : b ≠ c) (bd : b ≠ d) (cd : c ≠ d) : mergeK [] [((.inr b : Key), V.bl true), ((.inr c : Key), V.bl true), ((.inr d : Key), V.bl false)] = kvE (es4 b c d) := by
  have e : mergeK [] [((.inr b : Key), V.bl true), ((.inr c : Key), V.bl true), ((.inr d : Key), V.bl false)] = putK (putK (putK (kvE []) (.inr b) (.bl true)) (.inr c) (.bl true)) (.inr d) (.bl false) := rfl
  rw [e, kvE_put, kvE_put, kvE_put, putE_new (es := []) (by simp), putE_new (z := c) (by simp [bc.symm]), putE_new (z := d) (by simp [bd.symm, cd.symm])]
  rfl
def cost3 (x y z : Int) : PyData := .list [.int x, .int y, .int z]
def tt1 (x y : List Str) (z : Int) : PyData := .list [.tuple (x.map PyData.str), .tuple (y.map PyData.str), .int z]
def btb (x : Bool) (y : List Str) (z : Bool) (n : Int) : PyData := .list [.bool x, .tuple (y.map PyData.str), .bool z, .int n]
theorem cost3_same (x y z : Int) : PyData.eqv (cost3 x y z) (cost3 x y z) = true := by simp [cost3, PyData.eqv, PyData.eqvAll]
theorem tt1_same (x y : List Str) (z : Int) : PyData.eqv (tt1 x y z) (tt1 x y z) = true := by
  unfold tt1
  simp only [PyData.eqv, PyData.eqvAll, strs_eqv]
  simp
theorem btb_same (x : Bool) (y : List Str) (z : Bool) (n : Int) : PyData.eqv (btb x y z n) (btb x y z n) = true := by
  unfold btb
  simp only [PyData.eqv, PyData.eqvAll, strs_eqv]
  simp
theorem cost3_sh (x y z : Int) : SeqAt.shaped (cost3 x y z) = true := by
  unfold SeqAt.shaped cost3
  rw [Bool.and_eq_true]
  refine ⟨by simp only [PyData.canLay0, PyData.canLayAll0]; rfl, decide_eq_true ?_⟩
  simp only [PyData.depth, PyData.depthAll]
  omega
theorem tt1_sh {x y : List Str} {z : Int} (h : ∀ s ∈ x, PyData.strOk s = true) (k : ∀ s ∈ y, PyData.strOk s = true) : SeqAt.shaped (tt1 x y z) = true := by
  unfold SeqAt.shaped tt1
  rw [Bool.and_eq_true]
  refine ⟨by simp only [PyData.canLay0, PyData.canLayAll0, strs_lay x h, strs_lay y k]; rfl, decide_eq_true ?_⟩
  simp only [PyData.depth, PyData.depthAll, strs_depth]
  omega
theorem btb_sh {x : Bool} {y : List Str} {z : Bool} {n : Int} (h : ∀ s ∈ y, PyData.strOk s = true) : SeqAt.shaped (btb x y z n) = true := by
  unfold SeqAt.shaped btb
  rw [Bool.and_eq_true]
  refine ⟨by simp only [PyData.canLay0, PyData.canLayAll0, strs_lay y h]; rfl, decide_eq_true ?_⟩
  simp only [PyData.depth, PyData.depthAll, strs_depth]
  omega
def spLEx : Sp := fun vs H Q _ => ∃ (a : Addr) (n : Int), vs = [.ref a] ∧ Stm H a n ∧ n ≤ 1000000 ∧ ∀ H', SB a H H' → Stm H' a (n + 100) → Q (.bl true) H'
section
variable {P : Program} {w : World} {K : PySem.W.Frag} {mg : Str → Option Value} {base : Heap} {C CM CH CB : Addr}
abbrev nEx : List Str := ["_law_stream_here", "_law_names", "_law_price", "_law_k", "_law_spare", "_law_a", "_law_b", "_law_c", "_law_d", "_law_tree", "_law_wish", "_law_ons", "_law_offs", "_law_loose", "_law_many", "_law_name_here", "_law_one"]
theorem sc_Lex : FnScope nEx ["_law_stream_here"] (defScope s_L_example_right) := ⟨rfl, rfl, rfl, by decide +kernel, rfl, by decide +kernel, by decide +kernel⟩
theorem ok_Lex {fT fh fk : Addr} {fdT fdh fdk : FuncData} {dsh dsk : List Value} (D : DefAt K mg "_law_example_right" s_L_example_right ["_law_stream_here"]) (B : TxB mg) (TT : TxT K mg C) (M : TxM K mg CM) (XH : TxH K mg CH)
    (Dd : DefAt K mg "_law_draw" s_L_draw pDw) (Gd : FnOk P w K mg base CX0 2 Dd.f Dd.fd pDw spDraw)
    (Dn : DefAt K mg "_law_name" s_L_name ["_law_stream_here"]) (Gn : FnOk P w K mg base CX0 4 Dn.f Dn.fd ["_law_stream_here"] spName)
    (gh : mg "how_many" = some (.ref fh)) (kh : PySem.W.keepIn K (.ref fh) = true) (bh : Binds K fdh pChp []) (bh2 : Binds K fdh pChp dsh) (vh : Vals [V.non] dsh) (Xh : FnOk P w K mg base (L2.CX P w) 9 fh fdh pChp (spHow C CB))
    (gk : mg "cheapest" = some (.ref fk)) (kk : PySem.W.keepIn K (.ref fk) = true) (bk : Binds K fdk pChp []) (bk2 : Binds K fdk pChp dsk) (vk : Vals [V.non] dsk) (Xk : FnOk P w K mg base (L2.CX P w) 11 fk fdk pChp (spCheapest C CM CB CH))
    (MT : Mk K C fT) (bT : Binds K fdT ["self", "rows"] []) (GT : FnOk P w K mg base CX0 5 fT fdT ["self", "rows"] (spTreeInit C)) : FnOk P w K mg base CX0 12 D.f D.fd ["_law_stream_here"] spLEx := by
  have Gh := how_calm Xh
  have Gk := cheap_calm Xk
  refine D.F.ok sc_Lex (fun vs H Q E h => ?_) (fun cdv A outer s H vs Q E hr h => ?_)
  · obtain ⟨a, n, rfl, _⟩ := h
    rfl
  · obtain ⟨a, n, rfl, hst, hn, hq⟩ := h
    have hu := hu_of hr
    have h64 := hr.units
    have r2 : Room 2 _ := hr.mono (by decide)
    have r4 : Room 4 _ := hr.mono (by decide)
    have r6 : Room 6 _ := hr.mono (by decide)
    have r9 : Room 9 _ := hr.mono (by decide)
    refine ⟨_, pss_cons (ps_asg (pe_tup (pa_cons (pe_lst pa_nil) (pa_cons (pe_op op_add pe_int (pe_call Gd r2 rfl Dd.g Dd.F.kp Dd.b .nil pass0 (pa_cons (pv 0) (pa_cons pe_int pa_nil)))) pa_nil))) (pg_tup rfl (pgs_cons (pg_name (i := 1) sc_Lex.nd rfl (.inr rfl)) (pgs_cons (pg_name (i := 2) sc_Lex.nd rfl (.inr rfl)) pgs_nil))))
      (pss_cons (ps_for PassesOwn.never rfl (pi_range1 (by rfl) B.range (pa_cons pe_int pa_nil)) (pg_name (i := 3) sc_Lex.nd rfl (.inl rfl))
        (pss_cons (ps_set (i := 4) sc_Lex.nd rfl (.inl rfl) (pe_lst (pa_cons (pe_call Gn r4 rfl Dn.g Dn.F.kp Dn.b .nil pass0 (pa_cons (pv 0) pa_nil)) (pa_cons pe_str (pa_cons pe_str (pa_cons pe_str (pa_cons pe_str pa_nil)))))))
        (pss_one (ps_expr (pe_bm PySem.F.plainAttrs_list PySem.F.slot_list_append PySem.F.type_list_append mt_append (pv 1) (pa_cons (pe_ix ix_list (pe_lc (own := [("_law_name_here", 15)]) (g := gName 15) (tt := tTest (tOp (rIn K true) (tVar 15) (tOp rCat (tVar 1) (tLst (tCons (tC (.str ("top" : Str))) tNil))))) (te := tVar 15) rfl sc_Lex.nd (pi_list (pv 4)) (blkOk_by (N := nEx) (sc := defScope s_L_example_right) (by decide +kernel))
          (fun _ _ _ _ _ => pg_name (i := 15) sc_Lex.nd rfl (Or.inl rfl)) (fun _ _ _ _ _ => by exact pts_one (pt_cmpR op_notIn_seq (pv 15) (pe_op op_cat (pv 1) (pe_lst (pa_cons pe_str pa_nil))) (by rfl))) (fun _ _ _ _ _ => pv 15)) pe_int (fun _ _ => rfl)) pa_nil))))))
      (pss_cons (ps_asg (pv 1) (pg_unl rfl (pgs_cons (pg_name (i := 5) sc_Lex.nd rfl (.inr rfl)) (pgs_cons (pg_name (i := 6) sc_Lex.nd rfl (.inl rfl)) (pgs_cons (pg_name (i := 7) sc_Lex.nd rfl (.inl rfl)) (pgs_cons (pg_name (i := 8) sc_Lex.nd rfl (.inl rfl)) pgs_nil))))))
      (pss_cons (ps_set (i := 9) sc_Lex.nd rfl (.inl rfl) (pe_make MT GT r6 rfl TT.g bT .nil pass0 (pa_cons (pe_op op_cat (pe_lst (pa_cons (pe_tup (pa_cons (pv 5) (pa_cons pe_str (pa_cons pe_str (pa_cons (pv 2) pa_nil))))) pa_nil)) (pe_lc (own := [("_law_one", 16)]) (g := gName 16) (tt := tYes) (te := tTup (tCons (tVar 16) (tCons (tVar 5) (tCons (tC (.str ("item" : Str))) (tCons (tVar 2) tNil))))) rfl sc_Lex.nd (pi_tup (pe_tup (pa_cons (pv 6) (pa_cons (pv 7) (pa_cons (pv 8) pa_nil))))) (blkOk_by (N := nEx) (sc := defScope s_L_example_right) (by decide +kernel))
          (fun _ _ _ _ _ => pg_name (i := 16) sc_Lex.nd rfl (Or.inl rfl)) (fun _ _ _ _ _ => pts_nil) (fun _ _ _ _ _ => by exact pe_tup (pa_cons (pv 16) (pa_cons (pv 5) (pa_cons pe_str (pa_cons (pv 2) pa_nil))))))) pa_nil)))
      (pss_cons (ps_set (i := 10) sc_Lex.nd rfl (.inl rfl) (pe_disp (pps_cons (pv 6) pe_bl (pps_cons (pv 7) pe_bl (pps_cons (pv 8) pe_bl pps_nil))) (by rfl) (by rfl) (fun z => by cases z) (by decide)))
      (pss_cons (ps_par (i := 11) (j := 12) rfl sc_Lex.nd rfl rfl (by decide) rfl rfl (pa_cons (pe_call Gk hr rfl gk kk bk .nil pass0 (pa_cons (pv 9) (pa_cons (pv 10) (pa_cons pe_bl pa_nil)))) (pa_cons (pe_call Gk hr rfl gk kk bk .nil pass0 (pa_cons (pv 9) (pa_cons (pv 10) (pa_cons pe_bl pa_nil)))) pa_nil)) (by rfl))
      (pss_cons (ps_if (pt_cmpR (op_neD h64) (pe_lst (pa_cons (pe_fld (pv 11) rfl) (pa_cons (pe_fld (pv 12) rfl) (pa_cons (pe_fld (pe_call Gk hr rfl gk kk bk2 vk pass0 (pa_cons (pv 9) (pa_cons (pv 10) pa_nil))) rfl) pa_nil)))) (pe_lst (pa_cons (pv 2) (pa_cons (pe_op op_mul pe_int (pv 2)) (pa_cons (pv 2) pa_nil)))) (nomark _)) (pss_one (ps_ret pe_bl)) pss_nil)
      (pss_cons (ps_if (pt_cmpR (op_neD h64) (pe_lst (pa_cons (pe_fld (pe_fld (pv 11) rfl) rfl) (pa_cons (pe_fld (pe_fld (pv 11) rfl) rfl) (pa_cons (pe_call Gh r9 rfl gh kh bh .nil pass0 (pa_cons (pv 9) (pa_cons (pv 10) (pa_cons pe_bl pa_nil)))) pa_nil)))) (pe_lst (pa_cons (pe_tup (pa_cons (pv 8) pa_nil)) (pa_cons (pe_tup (pa_cons (pv 8) pa_nil)) (pa_cons pe_int pa_nil)))) (nomark _)) (pss_one (ps_ret pe_bl)) pss_nil)
      (pss_cons (ps_if (pt_cmpR (op_neD h64) (pe_lst (pa_cons (pe_fld (pe_fld (pv 12) rfl) rfl) (pa_cons (pe_fld (pe_fld (pv 12) rfl) rfl) (pa_cons (pe_call Gh r9 rfl gh kh bh .nil pass0 (pa_cons (pv 9) (pa_cons (pv 10) (pa_cons pe_bl pa_nil)))) pa_nil)))) (pe_lst (pa_cons (pe_tup (pa_cons (pv 5) (pa_cons (pv 8) pa_nil))) (pa_cons (pe_tup (pa_cons (pv 6) (pa_cons (pv 7) pa_nil))) (pa_cons pe_int pa_nil)))) (nomark _)) (pss_one (ps_ret pe_bl)) pss_nil)
      (pss_cons (ps_par (i := 13) (j := 14) rfl sc_Lex.nd rfl rfl (by decide) rfl rfl (pa_cons (pe_call Gk hr rfl gk kk bk2 vk pass0 (pa_cons (pv 9) (pa_cons (pv 10) pa_nil))) (pa_cons (pe_call Gh r9 rfl gh kh bh2 vh pass0 (pa_cons (pv 9) (pa_cons (pv 10) pa_nil))) pa_nil)) (by rfl))
      (pss_one (ps_ret (pe_cmpR (op_eqD h64) (pe_lst (pa_cons (pe_fld (pe_fld (pv 13) rfl) rfl) (pa_cons (pe_fld (pe_fld (pv 13) rfl) rfl) (pa_cons (pe_fld (pe_fld (pv 13) rfl) rfl) (pa_cons (pv 14) pa_nil))))) (pe_lst (pa_cons pe_bl (pa_cons (pe_tup (pa_cons (pv 8) pa_nil)) (pa_cons pe_bl (pa_cons pe_int pa_nil))))) (nomark _))))))))))))), ?_⟩
    refine ⟨Nat.zero_le _, fun nl hnl => ?_⟩
    have s1 : Same H (upd H nl (.lst [])) := Same.new hnl
    have e1 : (upd H nl (.lst [])) nl = some (.lst []) := upd_same
    have nla : nl ≠ a := (hst.ne hnl).symm
    generalize upd H nl (.lst []) = H1 at s1 e1
    refine ⟨_, rfl, a, 9, n, rfl, hst.same s1, by omega, by decide, by decide, fun r H2 r0 r1' st2 q2 => ⟨_, _, rfl, rfl, (by show 2 ≤ sizeLine; decide), fun tq htq => ⟨tq, _, rfl, sqT upd_same, rfl, _, _, rfl, _, _, rfl, rfl, ?_⟩⟩⟩
    obtain ⟨p, hp, hp1, hp9⟩ : ∃ p, p = 1 + r ∧ 1 ≤ p ∧ p ≤ 9 := ⟨1 + r, rfl, by omega, by omega⟩
    have s3 : Same H2 (upd H2 tq (.tup [V.ref nl, V.int (1 + r)])) := Same.new htq
    have e3 := s3 _ _ (sb_eq q2 _ _ nla e1)
    have sb3 : SB a H (upd H2 tq (.tup [V.ref nl, V.int (1 + r)])) := ((SB.of (a := a) s1).trans (sb_eq q2)).trans (SB.of s3)
    have st3 := st2.same s3
    refine ⟨4, rfl, by decide, by decide, ?_⟩
    have e3 : (upd H2 tq (.tup [V.ref nl, V.int (1 + r)])) nl = some (.lst []) := e3
    have gen : ∀ Hs, Hs = upd H2 tq (.tup [V.ref nl, V.int (1 + r)]) → Hs = Hs := fun _ _ => rfl
    clear gen
    refine for_range (lo := 0) (n := (4 : Int).toNat) (fun i σ H' => ∃ (ns : List Str) (v3 v4 : Option V), σ = [some (.ref a), some (.ref nl), some (.int p), v3, v4, none, none, none, none, none, none, none, none, none, none, none, none] ∧ H' nl = some (.lst (ns.map V.str)) ∧ NmL ns ∧ ns.length = i ∧ (∀ b o, b ≠ a → H b = some o → H' b = some o) ∧ Stm H' a (n + 1 + 9 * (i : Int))) ⟨[], none, none, by rw [hp]; rfl, e3, ⟨List.nodup_nil, fun z hz => by cases hz⟩, rfl, sb3, by simpa using st3⟩ ?_ ?_
    · rintro i σ H4 hi ⟨ns, v3, v4, rfl, e4, hns, lns, k4, st4⟩
      have hi4 : i < 4 := hi
      refine ⟨_, rfl, a, _, rfl, st4, by omega, fun z H5 hz st5 sb5 => ⟨(by show 5 ≤ sizeLine; decide), fun sl hsl => ?_⟩⟩
      have e5 := sb5 _ _ nla e4
      have s6 : Same H5 (upd H5 sl (.lst [V.str z, V.str ("qa" : Str), V.str ("qb" : Str), V.str ("qc" : Str), V.str ("qd" : Str)])) := Same.new hsl
      have e6 : (upd H5 sl (.lst [V.str z, V.str ("qa" : Str), V.str ("qb" : Str), V.str ("qc" : Str), V.str ("qd" : Str)])) sl = some (.lst ((spareL z).map V.str)) := upd_same
      generalize upd H5 sl (.lst [V.str z, V.str ("qa" : Str), V.str ("qb" : Str), V.str ("qc" : Str), V.str ("qd" : Str)]) = H6 at s6 e6
      have n6 := s6 _ _ e5
      refine ⟨_, rfl, .inl ⟨rfl, _, SqL.of n6⟩, _, rfl, sl, rfl, ⟨_, SqL.of e6⟩, fun D hD => ?_⟩
      refine lc_list (K := K) (a := sl) (xs := (spareL z).map V.str) (fun j H' => Same H6 H' ∧ H' D = some (.lst ((((spareL z).take j).filter fun y => decide (y ∉ ns ++ [("top" : Str)])).map V.str))) ⟨Same.new hD, upd_same⟩ (fun j H' _ m => SqL.of (m.1 _ _ e6)) ?_ ?_
      · rintro j x H7 hx ⟨s7, e7⟩
        rw [List.getElem?_map] at hx
        obtain ⟨y, hy, rfl⟩ := Option.map_eq_some_iff.mp hx
        refine ⟨rfl, _, rfl, _, rfl, (by show 1 ≤ sizeLine; decide), fun l1 hl1 => ?_⟩
        have s8 : Same H7 (upd H7 l1 (.lst [V.str ("top" : Str)])) := Same.new hl1
        have e8 : (upd H7 l1 (.lst [V.str ("top" : Str)])) l1 = some (.lst [V.str ("top" : Str)]) := upd_same
        generalize upd H7 l1 (.lst [V.str ("top" : Str)]) = H8 at s8 e8
        refine ⟨nl, l1, _, _, rfl, rfl, s8 _ _ (s7 _ _ n6), e8, szl (by rw [List.length_map]; show _ + 1 ≤ 1000; omega), fun l2 hl2 => ?_⟩
        have s9 : Same H8 (upd H8 l2 (.lst (ns.map V.str ++ [V.str ("top" : Str)]))) := Same.new hl2
        have e9 : (upd H8 l2 (.lst (ns.map V.str ++ [V.str ("top" : Str)]))) l2 = some (.lst ((ns ++ [("top" : Str)]).map V.str)) := by rw [upd_same, List.map_append]; rfl
        generalize upd H8 l2 (.lst (ns.map V.str ++ [V.str ("top" : Str)])) = H9 at s9 e9
        have e79 := (s8.trans s9) _ _ e7
        refine ⟨l2, _, rfl, .inl (SqL.of e9), rfl, flat_strs _, _, rfl, ?_⟩
        have eb : (if true = true then !inV (.str y) ((ns ++ [("top" : Str)]).map V.str) else inV (.str y) ((ns ++ [("top" : Str)]).map V.str)) = decide (y ∉ ns ++ [("top" : Str)]) := by
          rw [if_pos rfl, inV_strs]
          by_cases q : y ∈ ns ++ [("top" : Str)]
          · rw [decide_eq_true q, decide_eq_false fun h => h q]; rfl
          · rw [decide_eq_false q, decide_eq_true q]; rfl
        rw [eb, filt_moreL hy]
        refine ite2 (fun hb => ?_) (fun hb => ?_)
        · rw [if_pos hb, List.map_append]
          have := List.length_filter_le (fun y => decide (y ∉ ns ++ [("top" : Str)])) ((spareL z).take j)
          have l5 : (spareL z).length = 5 := rfl
          rw [List.length_take] at this
          refine ⟨_, rfl, _, e79, small1000 (by rw [List.length_map]; omega), fun o ob eb => ?_, upd_same⟩
          rw [upd_ne (ne_of_none eb hD)]; exact (s8.trans s9) _ _ (s7 _ _ eb)
        · rw [if_neg hb, List.append_nil]
          exact ⟨s7.trans (s8.trans s9), e79⟩
      rintro H7 ⟨s7, e7⟩
      rw [List.length_map, List.take_length] at e7
      have hne := free_some (z := z) (ns := ns) (by omega)
      have e7 : H7 D = some (.lst ((freeL z ns).map V.str)) := e7
      obtain ⟨x, F, hF⟩ : ∃ x F, freeL z ns = x :: F := by
        cases h : freeL z ns with
        | nil => exact absurd h hne
        | cons x F => exact ⟨x, F, rfl⟩
      have hx : x ∈ freeL z ns := by rw [hF]; exact List.mem_cons_self ..
      rw [hF] at e7
      have n7 := s7 _ _ n6
      refine ⟨D, _, 0, .str x, rfl, rfl, SqL.of e7, atI_nat (j := 0) rfl, nl, _, _, rfl, rfl, n7, small1000 (by rw [List.length_map]; omega), ?_⟩
      refine ⟨ns ++ [x], _, _, rfl, by rw [upd_same, List.map_append]; rfl, free_ok hz hns hx, by rw [List.length_append, lns]; rfl, fun b o na e => ?_, ?_⟩
      · have nn : b ≠ nl := ne_of_none e hnl
        rw [upd_ne nn]; exact s7 _ _ (s6 _ _ (sb5 _ _ na (k4 _ _ na e)))
      · obtain ⟨x', y', z', e, k⟩ := (st5.same s6).same s7
        exact Stm.mono ⟨x', y', z', by rw [upd_ne (Ne.symm nla)]; exact e, k⟩ (by push_cast; omega)
    rintro σ H4 ⟨ns, v3, v4, rfl, e4, hns, lns, k4, st4⟩
    clear e3 sb3 st3 s3 q2 st2 s1 e1 htq
    match ns, lns with
    | [na, nb, nc, nd], _ =>
    have F4 : Four na nb nc nd := by
      have h1 := hns.1
      simp only [List.nodup_cons, List.mem_cons, List.not_mem_nil, or_false, not_or] at h1
      exact ⟨h1.1.1, h1.1.2.1, h1.1.2.2, h1.2.1.1, h1.2.1.2, h1.2.2.1, (hns.2 na (by simp)).2.symm, (hns.2 nb (by simp)).2.symm, (hns.2 nc (by simp)).2.symm, (hns.2 nd (by simp)).2.symm⟩
    have hv := val4 (p := p) F4 hp1 (hns.2 na (by simp)).1 (hns.2 nb (by simp)).1 (hns.2 nc (by simp)).1 (hns.2 nd (by simp)).1
    refine ⟨_, rfl, nl, _, rfl, SqL.of e4, rfl, _, _, rfl, _, _, rfl, _, _, rfl, _, _, rfl, rfl, ?_⟩
    -- the tree
    refine ⟨_, rfl, _, rfl, (by show 4 ≤ sizeLine; decide), fun t1 ht1 => ?_⟩
    have s5 : Same H4 (upd H4 t1 (.tup [V.str na, V.str ("top" : Str), V.str ("folder" : Str), V.int p])) := Same.new ht1
    have e5 : (upd H4 t1 (.tup [V.str na, V.str ("top" : Str), V.str ("folder" : Str), V.int p])) t1 = some (.tup (rowVs ⟨na, "top", "folder", some p⟩)) := upd_same
    generalize upd H4 t1 (.tup [V.str na, V.str ("top" : Str), V.str ("folder" : Str), V.int p]) = H5 at s5 e5
    refine ⟨(by show 1 ≤ sizeLine; decide), fun l1 hl1 => ?_⟩
    have s6 : Same H5 (upd H5 l1 (.lst [V.ref t1])) := Same.new hl1
    have e6 : (upd H5 l1 (.lst [V.ref t1])) l1 = some (.lst [V.ref t1]) := upd_same
    generalize upd H5 l1 (.lst [V.ref t1]) = H6 at s6 e6
    refine ⟨_, rfl, _, rfl, _, rfl, (by show 3 ≤ sizeLine; decide), fun tt htt => ⟨tt, rfl, ⟨_, sqT upd_same⟩, fun D hD => ?_⟩⟩
    have s7 : Same H6 (upd H6 tt (.tup [V.str nb, V.str nc, V.str nd])) := Same.new htt
    have e7 : (upd H6 tt (.tup [V.str nb, V.str nc, V.str nd])) tt = some (.tup [V.str nb, V.str nc, V.str nd]) := upd_same
    generalize upd H6 tt (.tup [V.str nb, V.str nc, V.str nd]) = H7 at s7 e7 hD
    refine lc_it (walk_tup (K := K) (a := tt) (xs := [V.str nb, V.str nc, V.str nd])) (fun j H' => Same H7 H' ∧ ∃ as : List Addr, H' D = some (.lst (as.map V.ref)) ∧ RowsAt H' as (([nb, nc, nd].map fun y => (⟨y, na, "item", some p⟩ : Row)).take j)) ⟨Same.new hD, [], upd_same, RowsAt.nil⟩ (fun j H' _ m => sqT (m.1 _ _ e7)) ?_ ?_
    · rintro j x H8x H8 hj ⟨s8, as, e8, ra8⟩ ⟨rfl, hx⟩
      have hj3 : j < 3 := hj
      obtain ⟨y, rfl, hy⟩ : ∃ y, x = .str y ∧ ([nb, nc, nd].map fun y => (⟨y, na, "item", some p⟩ : Row))[j]? = some ⟨y, na, "item", some p⟩ := by
        match j, hj3, hx with
        | 0, _, hx => cases hx; exact ⟨_, rfl, rfl⟩
        | 1, _, hx => cases hx; exact ⟨_, rfl, rfl⟩
        | 2, _, hx => cases hx; exact ⟨_, rfl, rfl⟩
      have las : as.length ≤ 3 := by rw [ra8.len, List.length_take]; exact Nat.min_le_right _ _
      refine ⟨rfl, tYes_if ⟨_, rfl, _, rfl, _, rfl, (by show 4 ≤ sizeLine; decide), fun t2 ht2 => ?_⟩⟩
      have s9 : Same H8 (upd H8 t2 (.tup [V.str y, V.str na, V.str ("item" : Str), V.int p])) := Same.new ht2
      have e9 : (upd H8 t2 (.tup [V.str y, V.str na, V.str ("item" : Str), V.int p])) t2 = some (.tup (rowVs ⟨y, na, "item", some p⟩)) := upd_same
      generalize upd H8 t2 (.tup [V.str y, V.str na, V.str ("item" : Str), V.int p]) = H9 at s9 e9
      have t2D : t2 ≠ D := fun q => by rw [q, s9 _ _ e8] at e9; cases e9
      refine ⟨_, s9 _ _ e8, small1000 (by rw [List.length_map]; omega), fun b o e => ?_, as ++ [t2], by rw [upd_same, List.map_append]; rfl, ?_⟩
      · rw [upd_ne (ne_of_none e hD)]; exact s9 _ _ (s8 _ _ e)
      · rw [take_more hy]
        exact ((ra8.same s9).kp (Kp.put (xs := [D]) (by simp)) fun x hx t => by rw [List.mem_singleton.mp hx, s9 _ _ e8]; exact nofun).snoc (by rw [upd_ne t2D]; exact e9)
    rintro H8 ⟨s8, as, e8, ra8⟩
    have las : as.length = 3 := by rw [ra8.len]; rfl
    have ra8 : RowsAt H8 as [⟨nb, na, "item", some p⟩, ⟨nc, na, "item", some p⟩, ⟨nd, na, "item", some p⟩] := ra8
    refine ⟨l1, D, _, _, rfl, rfl, (s7.trans s8) _ _ e6, e8, szl (by rw [List.length_map, las]; show 1 + 3 ≤ 1000; decide), fun rl hrl => ?_⟩
    have s9 : Same H8 (upd H8 rl (.lst ([V.ref t1] ++ as.map V.ref))) := Same.new hrl
    have e9 : (upd H8 rl (.lst ([V.ref t1] ++ as.map V.ref))) rl = some (.lst ((t1 :: as).map V.ref)) := upd_same
    generalize upd H8 rl (.lst ([V.ref t1] ++ as.map V.ref)) = H9 at s9 e9
    have S9 := s5.trans (s6.trans (s7.trans (s8.trans s9)))
    have r1 : RowsAt H9 [t1] [⟨na, "top", "folder", some p⟩] := by
      have := (RowsAt.nil (H := H9)).snoc ((s6.trans (s7.trans (s8.trans s9))) _ _ e5)
      simpa using this
    have rw9 : RowsAt H9 (t1 :: as) (rs4 na nb nc nd p) := by
      have := r1.app (ra8.same s9)
      simpa [rs4] using this
    refine fun t dt nt ndt _ => ⟨t, dt, rl, t1 :: as, rs4 na nb nc nd p, rfl, upd_same, .inr (mk_same0 (C := C) nt ndt _ _ e9), (rw9.same (mk_same0 (C := C) nt ndt)).seq, by show 4 ≤ 100; decide, hv, fun H10 sb10 ht => ⟨rfl, ?_⟩⟩
    have S10 := S9.trans (mk_same nt ndt sb10)
    refine fun wd hwd => ⟨_, rfl, _, rfl, _, rfl, upd_same, [(.inr nb, .bl true), (.inr nc, .bl true), (.inr nd, .bl false)], rfl, (by show 3 ≤ 15; decide), ?_⟩
    have s11 : Same H10 (upd (upd H10 wd (.dK [])) wd (.dK (mergeK [] [((.inr nb : Key), V.bl true), ((.inr nc : Key), V.bl true), ((.inr nd : Key), V.bl false)]))) := fun b o e => by rw [upd_ne (ne_of_none e hwd), upd_ne (ne_of_none e hwd)]; exact e
    have w11 : (upd (upd H10 wd (.dK [])) wd (.dK (mergeK [] [((.inr nb : Key), V.bl true), ((.inr nc : Key), V.bl true), ((.inr nd : Key), V.bl false)]))) wd = some (.dK (kvE (es4 nb nc nd))) := by rw [upd_same, wish4 F4.bc F4.bd F4.cd]
    generalize upd (upd H10 wd (.dK [])) wd (.dK (mergeK [] [((.inr nb : Key), V.bl true), ((.inr nc : Key), V.bl true), ((.inr nd : Key), V.bl false)])) = H11 at s11 w11
    have ht11 := ht.same s11
    have S11 := S10.trans s11
    clear s11 ht hwd S10 sb10 S9 rw9 r1 s9 e9 ra8 e8 s8 e7 s7 s6 s5 e5 e6
    have ok := ends4 (a := na) (p := p) F4
    have el : (es4 nb nc nd).length ≤ 150 := by show 3 ≤ 150; decide
    have X := fun v => ex4 F4 hp1 hv v
    have okd : ∀ x ∈ [nd], PyData.strOk x = true := fun x hx => names_ok hv x (by rw [List.mem_singleton.mp hx]; show nd ∈ [na, nb, nc, nd]; simp)
    have okad : ∀ x ∈ [na, nd], PyData.strOk x = true := fun x hx => names_ok hv x (by
      show x ∈ [na, nb, nc, nd]
      simp only [List.mem_cons, List.not_mem_nil, or_false] at hx
      rcases hx with rfl | rfl <;> simp)
    have okbc : ∀ x ∈ [nb, nc], PyData.strOk x = true := fun x hx => names_ok hv x (by
      show x ∈ [na, nb, nc, nd]
      simp only [List.mem_cons, List.not_mem_nil, or_false] at hx
      rcases hx with rfl | rfl <;> simp)
    generalize hR : rs4 na nb nc nd p = R at *
    refine ⟨_, rfl, _, rfl, t, wd, R, _, some true, rfl, ht11, w11, ok, el, by rw [← hR]; exact okw4 F4 (by rw [hR]; exact hv) _, fun c1 H12 s12 hc1 => ?_⟩
    refine ⟨_, rfl, _, rfl, t, wd, R, _, some false, rfl, ht11.same s12, s12 _ _ w11, ok, el, by rw [← hR]; exact okw4 F4 (by rw [hR]; exact hv) _, fun c2 H13 s13 hc2 => ⟨_, _, rfl, ?_⟩⟩
    have S13 := S11.trans (s12.trans s13)
    have ht13 := (ht11.same s12).same s13
    have w13 := (s12.trans s13) _ _ w11
    obtain ⟨d1, m1, k1, y1, a1, b1, f1, _⟩ := (hc1.same s13).ex
    obtain ⟨d2, m2, k2, y2, a2, b2, f2, _⟩ := hc2.ex
    have x1 := (X (some true)).cost
    have x2 := (X (some false)).cost
    have x0 := (X none).cost
    rw [hR, if_neg (by decide)] at x1 x0
    rw [hR, if_pos rfl] at x2
    rw [x1] at a1
    rw [x2] at a2
    -- the costs
    refine ⟨_, rfl, c1, CH, d1, _, _, rfl, a1, XH.cl, XH.nc, chf_c _ _ _ _, _, rfl, c2, CH, d2, _, _, rfl, a2, XH.cl, XH.nc, chf_c _ _ _ _, _, rfl, _, rfl, t, wd, R, _, none, rfl, ht13, w13, ok, el, by rw [← hR]; exact okw4 F4 (by rw [hR]; exact hv) _, fun c3 H14 s14 hc3 => ?_⟩
    obtain ⟨d3, m3, k3, y3, a3, b3, f3, _⟩ := hc3.ex
    rw [x0] at a3
    refine ⟨c3, CH, d3, _, _, rfl, a3, XH.cl, XH.nc, chf_c _ _ _ _, (by show 3 ≤ sizeLine; decide), fun l1 hl1 => ?_⟩
    have s15 : Same H14 (upd H14 l1 (.lst [V.int p, V.int (2 * p), V.int p])) := Same.new hl1
    have e15 : (upd H14 l1 (.lst [V.int p, V.int (2 * p), V.int p])) l1 = some (.lst [V.int p, V.int (2 * p), V.int p]) := upd_same
    generalize upd H14 l1 (.lst [V.int p, V.int (2 * p), V.int p]) = H15 at s15 e15
    refine ⟨_, rfl, _, rfl, _, _, rfl, rfl, .inl ⟨by decide, by decide⟩, _, rfl, (by show 3 ≤ sizeLine; decide), fun l2 hl2 => ?_⟩
    have s16 : Same H15 (upd H15 l2 (.lst [V.int p, V.int (2 * p), V.int p])) := Same.new hl2
    have e16 : (upd H15 l2 (.lst [V.int p, V.int (2 * p), V.int p])) l2 = some (.lst [V.int p, V.int (2 * p), V.int p]) := upd_same
    generalize upd H15 l2 (.lst [V.int p, V.int (2 * p), V.int p]) = H16 at s16 e16
    refine ⟨cost3 p (2 * p) p, cost3 p (2 * p) p, .lst (SqL.of (s16 _ _ e15)) (.cons (.int _) (.cons (.int _) (.cons (.int _) .nil))), .lst (SqL.of e16) (.cons (.int _) (.cons (.int _) (.cons (.int _) .nil))), cost3_sh _ _ _, cost3_sh _ _ _, ?_⟩
    rw [cost3_same]
    refine ⟨_, rfl, iteF' (by rfl) ?_⟩
    have s1316 := s14.trans (s15.trans s16)
    have S16 := S13.trans s1316
    have ht16 := ht13.same s1316
    have w16 := s1316 _ _ w13
    -- the ones with the top on
    have b1' : MV C CM H16 m1 t R (favV R (tabF R (topE (some true) (es4 nb nc nd))) true) := b1.same s1316
    have f1' : MV C CM H16 k1 t R (favV R (tabF R (topE (some true) (es4 nb nc nd))) false) := f1.same s1316
    have tb1 := b1'.turns
    have tf1 := f1'.turns
    have xt1 := (X (some true)).turns true
    have xf1 := (X (some true)).turns false
    rw [hR, if_neg (by decide)] at xt1 xf1
    rw [xt1] at tb1
    rw [xf1] at tf1
    obtain ⟨g1, u1, v1, h1, h2, _⟩ := tb1.ex
    obtain ⟨g2, u2, v2, h3, h4, _⟩ := tf1.ex
    have xh1 := (X (some true)).how
    rw [hR, if_neg (by decide)] at xh1
    refine ⟨_, rfl, c1, CH, d1, _, _, rfl, s1316 _ _ a1, XH.cl, XH.nw, chf_w _ _ _ _, m1, CM, g1, _, _, rfl, h1, M.cl, M.nu, mf_u _ _ _ _, _, rfl, c1, CH, d1, _, _, rfl, s1316 _ _ a1, XH.cl, XH.nn, chf_n _ _ _ _, k1, CM, g2, _, _, rfl, h3, M.cl, M.nu, mf_u _ _ _ _, _, rfl, _, rfl, t, wd, R, _, some true, rfl, ht16, w16, ok, el, by rw [← hR]; exact okw4 F4 (by rw [hR]; exact hv) _, fun H17 s17 => ?_⟩
    rw [xh1]
    refine ⟨(by show 3 ≤ sizeLine; decide), fun l3 hl3 => ?_⟩
    have s18 : Same H17 (upd H17 l3 (.lst [V.ref u1, V.ref u2, V.int 1])) := Same.new hl3
    have e18 : (upd H17 l3 (.lst [V.ref u1, V.ref u2, V.int 1])) l3 = some (.lst [V.ref u1, V.ref u2, V.int 1]) := upd_same
    generalize upd H17 l3 (.lst [V.ref u1, V.ref u2, V.int 1]) = H18 at s18 e18
    refine ⟨_, rfl, (by show 1 ≤ sizeLine; decide), fun q1 hq1 => ?_⟩
    have s19 : Same H18 (upd H18 q1 (.tup [V.str nd])) := Same.new hq1
    have e19 : (upd H18 q1 (.tup [V.str nd])) q1 = some (.tup [V.str nd]) := upd_same
    generalize upd H18 q1 (.tup [V.str nd]) = H19 at s19 e19
    refine ⟨_, rfl, (by show 1 ≤ sizeLine; decide), fun q2 hq2 => ?_⟩
    have s20 : Same H19 (upd H19 q2 (.tup [V.str nd])) := Same.new hq2
    have e20 : (upd H19 q2 (.tup [V.str nd])) q2 = some (.tup [V.str nd]) := upd_same
    generalize upd H19 q2 (.tup [V.str nd]) = H20 at s20 e20
    refine ⟨(by show 3 ≤ sizeLine; decide), fun l4 hl4 => ?_⟩
    have s21 : Same H20 (upd H20 l4 (.lst [V.ref q1, V.ref q2, V.int 1])) := Same.new hl4
    have e21 : (upd H20 l4 (.lst [V.ref q1, V.ref q2, V.int 1])) l4 = some (.lst [V.ref q1, V.ref q2, V.int 1]) := upd_same
    generalize upd H20 l4 (.lst [V.ref q1, V.ref q2, V.int 1]) = H21 at s21 e21
    have s1821 := s19.trans (s20.trans s21)
    have s1621 := s17.trans (s18.trans s1821)
    refine ⟨tt1 [nd] [nd] 1, tt1 [nd] [nd] 1, .lst (SqL.of (s1821 _ _ e18)) (.cons (.tup (sqT (s1621 _ _ h2)) (strs_dpAll [nd])) (.cons (.tup (sqT (s1621 _ _ h4)) (strs_dpAll [nd])) (.cons (.int _) .nil))), .lst (SqL.of e21) (.cons (.tup (sqT ((s20.trans s21) _ _ e19)) (strs_dpAll [nd])) (.cons (.tup (sqT (s21 _ _ e20)) (strs_dpAll [nd])) (.cons (.int _) .nil))), tt1_sh okd okd, tt1_sh okd okd, ?_⟩
    rw [tt1_same]
    refine ⟨_, rfl, iteF' (by rfl) ?_⟩
    have S21 := S16.trans s1621
    have ht21 := ht16.same s1621
    have w21 := s1621 _ _ w16
    have s1321 := s1316.trans s1621
    -- the ones with the top off
    have b2' : MV C CM H21 m2 t R (favV R (tabF R (topE (some false) (es4 nb nc nd))) true) := b2.same s1321
    have f2' : MV C CM H21 k2 t R (favV R (tabF R (topE (some false) (es4 nb nc nd))) false) := f2.same s1321
    have tb2 := b2'.turns
    have tf2 := f2'.turns
    have xt2 := (X (some false)).turns true
    have xf2 := (X (some false)).turns false
    rw [hR, if_pos rfl, if_pos rfl] at xt2
    rw [hR, if_pos rfl, if_neg Bool.false_ne_true] at xf2
    rw [xt2] at tb2
    rw [xf2] at tf2
    obtain ⟨g3, u3, v3', h5, h6, _⟩ := tb2.ex
    obtain ⟨g4, u4, v4', h7, h8, _⟩ := tf2.ex
    have xh2 := (X (some false)).how
    rw [hR, if_pos rfl] at xh2
    refine ⟨_, rfl, c2, CH, d2, _, _, rfl, s1321 _ _ a2, XH.cl, XH.nw, chf_w _ _ _ _, m2, CM, g3, _, _, rfl, h5, M.cl, M.nu, mf_u _ _ _ _, _, rfl, c2, CH, d2, _, _, rfl, s1321 _ _ a2, XH.cl, XH.nn, chf_n _ _ _ _, k2, CM, g4, _, _, rfl, h7, M.cl, M.nu, mf_u _ _ _ _, _, rfl, _, rfl, t, wd, R, _, some false, rfl, ht21, w21, ok, el, by rw [← hR]; exact okw4 F4 (by rw [hR]; exact hv) _, fun H22 s22 => ?_⟩
    rw [xh2]
    refine ⟨(by show 3 ≤ sizeLine; decide), fun l5 hl5 => ?_⟩
    have s23 : Same H22 (upd H22 l5 (.lst [V.ref u3, V.ref u4, V.int 2])) := Same.new hl5
    have e23 : (upd H22 l5 (.lst [V.ref u3, V.ref u4, V.int 2])) l5 = some (.lst [V.ref u3, V.ref u4, V.int 2]) := upd_same
    generalize upd H22 l5 (.lst [V.ref u3, V.ref u4, V.int 2]) = H23 at s23 e23
    refine ⟨_, rfl, _, rfl, (by show 2 ≤ sizeLine; decide), fun q3 hq3 => ?_⟩
    have s24 : Same H23 (upd H23 q3 (.tup [V.str na, V.str nd])) := Same.new hq3
    have e24 : (upd H23 q3 (.tup [V.str na, V.str nd])) q3 = some (.tup [V.str na, V.str nd]) := upd_same
    generalize upd H23 q3 (.tup [V.str na, V.str nd]) = H24 at s24 e24
    refine ⟨_, rfl, _, rfl, (by show 2 ≤ sizeLine; decide), fun q4 hq4 => ?_⟩
    have s25 : Same H24 (upd H24 q4 (.tup [V.str nb, V.str nc])) := Same.new hq4
    have e25 : (upd H24 q4 (.tup [V.str nb, V.str nc])) q4 = some (.tup [V.str nb, V.str nc]) := upd_same
    generalize upd H24 q4 (.tup [V.str nb, V.str nc]) = H25 at s25 e25
    refine ⟨(by show 3 ≤ sizeLine; decide), fun l6 hl6 => ?_⟩
    have s26 : Same H25 (upd H25 l6 (.lst [V.ref q3, V.ref q4, V.int 2])) := Same.new hl6
    have e26 : (upd H25 l6 (.lst [V.ref q3, V.ref q4, V.int 2])) l6 = some (.lst [V.ref q3, V.ref q4, V.int 2]) := upd_same
    generalize upd H25 l6 (.lst [V.ref q3, V.ref q4, V.int 2]) = H26 at s26 e26
    have s2326 := s24.trans (s25.trans s26)
    have s2126 := s22.trans (s23.trans s2326)
    refine ⟨tt1 [na, nd] [nb, nc] 2, tt1 [na, nd] [nb, nc] 2, .lst (SqL.of (s2326 _ _ e23)) (.cons (.tup (sqT (s2126 _ _ h6)) (strs_dpAll [na, nd])) (.cons (.tup (sqT (s2126 _ _ h8)) (strs_dpAll [nb, nc])) (.cons (.int _) .nil))), .lst (SqL.of e26) (.cons (.tup (sqT ((s25.trans s26) _ _ e24)) (strs_dpAll [na, nd])) (.cons (.tup (sqT (s26 _ _ e25)) (strs_dpAll [nb, nc])) (.cons (.int _) .nil))), tt1_sh okad okbc, tt1_sh okad okbc, ?_⟩
    rw [tt1_same]
    refine ⟨_, rfl, iteF' (by rfl) ?_⟩
    have S26 := S21.trans s2126
    have ht26 := ht21.same s2126
    have w26 := s2126 _ _ w21
    -- without a default
    refine ⟨_, rfl, _, rfl, t, wd, R, _, none, rfl, ht26, w26, ok, el, by rw [← hR]; exact okw4 F4 (by rw [hR]; exact hv) _, fun c4 H27 s27 hc4 => ?_⟩
    have xh0 := (X none).how
    rw [hR, if_neg (by decide)] at xh0
    refine ⟨_, rfl, _, rfl, t, wd, R, _, none, rfl, ht26.same s27, s27 _ _ w26, ok, el, by rw [← hR]; exact okw4 F4 (by rw [hR]; exact hv) _, fun H28 s28 => ⟨_, _, rfl, ?_⟩⟩
    rw [xh0]
    obtain ⟨d5, m5, k5, y5, a5, b5, f5, _⟩ := (hc4.same s28).ex
    have b5' : MV C CM H28 m5 t R (favV R (tabF R (topE none (es4 nb nc nd))) true) := b5
    have f5' : MV C CM H28 k5 t R (favV R (tabF R (topE none (es4 nb nc nd))) false) := f5
    have tb5 := b5'.turns
    have tf5 := f5'.turns
    have xt5 := (X none).turns true
    rw [hR, if_neg (by decide)] at xt5
    have p5 := (X none).top true
    have p6 := (X none).top false
    rw [hR] at p5 p6
    rw [xt5, p5] at tb5
    rw [p6] at tf5
    obtain ⟨g5, u5, v5, h9, h10, _⟩ := tb5.ex
    obtain ⟨g6, u6, v6, h11, h12, _⟩ := tf5.ex
    refine ⟨_, rfl, c4, CH, d5, _, _, rfl, a5, XH.cl, XH.nw, chf_w _ _ _ _, m5, CM, g5, _, _, rfl, h9, M.cl, M.nd, mf_d _ _ _ _, _, rfl, c4, CH, d5, _, _, rfl, a5, XH.cl, XH.nw, chf_w _ _ _ _, m5, CM, g5, _, _, rfl, h9, M.cl, M.nu, mf_u _ _ _ _, _, rfl, c4, CH, d5, _, _, rfl, a5, XH.cl, XH.nn, chf_n _ _ _ _, k5, CM, g6, _, _, rfl, h11, M.cl, M.nd, mf_d _ _ _ _, _, rfl, (by show 4 ≤ sizeLine; decide), fun l7 hl7 => ?_⟩
    have s29 : Same H28 (upd H28 l7 (.lst [V.bl true, V.ref u5, V.bl true, V.int 1])) := Same.new hl7
    have e29 : (upd H28 l7 (.lst [V.bl true, V.ref u5, V.bl true, V.int 1])) l7 = some (.lst [V.bl true, V.ref u5, V.bl true, V.int 1]) := upd_same
    have ed1 : decide ((none : Option Bool) ≠ some false) = true := by decide
    rw [ed1]
    generalize upd H28 l7 (.lst [V.bl true, V.ref u5, V.bl true, V.int 1]) = H29 at s29 e29
    refine ⟨_, rfl, (by show 1 ≤ sizeLine; decide), fun q5 hq5 => ?_⟩
    have s30 : Same H29 (upd H29 q5 (.tup [V.str nd])) := Same.new hq5
    have e30 : (upd H29 q5 (.tup [V.str nd])) q5 = some (.tup [V.str nd]) := upd_same
    generalize upd H29 q5 (.tup [V.str nd]) = H30 at s30 e30
    refine ⟨(by show 4 ≤ sizeLine; decide), fun l8 hl8 => ?_⟩
    have s31 : Same H30 (upd H30 l8 (.lst [V.bl true, V.ref q5, V.bl true, V.int 1])) := Same.new hl8
    have e31 : (upd H30 l8 (.lst [V.bl true, V.ref q5, V.bl true, V.int 1])) l8 = some (.lst [V.bl true, V.ref q5, V.bl true, V.int 1]) := upd_same
    generalize upd H30 l8 (.lst [V.bl true, V.ref q5, V.bl true, V.int 1]) = H31 at s31 e31
    have s2831 := s29.trans (s30.trans s31)
    refine ⟨btb true [nd] true 1, btb true [nd] true 1, .lst (SqL.of ((s30.trans s31) _ _ e29)) (.cons (.bl _) (.cons (.tup (sqT (s2831 _ _ h10)) (strs_dpAll [nd])) (.cons (.bl _) (.cons (.int _) .nil)))), .lst (SqL.of e31) (.cons (.bl _) (.cons (.tup (sqT (s31 _ _ e30)) (strs_dpAll [nd])) (.cons (.bl _) (.cons (.int _) .nil)))), btb_sh okd, btb_sh okd, ?_⟩
    rw [btb_same]
    have S31 := S26.trans (s27.trans (s28.trans s2831))
    exact hq _ (fun b o nb' e => S31 _ _ (k4 _ _ nb' e)) ((st4.same S31).mono (by show n + 1 + 9 * ((4 : Nat) : Int) ≤ n + 100; omega))
end
end Ts

set_option maxRecDepth 100000
set_option maxHeartbeats 16000000
namespace Ts
open PySem L2
open LamX (ExtN Tabs TabB)
def nmF (x y : Nat) : List Str := (List.range x).map nS ++ (List.range y).map oS
def mkF (z : Str) : Row := ⟨z, "f", "item", some 1⟩
def rowF : Row := ⟨"f", "top", "folder", some 3⟩
theorem rsF_eq (x y : Nat) : rsF x y = rowF :: (nmF x y).map mkF := by
  unfold rsF nmF rowF
  rw [List.map_append, List.map_map, List.map_map]; rfl
theorem esF_keys (x y : Nat) : (esF x y).map (·.1) = nmF x y := by
  unfold esF nmF
  rw [List.map_append, List.map_map, List.map_map]; rfl
theorem itemsV : ∀ {l : List Str} {pre : List Row}, Valid pre → (∃ q ∈ pre, q.nm = ("f" : Str) ∧ q.ki = ("folder" : Str)) → (pre.map (·.nm) ++ l).Nodup → (∀ z ∈ l, NameShape z ∧ z ≠ ("top" : Str)) → Valid (pre ++ l.map mkF)
  | [], pre, hv, _, _, _ => by rw [List.map_nil, List.append_nil]; exact hv
  | z :: l, pre, hv, hq, nd, hz => by
    have e : pre ++ (z :: l).map mkF = (pre ++ [mkF z]) ++ l.map mkF := by rw [List.append_assoc]; rfl
    rw [e]
    have hz0 := hz z (List.mem_cons_self ..)
    refine itemsV (hv.snoc ⟨hz0.1, hz0.2, fun h => (List.nodup_append.mp nd).2.2 _ h _ (List.mem_cons_self ..) rfl, .inr hq, by show ("item" : Str) ∈ kinds3; decide +kernel, by show (1 : Int) ≤ 1; decide⟩) ?_ ?_ (fun y hy => hz y (List.mem_cons_of_mem _ hy))
    · obtain ⟨q, h1, h2⟩ := hq
      exact ⟨q, List.mem_append_left _ h1, h2⟩
    · rw [List.map_append, List.append_assoc]; exact nd
theorem nmsF {x y : Nat} (hx : x ≤ 9) (hy : y ≤ 9) : NmsOk (("f" : Str) :: nmF x y) := by
  have := nms_ok (star_nms ⟨x, by omega⟩ ⟨y, by omega⟩)
  have e : (rsF x y).map (·.nm) = ("f" : Str) :: nmF x y := by
    rw [rsF_eq, List.map_cons, List.map_map]
    congr 1
    exact (List.map_congr_left fun z _ => rfl).trans (List.map_id _)
  rw [e] at this; exact this
theorem valF {x y : Nat} (hx : x ≤ 9) (hy : y ≤ 9) : Valid (rsF x y) := by
  have ok := nmsF hx hy
  have h0 : Valid [rowF] := Valid.nil.snoc ⟨(ok.2 "f" (by simp)).1, (ok.2 "f" (by simp)).2, List.not_mem_nil, .inl rfl, by show ("folder" : Str) ∈ kinds3; decide +kernel, by show (1 : Int) ≤ 3; decide⟩
  rw [rsF_eq]
  exact itemsV (pre := [rowF]) h0 ⟨rowF, by simp, rfl, rfl⟩ ok.1 (fun z hz => ok.2 z (List.mem_cons_of_mem _ hz))
theorem openF (x y : Nat) : OpenR (rsF x y) := fun r hr => by
  rw [rsF_eq] at hr
  rcases List.mem_cons.mp hr with rfl | hr
  · exact ⟨3, rfl⟩
  · obtain ⟨z, _, rfl⟩ := List.mem_map.mp hr
    exact ⟨1, rfl⟩
theorem lenF (x y : Nat) : (esF x y).length = x + y := by unfold esF; rw [List.length_append, List.length_map, List.length_map, List.length_range, List.length_range]
theorem endsF {x y : Nat} (hx : x ≤ 9) (hy : y ≤ 9) : EndsOk (rsF x y) (esF x y) := by
  have ok := nmsF hx hy
  refine ⟨by rw [esF_keys]; exact (List.nodup_cons.mp ok.1).2, fun e he => mem_plc.mpr (.inr ?_), by rw [lenF]; omega⟩
  have h1 : e.1 ∈ nmF x y := by rw [← esF_keys]; exact List.mem_map.mpr ⟨e, he, rfl⟩
  show e.1 ∈ (rsF x y).map (·.nm)
  rw [rsF_eq, List.map_cons, List.map_map]
  exact List.mem_cons_of_mem _ (List.mem_map.mpr ⟨e.1, h1, rfl⟩)
theorem okwF {x y : Nat} (hx : x ≤ 9) (hy : y ≤ 9) (v : Option Bool) : OkW (rsF x y) (esF x y) v := by
  have ok := nmsF hx hy
  refine ⟨fun b hb => ?_, open_ends (valF hx hy) (openF x y) (topE_ok (endsF hx hy) (by rw [lenF]; omega) v)⟩
  have h1 : (("top" : Str)) ∈ nmF x y := by rw [← esF_keys]; exact List.mem_map.mpr ⟨_, endO_some hb, rfl⟩
  exact absurd rfl (ok.2 _ (List.mem_cons_of_mem _ h1)).2
theorem sgn_n : ∀ i : Fin 9, (nS i.val).cps[0]? = some 110 := by decide +kernel
theorem sgn_o : ∀ i : Fin 9, (oS i.val).cps[0]? = some 111 := by decide +kernel
theorem sgn_e {x y : Nat} (hx : x ≤ 9) (hy : y ≤ 9) : ∀ e ∈ esF x y, ∃ c, e.1.cps[0]? = some c ∧ decide (V.str ⟨#[c]⟩ = V.str ("n" : Str)) = e.2 := fun e he => by
  rcases List.mem_append.mp he with h | h
  · obtain ⟨i, hi, rfl⟩ := List.mem_map.mp h
    exact ⟨110, sgn_n ⟨i, by have := List.mem_range.mp hi; omega⟩, (by show decide (V.str ⟨#[110]⟩ = V.str ("n" : Str)) = true; decide +kernel)⟩
  · obtain ⟨i, hi, rfl⟩ := List.mem_map.mp h
    exact ⟨111, sgn_o ⟨i, by have := List.mem_range.mp hi; omega⟩, (by show decide (V.str ⟨#[111]⟩ = V.str ("n" : Str)) = false; decide +kernel)⟩
theorem merge_kvE : ∀ (l m : Wsh), ((m ++ l).map (·.1)).Nodup → mergeK (kvE m) (kvE l) = kvE (m ++ l)
  | [], m, _ => by rw [List.append_nil]; rfl
  | e :: l, m, h => by
    have hx : e.1 ∉ m.map (·.1) := fun hm => by
      rw [List.map_append, List.nodup_append] at h
      exact h.2.2 _ hm _ (List.mem_cons_self ..) rfl
    have e1 : mergeK (kvE m) (kvE (e :: l)) = mergeK (putK (kvE m) (.inr e.1) (.bl e.2)) (kvE l) := rfl
    rw [e1, kvE_put, putE_new hx, merge_kvE l (m ++ [(e.1, e.2)]) (by rw [List.append_assoc]; exact h), List.append_assoc]; rfl
def zeroD : PyData := .list [.int 0, .list [], .bool true, .bool false]
def barD : PyData := .list [.tuple [.str "barred", .str "top", .str "top"], .tuple [.str "barred", .str "top", .str "top"]]
theorem paired_app {α β : Type} {F : α → β → Prop} {as bs : List α} {l m : List β} (h : Paired F as l) (k : Paired F bs m) : Paired F (as ++ bs) (l ++ m) := by
  induction h with
  | nil => exact k
  | cons q t ih => exact .cons q ih
theorem pairs_kv {K : PySem.W.Frag} {H : Hp} {D : Addr} {ps : List Addr} {es : Wsh} (h : Paired (fun p e => p ≠ D ∧ H p = some (.tup [.str e.1, .bl e.2])) ps es) : Paired (fun (p : Addr) (kv : Key × V) => SqT K H p [kV kv.1, kv.2]) ps (kvE es) := by
  unfold kvE
  induction h with
  | nil => exact .nil
  | cons h t ih => exact .cons (sqT h.2) ih
theorem zero_sh : SeqAt.shaped zeroD = true := by
  unfold SeqAt.shaped zeroD
  rw [Bool.and_eq_true]
  refine ⟨by simp only [PyData.canLay0, PyData.canLayAll0]; rfl, decide_eq_true ?_⟩
  simp only [PyData.depth, PyData.depthAll]
  omega
theorem zero_eq : PyData.eqv zeroD zeroD = true := by simp [zeroD, PyData.eqv, PyData.eqvAll]
theorem bar_sh : SeqAt.shaped barD = true := by
  unfold SeqAt.shaped barD
  rw [Bool.and_eq_true]
  refine ⟨by simp only [PyData.canLay0, PyData.canLayAll0]; decide +kernel, decide_eq_true ?_⟩
  simp only [PyData.depth, PyData.depthAll]
  omega
theorem bar_eq : PyData.eqv barD barD = true := by simp [barD, PyData.eqv, PyData.eqvAll]
def spLawT (K : PySem.W.Frag) (T : List (Addr × Str)) : Sp := fun vs H Q _ => ∃ (a : Addr) (ns : List Int), vs = [.ref a] ∧ SqL K H a (ns.map V.int) ∧ ns.length ≤ 63 ∧ Tabs T H ∧ ∀ H', Q (.bl true) H'
abbrev qLw : Str := "law.<locals>.<lambda>"
section
variable {P : Program} {w : World} {K : PySem.W.Frag} {mg : Str → Option Value} {base : Heap} {C CM CH CB CW CD CN CT CX_ : Addr} {T : List (Addr × Str)} {P2 : Addr}
abbrev nLaw : List Str := ["_law_script", "_law_turn", "_law_stream_here", "_law_ons", "_law_offs", "_law_rows", "_law_wish", "_law_empty", "_law_found", "_law_k", "_law_row"]
theorem sc_law : FnScope nLaw ["_law_script"] (defScope s_law) := ⟨rfl, rfl, rfl, by decide +kernel, rfl, by decide +kernel, by decide +kernel⟩
theorem ok_law {fT fh fk : Addr} {fdT fdh fdk : FuncData} {dsk : List Value} (D : DefC K mg "law" s_law ["_law_script"]) (B : TxB mg) (TT : TxT K mg C) (M : TxM K mg CM) (XH : TxH K mg CH) (hM : mg "min" = none)
    (Dak : DefAt K mg "_law_asked" s_L_asked ["_law_ask"]) (TQE : ErrsW K mg CB CW CD CN CT CX_)
    (TB : TabB base mg D.c P2) (hm : (P2, qLw) ∈ T) (hu : ∀ p ∈ T, p.1 = P2 → p.2 = qLw)
    (Ds : DefAt K mg "_law_stream" s_L_stream ["_law_script", "_law_k"])
    (Dd : DefAt K mg "_law_draw" s_L_draw pDw) (Gd : FnOk P w K mg base CX0 2 Dd.f Dd.fd pDw spDraw)
    (Dex : DefAt K mg "_law_example_right" s_L_example_right ["_law_stream_here"]) (Gex : FnOk P w K mg base CX0 12 Dex.f Dex.fd ["_law_stream_here"] spLEx)
    (Dcr : DefC K mg "_law_chain_right" s_L_chain_right ["_law_stream_here"]) (Gcr : FnOk P w K mg base CX0 14 Dcr.f Dcr.fd ["_law_stream_here"] (spLChR K T))
    (gh : mg "how_many" = some (.ref fh)) (kh : PySem.W.keepIn K (.ref fh) = true) (bh : Binds K fdh pChp []) (Xh : FnOk P w K mg base (L2.CX P w) 9 fh fdh pChp (spHow C CB))
    (gk : mg "cheapest" = some (.ref fk)) (kk : PySem.W.keepIn K (.ref fk) = true) (bk : Binds K fdk pChp []) (bk2 : Binds K fdk pChp dsk) (vk : Vals [V.non] dsk) (Xk : FnOk P w K mg base (L2.CX P w) 11 fk fdk pChp (spCheapest C CM CB CH))
    (MT : Mk K C fT) (bT : Binds K fdT ["self", "rows"] []) (GT : FnOk P w K mg base CX0 5 fT fdT ["self", "rows"] (spTreeInit C)) :
    FnOk P w K mg base CX0 15 D.f D.fd ["_law_script"] (spLawT K T) := by
  have Gk := cheap_calm Xk
  have Gs : FnOk P w K mg base CX0 2 Ds.f Ds.fd ["_law_script", "_law_k"] (spStream K) := ok_stream Ds B
  refine D.F.ok sc_law (fun vs H Q E h => ?_) (fun A outer s H vs Q E hr h => ?_)
  · obtain ⟨a, ns, rfl, _⟩ := h
    rfl
  · obtain ⟨a0, ns, rfl, hS, hlen, hT, hq⟩ := h
    have h64 := hr.units
    have hu1 := Nat.lt_of_le_of_lt (Nat.le_add_right _ _) h64
    have r2 : Room 2 _ := hr.mono (by decide)
    have r6 : Room 6 _ := hr.mono (by decide)
    have r11 : Room 11 _ := hr.mono (by decide)
    have r12 : Room 12 _ := hr.mono (by decide)
    have r13 : Room 13 _ := hr.mono (by decide)
    refine ⟨_, pss_cons (ps_for PassesOwn.never rfl (pi_range1 (by rfl) B.range (pa_cons pe_int pa_nil)) (pg_name (i := 1) sc_law.nd rfl (.inl rfl))
        (pss_cons (ps_set (i := 2) sc_law.nd rfl (.inl rfl) (pe_call Gs r2 rfl Ds.g Ds.F.kp Ds.b .nil pass0 (pa_cons (pv 0) (pa_cons (pv 1) pa_nil))))
        (pss_cons (ps_if (PW.pt (pw_or (pt_not (pt_val (pe_call Gex r12 rfl Dex.g Dex.F.kp Dex.b .nil pass0 (pa_cons (pv 2) pa_nil)))) (pw_or1 (pt_not (pt_val (pe_call Gcr hr rfl Dcr.g Dcr.F.kp Dcr.b .nil pass0 (pa_cons (pv 2) pa_nil))))))) (pss_one (ps_ret pe_bl)) pss_nil)
        (pss_cons (ps_par (i := 3) (j := 4) rfl sc_law.nd rfl rfl (by decide) rfl rfl (pa_cons (pe_op op_add pe_int (pe_call Gd r2 rfl Dd.g Dd.F.kp Dd.b .nil pass0 (pa_cons (pv 2) (pa_cons pe_int pa_nil)))) (pa_cons (pe_op op_add pe_int (pe_call Gd r2 rfl Dd.g Dd.F.kp Dd.b .nil pass0 (pa_cons (pv 2) (pa_cons pe_int pa_nil)))) pa_nil)) (by rfl))
        (pss_cons (ps_set (i := 5) sc_law.nd rfl (.inl rfl) (pe_op op_cat (pe_lst (pa_cons (pe_tup (pa_cons pe_str (pa_cons pe_str (pa_cons pe_str (pa_cons pe_int pa_nil))))) pa_nil)) (pe_lc (own := [("_law_k", 9)]) (g := gName 9) (tt := tYes) rfl sc_law.nd (pi_range1 (by rfl) B.range (pa_cons (pv 3) pa_nil)) (blkOk_by (N := nLaw) (sc := defScope s_law) (by decide +kernel))
            (fun _ _ _ _ _ => pg_name (i := 9) sc_law.nd rfl (Or.inl rfl)) (fun _ _ _ _ _ => pts_nil) (fun _ _ _ _ _ => pe_tup (pa_cons (pe_op op_add_str pe_str (pe_item_str pe_str (pv 9) (fun _ _ => rfl))) (pa_cons pe_str (pa_cons pe_str (pa_cons pe_int pa_nil))))))))
        (pss_cons (ps_set (i := 5) sc_law.nd rfl (.inl rfl) (pe_op op_cat (pv 5) (pe_lc (own := [("_law_k", 9)]) (g := gName 9) (tt := tYes) rfl sc_law.nd (pi_range1 (by rfl) B.range (pa_cons (pv 4) pa_nil)) (blkOk_by (N := nLaw) (sc := defScope s_law) (by decide +kernel))
            (fun _ _ _ _ _ => pg_name (i := 9) sc_law.nd rfl (Or.inl rfl)) (fun _ _ _ _ _ => pts_nil) (fun _ _ _ _ _ => pe_tup (pa_cons (pe_op op_add_str pe_str (pe_item_str pe_str (pv 9) (fun _ _ => rfl))) (pa_cons pe_str (pa_cons pe_str (pa_cons pe_int pa_nil))))))))
        (pss_cons (ps_set (i := 6) sc_law.nd rfl (.inl rfl) (pe_callTy (T := "dict") (call_dictP rfl) (by rfl) B.dict (by decide +kernel) (pa_cons (pe_lc (own := [("_law_row", 10)]) (g := gName 10) (tt := tYes) (te := tTup (tCons (tOp (rIxT K) (tVar 10) (tC (.int 0))) (tCons (tOp rEq (tOp (fun x y H Q => ∃ z i c, x = .str z ∧ y = .int i ∧ 0 ≤ i ∧ i < 2 ^ 63 ∧ i < z.length ∧ z.cps[i.toNat]? = some c ∧ Q (.str ⟨#[c]⟩) H) (tOp (rIxT K) (tVar 10) (tC (.int 0))) (tC (.int 0))) (tC (.str ("n" : Str)))) tNil))) rfl sc_law.nd (pi_list (pe_slice sl_list (pv 5) (po_some pe_int) po_none)) (blkOk_by (N := nLaw) (sc := defScope s_law) (by decide +kernel))
            (fun _ _ _ _ _ => pg_name (i := 10) sc_law.nd rfl (Or.inl rfl)) (fun _ _ _ _ _ => pts_nil) (fun _ _ _ _ _ => by exact pe_tup (pa_cons (pe_ix ix_tup (pv 10) pe_int (fun _ _ => rfl)) (pa_cons (pe_cmpR op_eq (pe_item_str (pe_ix ix_tup (pv 10) pe_int (fun _ _ => rfl)) pe_int (fun _ _ => rfl)) pe_str (nomark _)) pa_nil)))) pa_nil)))
        (pss_cons (ps_if (pt_cmpR op_ne (pe_fld (pe_call Gk r11 rfl gk kk bk2 vk pass0 (pa_cons (pe_make MT GT r6 rfl TT.g bT .nil pass0 (pa_cons (pv 5) pa_nil)) (pa_cons (pv 6) pa_nil))) rfl) (pe_callB (call_min2 rfl) (by rfl) hM (by decide +kernel) (pa_cons (pv 3) (pa_cons (pv 4) pa_nil))) (nomark _)) (pss_one (ps_ret pe_bl)) pss_nil)
        (pss_one (ps_if (pt_cmpR op_ne (pe_fld (pe_call Gk r11 rfl gk kk bk .nil pass0 (pa_cons (pe_make MT GT r6 rfl TT.g bT .nil pass0 (pa_cons (pv 5) pa_nil)) (pa_cons (pv 6) (pa_cons pe_bl pa_nil)))) rfl) (pe_callB (call_min2 rfl) (by rfl) hM (by decide +kernel) (pa_cons (pv 3) (pa_cons (pe_op op_add pe_int (pv 4)) pa_nil))) (nomark _)) (pss_one (ps_ret pe_bl)) pss_nil))))))))))
      (pss_cons (ps_set (i := 7) sc_law.nd rfl (.inl rfl) (pe_call Gk r11 rfl gk kk bk2 vk pass0 (pa_cons (pe_make MT GT r6 rfl TT.g bT .nil pass0 (pa_cons (pe_lst pa_nil) pa_nil)) (pa_cons pe_dnewK pa_nil))))
      (pss_cons (ps_if (pt_cmpR (op_neD h64) (pe_lst (pa_cons (pe_fld (pv 7) rfl) (pa_cons (pe_fld (pv 7) rfl) (pa_cons (pe_fld (pe_fld (pv 7) rfl) rfl) (pa_cons (pe_fld (pe_fld (pv 7) rfl) rfl) pa_nil))))) (pe_lst (pa_cons pe_int (pa_cons (pe_lst pa_nil) (pa_cons pe_bl (pa_cons pe_bl pa_nil))))) (nomark _)) (pss_one (ps_ret pe_bl)) pss_nil)
      (C8.pss_cut (ps_set (i := 8) sc_law.nd rfl (.inl rfl) (pe_lst (pa_cons (pe_asked (k := 11) (t := fun E => tCall (spCheapest C CM CB CH) [] E (tCons (tMake C (spTreeInit C) [] E0 (tCons (tLst tNil) tNil)) (tCons (tDisp [(tC (.str ("top" : Str)), tC (.bl true))]) (tCons (tC (.bl false)) tNil)))) Dak TQE (by rfl) TB rfl hm hu r13 (LamX.lamS_by (show LamX.lamSB (defScope s_law) _ = true by decide +kernel)) rfl (fun _ _ _ _ _ => rfl) (fun A outer s H E f c' hr2 => pe_call Xk hr2 rfl gk kk bk .nil (passes_call (takes_of rfl rfl rfl rfl) (fun _ _ _ _ h => h)) (pa_cons (pe_make MT GT (hr2.mono (by decide)) rfl TT.g bT .nil pass0 (pa_cons (pe_lst pa_nil) pa_nil)) (pa_cons (pe_disp (pps_cons pe_str pe_bl pps_nil) (by rfl) (by rfl) (fun z => by cases z) (by decide)) (pa_cons pe_bl pa_nil))))) pa_nil)))
      (C8.pss_cut (ps_expr (pe_bm PySem.F.plainAttrs_list PySem.F.slot_list_append PySem.F.type_list_append mt_append (pv 8) (pa_cons (pe_asked (k := 11) (t := fun E => tCall (spHow C CB) [] E (tCons (tMake C (spTreeInit C) [] E0 (tCons (tLst tNil) tNil)) (tCons (tDisp [(tC (.str ("top" : Str)), tC (.bl false))]) (tCons (tC (.bl true)) tNil)))) Dak TQE (by rfl) TB rfl hm hu r13 (LamX.lamS_by (show LamX.lamSB (defScope s_law) _ = true by decide +kernel)) rfl (fun _ _ _ _ _ => rfl) (fun A outer s H E f c' hr2 => pe_call Xh (hr2.mono (by decide)) rfl gh kh bh .nil (passes_call (takes_of rfl rfl rfl rfl) (fun _ _ _ _ h => h)) (pa_cons (pe_make MT GT (hr2.mono (by decide)) rfl TT.g bT .nil pass0 (pa_cons (pe_lst pa_nil) pa_nil)) (pa_cons (pe_disp (pps_cons pe_str pe_bl pps_nil) (by rfl) (by rfl) (fun z => by cases z) (by decide)) (pa_cons pe_bl pa_nil))))) pa_nil)))
      (pss_one (ps_ret (pe_cmpR (op_eqD h64) (pv 8) (pe_op op_rep (pe_lst (pa_cons (pe_tup (pa_cons pe_str (pa_cons pe_str (pa_cons pe_str pa_nil)))) pa_nil)) pe_int) (nomark _)))))))), ?_⟩
    have l9 : ("abcdefghi" : Str).length = 9 := by decide +kernel
    refine ⟨3, rfl, by decide, by decide, ?_⟩
    refine for_range (lo := 0) (n := (3 : Int).toNat) (fun i σ H' => ∃ v1 v2 v3 v4 v5 v6 : Option V, σ = [some (.ref a0), v1, v2, v3, v4, v5, v6, none, none, none, none] ∧ SqL K H' a0 (ns.map V.int) ∧ Tabs T H') ⟨_, _, _, _, _, _, rfl, hS, hT⟩ ?_ ?_
    rotate_left
    · rintro σ H1 ⟨w1', w2', w3', w4', w5', w6', rfl, hS1, hT1⟩
      have oke : EndsOk [] [] := ⟨List.nodup_nil, (fun e he => by cases he), Nat.zero_le _⟩
      have op0 : ∀ es, EndsOk [] es → OpenE [] es := fun es h => open_ends Valid.nil (fun r hr => by cases hr) h
      refine ⟨Nat.zero_le _, fun l1 hl1 t dt nt ndt _ => ⟨t, dt, l1, [], [], rfl, upd_same, .inr (mk_same0 (C := C) nt ndt _ _ upd_same), (RowsAt.nil (H := upd (upd (upd H1 l1 (.lst [])) dt (.own t)) t (.ins C dt []))).seq, Nat.zero_le _, Valid.nil, fun H2 sb2 ht => ⟨rfl, ?_⟩⟩⟩
      have S2 : Same H1 H2 := (Same.new hl1).trans (mk_same nt ndt sb2)
      refine fun wd hwd => ?_
      have s3 : Same H2 (upd H2 wd (.dK [])) := Same.new hwd
      refine ⟨t, wd, [], [], none, rfl, ht.same s3, upd_same, oke, Nat.zero_le _, ⟨fun b hb => (by cases hb), op0 _ oke⟩, fun c H4 s4 hc => ?_⟩
      have S4 := S2.trans (s3.trans s4)
      obtain ⟨d1, m1, k1, y1, a1, b1, f1, ws, yl, yw⟩ := hc.ex
      have b1' : MV C CM H4 m1 t [] (favV [] (tabF [] []) true) := b1
      have f1' : MV C CM H4 k1 t [] (favV [] (tabF [] []) false) := f1
      have v1 : favV [] (tabF [] []) true "top" = true := by decide +kernel
      have v2 : favV [] (tabF [] []) false "top" = false := by decide +kernel
      have tb := b1'.turns
      have tf := f1'.turns
      rw [v1] at tb
      rw [v2] at tf
      obtain ⟨g1, u1, w1, h1, _⟩ := tb.ex
      obtain ⟨g2, u2, w2, h2, _⟩ := tf.ex
      have wn : ws = [] := List.eq_nil_of_length_eq_zero yw.length
      rw [wn] at yl
      have a1 : H4 c = some (.ins CH d1 (chf (.int 0) (.ref m1) (.ref k1) (.ref y1))) := a1
      refine ⟨_, rfl, c, CH, d1, _, _, rfl, a1, XH.cl, XH.nc, chf_c _ _ _ _, _, rfl, c, CH, d1, _, _, rfl, a1, XH.cl, XH.ny, chf_y _ _ _ _, _, rfl, c, CH, d1, _, _, rfl, a1, XH.cl, XH.nw, chf_w _ _ _ _, m1, CM, g1, _, _, rfl, h1, M.cl, M.nd, mf_d _ _ _ _, _, rfl, c, CH, d1, _, _, rfl, a1, XH.cl, XH.nn, chf_n _ _ _ _, k1, CM, g2, _, _, rfl, h2, M.cl, M.nd, mf_d _ _ _ _, (by show 4 ≤ sizeLine; decide), fun l2 hl2 => ?_⟩
      have s5 : Same H4 (upd H4 l2 (.lst [V.int 0, V.ref y1, V.bl true, V.bl false])) := Same.new hl2
      have e5 : (upd H4 l2 (.lst [V.int 0, V.ref y1, V.bl true, V.bl false])) l2 = some (.lst [V.int 0, V.ref y1, V.bl true, V.bl false]) := upd_same
      generalize upd H4 l2 (.lst [V.int 0, V.ref y1, V.bl true, V.bl false]) = H5 at s5 e5
      refine ⟨Nat.zero_le _, fun l3 hl3 => ?_⟩
      have s6 : Same H5 (upd H5 l3 (.lst [])) := Same.new hl3
      have e6 : (upd H5 l3 (.lst [])) l3 = some (.lst []) := upd_same
      generalize upd H5 l3 (.lst []) = H6 at s6 e6
      refine ⟨(by show 4 ≤ sizeLine; decide), fun l4 hl4 => ?_⟩
      have s7 : Same H6 (upd H6 l4 (.lst [V.int 0, V.ref l3, V.bl true, V.bl false])) := Same.new hl4
      have e7 : (upd H6 l4 (.lst [V.int 0, V.ref l3, V.bl true, V.bl false])) l4 = some (.lst [V.int 0, V.ref l3, V.bl true, V.bl false]) := upd_same
      generalize upd H6 l4 (.lst [V.int 0, V.ref l3, V.bl true, V.bl false]) = H7 at s7 e7
      refine ⟨zeroD, zeroD, .lst (SqL.of ((s6.trans s7) _ _ e5)) (.cons (.int _) (.cons (.lst (SqL.of ((s5.trans (s6.trans s7)) _ _ yl)) .nil) (.cons (.bl _) (.cons (.bl _) .nil)))), .lst (SqL.of e7) (.cons (.int _) (.cons (.lst (SqL.of (s7 _ _ e6)) .nil) (.cons (.bl _) (.cons (.bl _) .nil)))), zero_sh, zero_sh, ?_⟩
      rw [zero_eq]
      refine ⟨_, rfl, iteF' (by rfl) ?_⟩
      have S7 := S4.trans (s5.trans (s6.trans s7))
      have T7 := hT1.ext S7
      -- two that are barred
      have bx : ∀ {b : Bool} {x y : Str}, BarW [] [("top", b)] (some (!b)) x y → x = "top" ∧ y = "top" := fun {b x y} h => by
        rcases h with ⟨rfl, rfl, _⟩ | ⟨h, _⟩
        · exact ⟨rfl, rfl⟩
        · exact absurd rfl (h b (by cases b <;> decide +kernel))
      have nx : ∀ {b : Bool}, ¬ OkW [] [("top", b)] (some (!b)) := fun {b} h => absurd rfl (h.1 b (by cases b <;> decide +kernel))
      have okb : ∀ b : Bool, EndsOk [] [(("top" : Str), b)] := fun b => ⟨by simp, fun e he => by rw [List.mem_singleton.mp he]; exact mem_plc.mpr (.inl rfl), by show 1 ≤ 200; decide⟩
      refine ⟨fun σ' H' => ∃ (fq lf : Addr), σ' = [some (.ref a0), w1', w2', w3', w4', w5', w6', some (.ref c), some (.ref lf), none, none] ∧ Tabs T H' ∧ H' lf = some (.lst [V.ref fq]) ∧ H' fq = some (.tup [V.str ("barred" : Str), V.str ("top" : Str), V.str ("top" : Str)]), ?_, ?_⟩
      · refine ⟨T7, fun H8 x8 T8 => ?_⟩
        refine ⟨Nat.zero_le _, fun l5 hl5 t2 dt2 nt2 ndt2 _ => ⟨t2, dt2, l5, [], [], rfl, upd_same, .inr (mk_same0 (C := C) nt2 ndt2 _ _ upd_same), (RowsAt.nil (H := upd (upd (upd H8 l5 (.lst [])) dt2 (.own t2)) t2 (.ins C dt2 []))).seq, Nat.zero_le _, Valid.nil, fun H9 sb9 ht9 => ⟨rfl, ?_⟩⟩⟩
        have S9 : Same H8 H9 := (Same.new hl5).trans (mk_same nt2 ndt2 sb9)
        refine fun wd2 hwd2 => ⟨upd_same, [(.inr ("top" : Str), .bl true)], rfl, (by show 1 ≤ 15; decide), ?_⟩
        have s10 : Same H9 (upd (upd H9 wd2 (.dK [])) wd2 (.dK (mergeK [] [((.inr ("top" : Str) : Key), V.bl true)]))) := fun b o e => by rw [upd_ne (ne_of_none e hwd2), upd_ne (ne_of_none e hwd2)]; exact e
        have w10 : (upd (upd H9 wd2 (.dK [])) wd2 (.dK (mergeK [] [((.inr ("top" : Str) : Key), V.bl true)]))) wd2 = some (.dK (kvE [("top", true)])) := upd_same
        generalize upd (upd H9 wd2 (.dK [])) wd2 (.dK (mergeK [] [((.inr ("top" : Str) : Key), V.bl true)])) = H10 at s10 w10
        refine ⟨t2, wd2, [], [("top", true)], some false, rfl, ht9.same s10, w10, okb true, by show 1 ≤ 150; decide, fun ho => absurd ho (nx (b := true)), fun x y hxy e H11 he s11 hd => ⟨_, ⟨rfl, e, _, _, rfl, hd, rfl⟩, fun q hq' => ?_⟩⟩
        obtain ⟨rfl, rfl⟩ := bx (b := true) hxy
        have s12 : Same H8 (upd H11 q (.tup [V.str ("barred" : Str), V.str ("top" : Str), V.str ("top" : Str)])) := S9.trans (s10.trans (s11.trans (Same.new hq')))
        have e12 : (upd H11 q (.tup [V.str ("barred" : Str), V.str ("top" : Str), V.str ("top" : Str)])) q = some (.tup [V.str ("barred" : Str), V.str ("top" : Str), V.str ("top" : Str)]) := upd_same
        refine ⟨(by show 1 ≤ sizeLine; decide), fun lf hlf => ?_⟩
        have s13 : Same _ (upd (upd H11 q (.tup [V.str ("barred" : Str), V.str ("top" : Str), V.str ("top" : Str)])) lf (.lst [V.ref q])) := Same.new hlf
        exact ⟨q, lf, rfl, T8.ext (s12.trans s13), upd_same, s13 _ _ e12⟩
      rintro σ' H8 ⟨fq, lf, rfl, T8, elf, efq⟩
      refine ⟨fun σ' H' => ∃ (fq2 : Addr), σ' = [some (.ref a0), w1', w2', w3', w4', w5', w6', some (.ref c), some (.ref lf), none, none] ∧ H' lf = some (.lst [V.ref fq, V.ref fq2]) ∧ H' fq = some (.tup [V.str ("barred" : Str), V.str ("top" : Str), V.str ("top" : Str)]) ∧ H' fq2 = some (.tup [V.str ("barred" : Str), V.str ("top" : Str), V.str ("top" : Str)]), ?_, ?_⟩
      · refine ⟨_, rfl, .inl ⟨rfl, _, SqL.of elf⟩, T8, fun H9 x9 T9 => ?_⟩
        have elf9 := x9 _ _ elf nofun
        have efq9 := x9 _ _ efq nofun
        refine ⟨Nat.zero_le _, fun l5 hl5 t2 dt2 nt2 ndt2 _ => ⟨t2, dt2, l5, [], [], rfl, upd_same, .inr (mk_same0 (C := C) nt2 ndt2 _ _ upd_same), (RowsAt.nil (H := upd (upd (upd H9 l5 (.lst [])) dt2 (.own t2)) t2 (.ins C dt2 []))).seq, Nat.zero_le _, Valid.nil, fun H10 sb10 ht10 => ⟨rfl, ?_⟩⟩⟩
        have S10 : Same H9 H10 := (Same.new hl5).trans (mk_same nt2 ndt2 sb10)
        refine fun wd2 hwd2 => ⟨upd_same, [(.inr ("top" : Str), .bl false)], rfl, (by show 1 ≤ 15; decide), ?_⟩
        have s11 : Same H10 (upd (upd H10 wd2 (.dK [])) wd2 (.dK (mergeK [] [((.inr ("top" : Str) : Key), V.bl false)]))) := fun b o e => by rw [upd_ne (ne_of_none e hwd2), upd_ne (ne_of_none e hwd2)]; exact e
        have w11 : (upd (upd H10 wd2 (.dK [])) wd2 (.dK (mergeK [] [((.inr ("top" : Str) : Key), V.bl false)]))) wd2 = some (.dK (kvE [("top", false)])) := upd_same
        generalize upd (upd H10 wd2 (.dK [])) wd2 (.dK (mergeK [] [((.inr ("top" : Str) : Key), V.bl false)])) = H11 at s11 w11
        refine ⟨t2, wd2, [], [("top", false)], some true, rfl, ht10.same s11, w11, okb false, by show 1 ≤ 150; decide, fun ho => absurd ho (nx (b := false)), fun x y hxy e H12 he s12 hd => ⟨_, ⟨rfl, e, _, _, rfl, hd, rfl⟩, fun q hq' => ?_⟩⟩
        obtain ⟨rfl, rfl⟩ := bx (b := false) hxy
        have s13 : Same H9 (upd H12 q (.tup [V.str ("barred" : Str), V.str ("top" : Str), V.str ("top" : Str)])) := S10.trans (s11.trans (s12.trans (Same.new hq')))
        have e13 : (upd H12 q (.tup [V.str ("barred" : Str), V.str ("top" : Str), V.str ("top" : Str)])) q = some (.tup [V.str ("barred" : Str), V.str ("top" : Str), V.str ("top" : Str)]) := upd_same
        generalize upd H12 q (.tup [V.str ("barred" : Str), V.str ("top" : Str), V.str ("top" : Str)]) = H13 at s13 e13
        refine ⟨lf, _, _, rfl, rfl, s13 _ _ elf9, small1000 (by show 1 ≤ 1000; decide), ?_⟩
        have q1 : fq ≠ lf := fun k => by rw [k, elf9] at efq9; cases efq9
        have q2 : q ≠ lf := fun k => by rw [k, s13 _ _ elf9] at e13; cases e13
        exact ⟨q, rfl, upd_same, by rw [upd_ne q1]; exact s13 _ _ efq9, by rw [upd_ne q2]; exact e13⟩
      rintro σ2 H9 ⟨fq2, rfl, e9, f9, g9⟩
      refine ⟨_, rfl, (by show 3 ≤ sizeLine; decide), fun q1 hq1 => ?_⟩
      have s10 : Same H9 (upd H9 q1 (.tup [V.str ("barred" : Str), V.str ("top" : Str), V.str ("top" : Str)])) := Same.new hq1
      have e10 : (upd H9 q1 (.tup [V.str ("barred" : Str), V.str ("top" : Str), V.str ("top" : Str)])) q1 = some (.tup [V.str ("barred" : Str), V.str ("top" : Str), V.str ("top" : Str)]) := upd_same
      generalize upd H9 q1 (.tup [V.str ("barred" : Str), V.str ("top" : Str), V.str ("top" : Str)]) = H10 at s10 e10
      refine ⟨(by show 1 ≤ sizeLine; decide), fun l6 hl6 => ?_⟩
      have s11 : Same H10 (upd H10 l6 (.lst [V.ref q1])) := Same.new hl6
      have e11 : (upd H10 l6 (.lst [V.ref q1])) l6 = some (.lst [V.ref q1]) := upd_same
      generalize upd H10 l6 (.lst [V.ref q1]) = H11 at s11 e11
      refine ⟨l6, 2, _, rfl, rfl, e11, by decide, by decide, (by show 2 ≤ sizeLine; decide), fun l7 hl7 => ?_⟩
      have s12 : Same H11 (upd H11 l7 (.lst (List.replicate (2 : Int).toNat [V.ref q1]).flatten)) := Same.new hl7
      have e12 : (upd H11 l7 (.lst (List.replicate (2 : Int).toNat [V.ref q1]).flatten)) l7 = some (.lst [V.ref q1, V.ref q1]) := upd_same
      generalize upd H11 l7 (.lst (List.replicate (2 : Int).toNat [V.ref q1]).flatten) = H12 at s12 e12
      have S12 := s10.trans (s11.trans s12)
      have q12 := (s11.trans s12) _ _ e10
      refine ⟨barD, barD, .lst (SqL.of (S12 _ _ e9)) (.cons (.tup (sqT (S12 _ _ f9)) (.cons (.str _) (.cons (.str _) (.cons (.str _) .nil)))) (.cons (.tup (sqT (S12 _ _ g9)) (.cons (.str _) (.cons (.str _) (.cons (.str _) .nil)))) .nil)), .lst (SqL.of e12) (.cons (.tup (sqT q12) (.cons (.str _) (.cons (.str _) (.cons (.str _) .nil)))) (.cons (.tup (sqT q12) (.cons (.str _) (.cons (.str _) (.cons (.str _) .nil)))) .nil)), bar_sh, bar_sh, ?_⟩
      rw [bar_eq]
      exact hq _
    rintro i_ σ H1 hi ⟨v1, v2, v3, v4, v5, v6, rfl, hS1, hT1⟩
    have hi3 : i_ < 3 := hi
    refine ⟨_, rfl, _, rfl, a0, ns, _, rfl, hS1, by omega, by omega, fun a x y ha hx hy hy1 => ?_⟩
    have st0 : Stm (upd H1 a (.lst [.int x, .int y, .int 0])) a 0 := ⟨x, y, 0, upd_same, hx, hy, hy1, by decide, by decide⟩
    have S2 : Same H1 (upd H1 a (.lst [.int x, .int y, .int 0])) := Same.new ha
    generalize upd H1 a (.lst [.int x, .int y, .int 0]) = H2 at st0 S2
    refine ⟨_, rfl, a, 0, rfl, st0, by decide, fun H3 sb3 st3 => ⟨_, rfl, iteF' (by rfl) ?_⟩⟩
    have T3 := tabs_sb (hT1.ext S2) st0 sb3
    refine ⟨_, rfl, a, _, rfl, st3, by decide, T3, fun H4 k4 T4 st4 => ⟨_, rfl, iteF' (by rfl) ?_⟩⟩
    have X4 : ExtN H1 H4 := fun b o e hn => k4 _ _ (ne_of_none e ha) (sb3 _ _ (ne_of_none e ha) (S2 _ _ e)) hn
    clear S2 st0 sb3 st3 k4 T3 hx hy hy1
    refine ⟨_, rfl, a, 9, _, rfl, st4, by omega, by decide, by decide, fun r1 H5 r10 r11' st5 q5 => ⟨_, _, rfl, rfl, _, rfl, a, 9, _, rfl, st5, by omega, by decide, by decide, fun r2' H6 r20 r21 st6 q6 => ⟨_, _, rfl, rfl, _, _, rfl, ?_⟩⟩⟩
    have X6 : ExtN H1 H6 := fun b o e hn => by
      rw [q6 b (ne_of_none e ha), q5 b (ne_of_none e ha)]; exact X4 _ _ e hn
    have T6 := tabs_sb (tabs_sb T4 st4 (sb_eq q5)) st5 (sb_eq q6)
    obtain ⟨x, hx, hx1, hx9⟩ : ∃ x : Nat, 1 + r1 = (x : Int) ∧ 1 ≤ x ∧ x ≤ 9 := ⟨(1 + r1).toNat, by omega, by omega, by omega⟩
    obtain ⟨y, hy, hy1, hy9⟩ : ∃ y : Nat, 1 + r2' = (y : Int) ∧ 1 ≤ y ∧ y ≤ 9 := ⟨(1 + r2').toNat, by omega, by omega, by omega⟩
    have gx : (fun i j => V.int (i + j)) (1 : Int) r1 = V.int (x : Int) := by show V.int (1 + r1) = _; rw [hx]
    have gy : (fun i j => V.int (i + j)) (1 : Int) r2' = V.int (y : Int) := by show V.int (1 + r2') = _; rw [hy]
    rw [gx, gy]
    clear q5 q6 st5 st6 st4 T4 X4 gx gy
    -- the rows
    refine ⟨(by show 4 ≤ sizeLine; decide), fun t0 ht0 => ?_⟩
    have s7 : Same H6 (upd H6 t0 (.tup [V.str ("f" : Str), V.str ("top" : Str), V.str ("folder" : Str), V.int 3])) := Same.new ht0
    have e7 : (upd H6 t0 (.tup [V.str ("f" : Str), V.str ("top" : Str), V.str ("folder" : Str), V.int 3])) t0 = some (.tup (rowVs rowF)) := upd_same
    generalize upd H6 t0 (.tup [V.str ("f" : Str), V.str ("top" : Str), V.str ("folder" : Str), V.int 3]) = H7 at s7 e7
    refine ⟨(by show 1 ≤ sizeLine; decide), fun l0 hl0 => ?_⟩
    have s8 : Same H7 (upd H7 l0 (.lst [V.ref t0])) := Same.new hl0
    have e8 : (upd H7 l0 (.lst [V.ref t0])) l0 = some (.lst [V.ref t0]) := upd_same
    generalize upd H7 l0 (.lst [V.ref t0]) = H8 at s8 e8
    refine ⟨_, rfl, (x : Int), rfl, by omega, by omega, fun D1 hD1 => ?_⟩
    refine lc_range (lo := 0) (n := ((x : Int)).toNat) (fun i H' => Same H8 H' ∧ ∃ bs : List Addr, H' D1 = some (.lst (bs.map V.ref)) ∧ RowsAt H' bs ((List.range i).map fun k => (⟨nS k, "f", "item", some 1⟩ : Row))) ⟨Same.new hD1, [], upd_same, RowsAt.nil⟩ ?_ ?_
    · rintro i H' hi ⟨sx, bs, ex, rx⟩
      have hi9 : i < 9 := by omega
      have lbs : bs.length ≤ 9 := by rw [rx.len, List.length_map, List.length_range]; omega
      have hk : i < ("abcdefghi" : Str).cps.size := by have : ("abcdefghi" : Str).length = ("abcdefghi" : Str).cps.size := rfl; omega
      have hc : ("abcdefghi" : Str).cps[(0 + (i : Int)).toNat]? = some ("abcdefghi" : Str).cps[i] := by
        rw [show (0 + (i : Int)).toNat = i by omega]; exact Array.getElem?_eq_getElem hk
      refine ⟨rfl, tYes_if ⟨_, rfl, _, _, ("abcdefghi" : Str).cps[i], rfl, rfl, by omega, by omega, by rw [l9]; omega, hc, _, _, rfl, rfl, (by show 2 ≤ sizeLine; decide), (by show 4 ≤ sizeLine; decide), fun t ht => ?_⟩⟩
      have enm : (("n" : Str) ++ (⟨#[("abcdefghi" : Str).cps[i]]⟩ : Str)) = nS i := by unfold nS signAt; rw [Array.getElem?_eq_getElem hk]; rfl
      rw [enm] at *
      have sy : Same H' (upd H' t (.tup [V.str (nS i), V.str ("f" : Str), V.str ("item" : Str), V.int 1])) := Same.new ht
      have ey : (upd H' t (.tup [V.str (nS i), V.str ("f" : Str), V.str ("item" : Str), V.int 1])) t = some (.tup (rowVs ⟨nS i, "f", "item", some 1⟩)) := upd_same
      generalize upd H' t (.tup [V.str (nS i), V.str ("f" : Str), V.str ("item" : Str), V.int 1]) = Hy at sy ey
      have tD : t ≠ D1 := fun q => by rw [q, sy _ _ ex] at ey; cases ey
      refine ⟨_, sy _ _ ex, small1000 (by rw [List.length_map]; omega), fun b o e => ?_, bs ++ [t], by rw [upd_same, List.map_append]; rfl, ?_⟩
      · rw [upd_ne (ne_of_none e hD1)]; exact sy _ _ (sx _ _ e)
      · rw [List.range_succ, List.map_append]
        exact ((rx.same sy).kp (Kp.put (xs := [D1]) (by simp)) fun x hx t => by rw [List.mem_singleton.mp hx, sy _ _ ex]; exact nofun).snoc (by rw [upd_ne tD]; exact ey)
    rintro H9 ⟨s9, bs, e9, rb⟩
    rw [Int.toNat_natCast] at rb
    have lbs : bs.length = x := by rw [rb.len, List.length_map, List.length_range]
    refine ⟨l0, D1, _, _, rfl, rfl, s9 _ _ e8, e9, szl (by rw [List.length_map, lbs]; show 1 + x ≤ 1000; omega), fun l1 hl1 => ?_⟩
    have s10 : Same H9 (upd H9 l1 (.lst ([V.ref t0] ++ bs.map V.ref))) := Same.new hl1
    have e10 : (upd H9 l1 (.lst ([V.ref t0] ++ bs.map V.ref))) l1 = some (.lst ((t0 :: bs).map V.ref)) := upd_same
    generalize upd H9 l1 (.lst ([V.ref t0] ++ bs.map V.ref)) = H10 at s10 e10
    refine ⟨_, rfl, _, rfl, (y : Int), rfl, by omega, by omega, fun D2 hD2 => ?_⟩
    refine lc_range (lo := 0) (n := ((y : Int)).toNat) (fun i H' => Same H10 H' ∧ ∃ bs : List Addr, H' D2 = some (.lst (bs.map V.ref)) ∧ RowsAt H' bs ((List.range i).map fun k => (⟨oS k, "f", "item", some 1⟩ : Row))) ⟨Same.new hD2, [], upd_same, RowsAt.nil⟩ ?_ ?_
    · rintro i H' hi ⟨sx, bs, ex, rx⟩
      have hi9 : i < 9 := by omega
      have lbs : bs.length ≤ 9 := by rw [rx.len, List.length_map, List.length_range]; omega
      have hk : i < ("abcdefghi" : Str).cps.size := by have : ("abcdefghi" : Str).length = ("abcdefghi" : Str).cps.size := rfl; omega
      have hc : ("abcdefghi" : Str).cps[(0 + (i : Int)).toNat]? = some ("abcdefghi" : Str).cps[i] := by
        rw [show (0 + (i : Int)).toNat = i by omega]; exact Array.getElem?_eq_getElem hk
      refine ⟨rfl, tYes_if ⟨_, rfl, _, _, ("abcdefghi" : Str).cps[i], rfl, rfl, by omega, by omega, by rw [l9]; omega, hc, _, _, rfl, rfl, (by show 2 ≤ sizeLine; decide), (by show 4 ≤ sizeLine; decide), fun t ht => ?_⟩⟩
      have enm : (("o" : Str) ++ (⟨#[("abcdefghi" : Str).cps[i]]⟩ : Str)) = oS i := by unfold oS signAt; rw [Array.getElem?_eq_getElem hk]; rfl
      rw [enm] at *
      have sy : Same H' (upd H' t (.tup [V.str (oS i), V.str ("f" : Str), V.str ("item" : Str), V.int 1])) := Same.new ht
      have ey : (upd H' t (.tup [V.str (oS i), V.str ("f" : Str), V.str ("item" : Str), V.int 1])) t = some (.tup (rowVs ⟨oS i, "f", "item", some 1⟩)) := upd_same
      generalize upd H' t (.tup [V.str (oS i), V.str ("f" : Str), V.str ("item" : Str), V.int 1]) = Hy at sy ey
      have tD : t ≠ D2 := fun q => by rw [q, sy _ _ ex] at ey; cases ey
      refine ⟨_, sy _ _ ex, small1000 (by rw [List.length_map]; omega), fun b o e => ?_, bs ++ [t], by rw [upd_same, List.map_append]; rfl, ?_⟩
      · rw [upd_ne (ne_of_none e hD2)]; exact sy _ _ (sx _ _ e)
      · rw [List.range_succ, List.map_append]
        exact ((rx.same sy).kp (Kp.put (xs := [D2]) (by simp)) fun x hx t => by rw [List.mem_singleton.mp hx, sy _ _ ex]; exact nofun).snoc (by rw [upd_ne tD]; exact ey)
    rintro H11 ⟨s11, cs, e11, rc⟩
    rw [Int.toNat_natCast] at rc
    have lcs : cs.length = y := by rw [rc.len, List.length_map, List.length_range]
    refine ⟨l1, D2, _, _, rfl, rfl, s11 _ _ e10, e11, szl (by rw [List.length_map, List.length_map, lcs, List.length_cons, lbs]; omega), fun l2 hl2 => ?_⟩
    have s12 : Same H11 (upd H11 l2 (.lst ((t0 :: bs).map V.ref ++ cs.map V.ref))) := Same.new hl2
    have e12 : (upd H11 l2 (.lst ((t0 :: bs).map V.ref ++ cs.map V.ref))) l2 = some (.lst ((t0 :: (bs ++ cs)).map V.ref)) := by rw [upd_same, ← List.map_append]; rfl
    generalize upd H11 l2 (.lst ((t0 :: bs).map V.ref ++ cs.map V.ref)) = H12 at s12 e12
    have S912 := s10.trans (s11.trans s12)
    have rt : RowsAt H12 [t0] [rowF] := by
      have := (RowsAt.nil (H := H12)).snoc ((s8.trans (s9.trans S912)) _ _ e7)
      simpa using this
    have rit : RowsAt H12 (bs ++ cs) ((nmF x y).map mkF) := by
      have := (rb.same S912).app (rc.same s12)
      unfold nmF
      rw [List.map_append, List.map_map, List.map_map]
      exact this
    have rw12 : RowsAt H12 (t0 :: (bs ++ cs)) (rsF x y) := by
      rw [rsF_eq]
      exact rt.app rit
    have S12 := s7.trans (s8.trans (s9.trans S912))
    have X12 : ExtN H1 H12 := X6.trans (Same.x S12)
    have T12 := T6.ext S12
    have lall : (bs ++ cs).length = x + y := by rw [List.length_append, lbs, lcs]
    clear rt rc rb e11 s11 e10 s10 e9 s9 e8 s8 e7 s7 X6 T6 S12 S912 s12
    -- the wish
    have hv := valF hx9 hy9
    have ok := endsF hx9 hy9
    have le := lenF x y
    have hc0 := star_cost ⟨x, by omega⟩ ⟨y, by omega⟩ hx1 hy1
    have hc0 : cheapI (rsF x y) (esF x y) = min (x : Int) (y : Int) ∧ cheapI (rsF x y) (topE (some false) (esF x y)) = min (x : Int) (3 + (y : Int)) := hc0
    refine ⟨_, rfl, _, rfl, l2, _, rfl, SqL.of e12, fun sl hsl => ⟨sl, rfl, ⟨_, SqL.of upd_same⟩, fun D3 hD3 => ?_⟩⟩
    have ecut : cutV ((t0 :: (bs ++ cs)).map V.ref) (some (1 : Int)) none = (bs ++ cs).map V.ref := (cut_drop _ 1).trans rfl
    rw [ecut] at hD3 ⊢
    have s13 : Same H12 (upd H12 sl (.lst ((bs ++ cs).map V.ref))) := Same.new hsl
    have e13 : (upd H12 sl (.lst ((bs ++ cs).map V.ref))) sl = some (.lst ((bs ++ cs).map V.ref)) := upd_same
    generalize upd H12 sl (.lst ((bs ++ cs).map V.ref)) = H13 at s13 e13 hD3
    have rit13 := rit.same s13
    refine lc_list (K := K) (a := sl) (xs := (bs ++ cs).map V.ref) (fun i H' => Same H13 H' ∧ ∃ ps : List Addr, H' D3 = some (.lst (ps.map V.ref)) ∧ Paired (fun p e => p ≠ D3 ∧ H' p = some (.tup [.str e.1, .bl e.2])) ps ((esF x y).take i)) ⟨Same.new hD3, [], upd_same, .nil⟩ (fun i H' _ m => SqL.of (m.1 _ _ e13)) ?_ ?_
    · rintro i xx H14 hx' ⟨s14, ps, e14, pr⟩
      obtain ⟨ra, r', rfl, hra, hr', e0⟩ := rows_at rit13 hx'
      rw [List.getElem?_map] at hr'
      obtain ⟨z, hz, rfl⟩ := Option.map_eq_some_iff.mp hr'
      obtain ⟨e, he, hez⟩ : ∃ e, (esF x y)[i]? = some e ∧ e.1 = z := by
        rw [← esF_keys, List.getElem?_map] at hz
        exact Option.map_eq_some_iff.mp hz
      subst hez
      obtain ⟨c, hc1, hc2⟩ := sgn_e hx9 hy9 e (List.mem_of_getElem? he)
      have e0' : H14 ra = some (.tup [.str e.1, .str ("f" : Str), .str ("item" : Str), .int 1]) := s14 _ _ e0
      have lps : ps.length ≤ 18 := by rw [pr.length, List.length_take]; omega
      have lz : (0 : Int) < (e.1.length : Int) := by
        have := (Array.getElem?_eq_some_iff.mp hc1).1
        show (0 : Int) < ((e.1.cps.size : Nat) : Int)
        omega
      refine ⟨rfl, tYes_if ⟨_, rfl, ra, _, _, _, rfl, rfl, sqT e0', atI0 _ _ _ _, _, rfl, ra, _, _, _, rfl, rfl, sqT e0', atI0 _ _ _ _, e.1, 0, c, rfl, rfl, by decide, by decide, lz, hc1, rfl, ?_⟩⟩
      rw [hc2]
      refine ⟨(by show 2 ≤ sizeLine; decide), fun t ht => ?_⟩
      have s15 : Same H14 (upd H14 t (.tup [V.str e.1, V.bl e.2])) := Same.new ht
      have e15 : (upd H14 t (.tup [V.str e.1, V.bl e.2])) t = some (.tup [.str e.1, .bl e.2]) := upd_same
      generalize upd H14 t (.tup [V.str e.1, V.bl e.2]) = H15 at s15 e15
      have tD : t ≠ D3 := fun q => by rw [q, s15 _ _ e14] at e15; cases e15
      refine ⟨_, s15 _ _ e14, small1000 (by rw [List.length_map]; omega), fun b o eb => ?_, ps ++ [t], by rw [upd_same, List.map_append]; rfl, ?_⟩
      · rw [upd_ne (ne_of_none eb hD3)]; exact s15 _ _ (s14 _ _ eb)
      · rw [take_more he]
        exact paired_app (pr.mono fun p e h => ⟨h.1, by rw [upd_ne h.1]; exact s15 _ _ h.2⟩) (.cons ⟨tD, by rw [upd_ne tD]; exact e15⟩ .nil)
    rintro H14 ⟨s14, ps, e14, pr⟩
    rw [List.length_map, lall, ← le, List.take_length] at pr
    have pr2 : Paired (fun (p : Addr) (kv : Key × V) => SqT K H14 p [kV kv.1, kv.2]) ps (kvE (esF x y)) := pairs_kv pr
    refine ⟨D3, ps, kvE (esF x y), rfl, SqL.of e14, pr2, fun wd hwd => ?_⟩
    have em : mergeK [] (kvE (esF x y)) = kvE (esF x y) := (merge_kvE (esF x y) [] (by rw [List.nil_append]; exact ok.nd)).trans rfl
    rw [em]
    have s15 : Same H14 (upd H14 wd (.dK (kvE (esF x y)))) := Same.new hwd
    have w15 : (upd H14 wd (.dK (kvE (esF x y)))) wd = some (.dK (kvE (esF x y))) := upd_same
    generalize upd H14 wd (.dK (kvE (esF x y))) = H15 at s15 w15
    have S15 := s13.trans (s14.trans s15)
    have l15 := S15 _ _ e12
    have rw15 := rw12.same S15
    have l100 : (rsF x y).length ≤ 100 := by rw [rsF_eq, List.length_cons, List.length_map]; unfold nmF; rw [List.length_append, List.length_map, List.length_map, List.length_range, List.length_range]; omega
    refine ⟨_, rfl, fun t dt nt ndt _ => ⟨t, dt, l2, _, rsF x y, rfl, upd_same, .inr (mk_same0 (C := C) nt ndt _ _ l15), (rw15.same (mk_same0 (C := C) nt ndt)).seq, l100, hv, fun H16 sb16 ht => ⟨rfl, ?_⟩⟩⟩
    have s16 := mk_same nt ndt sb16
    refine ⟨_, rfl, t, wd, rsF x y, esF x y, none, rfl, ht, s16 _ _ w15, ok, by omega, okwF hx9 hy9 none, fun c1 H17 s17 hc1 => ?_⟩
    obtain ⟨d1, m1, k1, y1, a1, _⟩ := hc1.ex
    have a1 : H17 c1 = some (.ins CH d1 (chf (.int (cheapI (rsF x y) (esF x y))) (.ref m1) (.ref k1) (.ref y1))) := a1
    rw [hc0.1] at a1
    refine ⟨c1, CH, d1, _, _, rfl, a1, XH.cl, XH.nc, chf_c _ _ _ _, _, rfl, _, rfl, _, _, rfl, ?_⟩
    rw [min_if]
    refine ⟨rfl, _, rfl, iteF' (by rw [decide_eq_true rfl]; rfl) ?_⟩
    have S17 := s16.trans s17
    refine ⟨_, rfl, fun t' dt' nt' ndt' _ => ⟨t', dt', l2, _, rsF x y, rfl, upd_same, .inr (mk_same0 (C := C) nt' ndt' _ _ (S17 _ _ l15)), ((rw15.same S17).same (mk_same0 (C := C) nt' ndt')).seq, l100, hv, fun H18 sb18 ht' => ⟨rfl, ?_⟩⟩⟩
    have S18 := S17.trans (mk_same nt' ndt' sb18)
    refine ⟨_, rfl, t', wd, rsF x y, esF x y, some false, rfl, ht', S18 _ _ w15, ok, by omega, okwF hx9 hy9 (some false), fun c2 H19 s19 hc2 => ?_⟩
    obtain ⟨d2, m2, k2, y2, a2, _⟩ := hc2.ex
    rw [hc0.2] at a2
    refine ⟨c2, CH, d2, _, _, rfl, a2, XH.cl, XH.nc, chf_c _ _ _ _, _, rfl, _, rfl, _, _, rfl, rfl, _, _, rfl, ?_⟩
    rw [min_if]
    refine ⟨rfl, _, rfl, iteF' (by rw [decide_eq_true rfl]; rfl) ?_⟩
    have X19 : ExtN H1 H19 := X12.trans (Same.x (S15.trans (S18.trans s19)))
    exact ⟨_, _, _, _, _, _, rfl, sq_ext hS1 X19, T12.ext (S15.trans (S18.trans s19))⟩
end
end Ts

set_option maxRecDepth 100000
set_option maxHeartbeats 8000000
namespace Ts
open PySem L2
theorem defAt {K : PySem.W.Frag} {h : Heap} {mg : Str → Option Value} (X : K.In h) (G : h.Ns mainGlobals mg) {x : Str} {st : Stmt} {ps : List Str} {f : Addr} {oc : Value} {od an : Option Addr} {sl : Array (Option Value)} {kV dc pm cd ct : Value}
    (a : PySem.W.nsIn K mainGlobals x = some (some (.ref f))) (l : K.lookup f = some ⟨oc, od, .func (PySem.W.fnOf x x (defArgs st) (defBody st) (defScope st) .none kV dc pm an cd ct), sl⟩) (c : PySem.W.codeIn K cd x = true) (k : PySem.W.keepIn K (.ref f) = true)
    (hb : ∀ (kV doc pm : Value) (an : Option Addr) (cdv ct : Value) (us : List Value), us.length = ps.length → bindArgs (PySem.W.fnOf x x (defArgs st) (defBody st) (defScope st) .none kV doc pm an cdv ct) ⟨us, []⟩ = pure (ps.zip us)) :
    ∃ D : DefAt K mg x st ps, ∀ (s : Shared) (us : List Value), us.length = ps.length → BindsTo s D.fd ⟨us, []⟩ (ps.zip us) :=
  ⟨⟨f, _, fun_mk l c k, (fun_mk l c k).binds hb, PySem.W.mg_of X G a⟩, fun _ us hu => .of_eq (hb _ _ _ _ _ _ us hu)⟩
theorem methAt {K : PySem.W.Frag} {C : Addr} {x q : Str} {st : Stmt} {ps : List Str} {f : Addr} {oc : Value} {od an : Option Addr} {sl : Array (Option Value)} {kV dc pm cd ct : Value}
    (a : PySem.W.findIn K (.ref C) x = some (some (.ref f))) (i : PySem.W.isFn K (.ref f) = true) (l : K.lookup f = some ⟨oc, od, .func (PySem.W.fnOf x q (defArgs st) (defBody st) (defScope st) .none kV dc pm an cd ct), sl⟩) (c : PySem.W.codeIn K cd q = true) (k : PySem.W.keepIn K (.ref f) = true)
    (hb : ∀ (kV doc pm : Value) (an : Option Addr) (cdv ct : Value) (us : List Value), us.length = ps.length → bindArgs (PySem.W.fnOf x q (defArgs st) (defBody st) (defScope st) .none kV doc pm an cdv ct) ⟨us, []⟩ = pure (ps.zip us)) :
    Nonempty (MethAt K C x q st ps) :=
  ⟨⟨f, _, fun_mk l c k, (fun_mk l c k).binds hb, ⟨a, i, k⟩⟩⟩
theorem kit_no {K : PySem.W.Frag} {C : Addr} {T : String} (iC : PySem.W.isClsIn K C = true) (tC : PySem.W.typeIn K (.ref C) = some (.type "type")) (sb : PySem.W.subIn K (.type T) (.ref C) = some false) : PySem.W.kitOne K (.type T) (.ref C) = some false := by
  unfold PySem.W.kitOne
  rw [if_neg (by simp)]
  have e : ((PySem.W.clsIn K C).isSome && PySem.W.typeIn K (.ref C) == some (.type "type")) = true := by
    rw [show (PySem.W.clsIn K C).isSome = true from iC, tC]
    simp
  show (if ((PySem.W.clsIn K C).isSome && PySem.W.typeIn K (.ref C) == some (.type "type")) = true then PySem.W.subIn K (.type T) (.ref C) else none) = some false
  rw [if_pos e]
  exact sb
theorem kit_noR {K : PySem.W.Frag} {C D : Addr} (ne : ¬ D = C) (iC : PySem.W.isClsIn K C = true) (tC : PySem.W.typeIn K (.ref C) = some (.type "type")) (sb : PySem.W.subIn K (.ref D) (.ref C) = some false) : PySem.W.kitOne K (.ref D) (.ref C) = some false := by
  unfold PySem.W.kitOne
  rw [if_neg (by simpa using ne)]
  have e : ((PySem.W.clsIn K C).isSome && PySem.W.typeIn K (.ref C) == some (.type "type")) = true := by
    rw [show (PySem.W.clsIn K C).isSome = true from iC, tC]
    simp
  show (if ((PySem.W.clsIn K C).isSome && PySem.W.typeIn K (.ref C) == some (.type "type")) = true then PySem.W.subIn K (.ref D) (.ref C) else none) = some false
  rw [if_pos e]
  exact sb
theorem kit_me {K : PySem.W.Frag} {C : Addr} : PySem.W.kitOne K (.ref C) (.ref C) = some true := by
  unfold PySem.W.kitOne
  rw [if_pos (by simp)]
theorem bothAll {K : PySem.W.Frag} {h : Heap} {mg : Str → Option Value} (X : K.In h) (G : h.Ns mainGlobals mg) {C : Addr} {CM : Addr} {f0 : Addr} {oc0 kV0 dc0 pm0 cd0 ct0 : Value} {od0 an0 : Option Addr} {sl0 : Array (Option Value)} {f1 : Addr} {oc1 kV1 dc1 pm1 cd1 ct1 : Value} {od1 an1 : Option Addr} {sl1 : Array (Option Value)} {f2 : Addr} {oc2 kV2 dc2 pm2 cd2 ct2 : Value} {od2 an2 : Option Addr} {sl2 : Array (Option Value)} {f3 : Addr} {oc3 kV3 dc3 pm3 cd3 ct3 : Value} {od3 an3 : Option Addr} {sl3 : Array (Option Value)} {f4 : Addr} {oc4 kV4 dc4 pm4 cd4 ct4 : Value} {od4 an4 : Option Addr} {sl4 : Array (Option Value)} {mf0 : Addr} {moc0 mkV0 mdc0 mpm0 mcd0 mct0 : Value} {mod0 man0 : Option Addr} {msl0 : Array (Option Value)} {Td Te : Addr} {odT odE : Option Addr} {itT itE : Array Value} {nT nE : Nat} {slT slE : Array (Option Value)} {mf1 : Addr} {moc1 mkV1 mdc1 mpm1 mcd1 mct1 : Value} {mod1 man1 : Option Addr} {msl1 : Array (Option Value)}
    (aC : PySem.W.nsIn K mainGlobals "Tree" = some (some (.ref C)))
    (pg : PySem.W.plainGet K C Str.empty = true)
    (hd : PySem.W.hasDictIn K C = true)
    (po : PySem.W.plainOver K C = true)
    (sa : PySem.W.findIn K (.ref C) "__setattr__" = some (some (.builtin "object.__setattr__")))
    (mk : PySem.W.makesIn K C = true)
    (kc : PySem.W.keepIn K (.ref C) = true)
    (nq : PySem.W.findIn K (.ref C) "quads" = some none)
    (nf : PySem.W.findIn K (.ref C) "folders" = some none)
    (nk : PySem.W.findIn K (.ref C) "kinds" = some none)
    (np : PySem.W.findIn K (.ref C) "prices" = some none)
    (ne : PySem.W.findIn K (.ref C) "__ne__" = some (some (.builtin "object.__ne__")))
    (ob : PySem.W.subIn K (.ref C) (.type "object") = some true)
    (iC : PySem.W.isClsIn K C = true)
    (tC : PySem.W.typeIn K (.ref C) = some (.type "type"))
    (ha : PySem.W.findIn K (.ref C) "__class__" = some (some (.builtin "object.__class__")))
    (hn : PySem.W.specialIn K (.builtin "object.__class__") "__get__" = some (some (.builtin "getset_descriptor.__get__")))
    (htk : PySem.W.takesIn K (.builtin "object.__class__") = some true)
    (hm : PySem.W.mroIn K C (.type "object") = some true)
    (a0 : PySem.W.findIn K (.ref C) "__init__" = some (some (.ref f0))) (i0 : PySem.W.isFn K (.ref f0) = true) (l0 : K.lookup f0 = some ⟨oc0, od0, .func (PySem.W.fnOf "__init__" "Tree.__init__" (defArgs s_Tree_init) (defBody s_Tree_init) (defScope s_Tree_init) .none kV0 dc0 pm0 an0 cd0 ct0), sl0⟩) (c0 : PySem.W.codeIn K cd0 "Tree.__init__" = true) (k0 : PySem.W.keepIn K (.ref f0) = true)
    (a1 : PySem.W.findIn K (.ref C) "__contains__" = some (some (.ref f1))) (i1 : PySem.W.isFn K (.ref f1) = true) (l1 : K.lookup f1 = some ⟨oc1, od1, .func (PySem.W.fnOf "__contains__" "Tree.__contains__" (defArgs s_Tree_contains) (defBody s_Tree_contains) (defScope s_Tree_contains) .none kV1 dc1 pm1 an1 cd1 ct1), sl1⟩) (c1 : PySem.W.codeIn K cd1 "Tree.__contains__" = true) (k1 : PySem.W.keepIn K (.ref f1) = true)
    (a2 : PySem.W.findIn K (.ref C) "folder" = some (some (.ref f2))) (i2 : PySem.W.isFn K (.ref f2) = true) (l2 : K.lookup f2 = some ⟨oc2, od2, .func (PySem.W.fnOf "folder" "Tree.folder" (defArgs s_Tree_folder) (defBody s_Tree_folder) (defScope s_Tree_folder) .none kV2 dc2 pm2 an2 cd2 ct2), sl2⟩) (c2 : PySem.W.codeIn K cd2 "Tree.folder" = true) (k2 : PySem.W.keepIn K (.ref f2) = true)
    (a3 : PySem.W.findIn K (.ref C) "price" = some (some (.ref f3))) (i3 : PySem.W.isFn K (.ref f3) = true) (l3 : K.lookup f3 = some ⟨oc3, od3, .func (PySem.W.fnOf "price" "Tree.price" (defArgs s_Tree_price) (defBody s_Tree_price) (defScope s_Tree_price) .none kV3 dc3 pm3 an3 cd3 ct3), sl3⟩) (c3 : PySem.W.codeIn K cd3 "Tree.price" = true) (k3 : PySem.W.keepIn K (.ref f3) = true)
    (a4 : PySem.W.findIn K (.ref C) "below" = some (some (.ref f4))) (i4 : PySem.W.isFn K (.ref f4) = true) (l4 : K.lookup f4 = some ⟨oc4, od4, .func (PySem.W.fnOf "below" "Tree.below" (defArgs s_Tree_below) (defBody s_Tree_below) (defScope s_Tree_below) .none kV4 dc4 pm4 an4 cd4 ct4), sl4⟩) (c4 : PySem.W.codeIn K cd4 "Tree.below" = true) (k4 : PySem.W.keepIn K (.ref f4) = true)
    (maC : PySem.W.nsIn K mainGlobals "Meaning" = some (some (.ref CM)))
    (mpg : PySem.W.plainGet K CM Str.empty = true)
    (mhd : PySem.W.hasDictIn K CM = true)
    (mpo : PySem.W.plainOver K CM = true)
    (msa : PySem.W.findIn K (.ref CM) "__setattr__" = some (some (.builtin "object.__setattr__")))
    (mmk : PySem.W.makesIn K CM = true)
    (mkc : PySem.W.keepIn K (.ref CM) = true)
    (mnt : PySem.W.findIn K (.ref CM) "tree" = some none)
    (mnd : PySem.W.findIn K (.ref CM) "default" = some none)
    (mnu : PySem.W.findIn K (.ref CM) "turns" = some none)
    (mnk : PySem.W.findIn K (.ref CM) "known" = some none)
    (mne : PySem.W.findIn K (.ref CM) "__ne__" = some (some (.builtin "object.__ne__")))
    (mob : PySem.W.subIn K (.ref CM) (.type "object") = some true)
    (miC : PySem.W.isClsIn K CM = true)
    (mtC : PySem.W.typeIn K (.ref CM) = some (.type "type"))
    (mha : PySem.W.findIn K (.ref CM) "__class__" = some (some (.builtin "object.__class__")))
    (mhn : PySem.W.specialIn K (.builtin "object.__class__") "__get__" = some (some (.builtin "getset_descriptor.__get__")))
    (mhtk : PySem.W.takesIn K (.builtin "object.__class__") = some true)
    (mhm : PySem.W.mroIn K CM (.type "object") = some true)
    (ma0 : PySem.W.findIn K (.ref CM) "__init__" = some (some (.ref mf0))) (mi0 : PySem.W.isFn K (.ref mf0) = true) (ml0 : K.lookup mf0 = some ⟨moc0, mod0, .func (PySem.W.fnOf "__init__" "Meaning.__init__" (defArgs s_Meaning_init) (defBody s_Meaning_init) (defScope s_Meaning_init) (.ref Td) mkV0 mdc0 mpm0 man0 mcd0 mct0), msl0⟩) (mc0 : PySem.W.codeIn K mcd0 "Meaning.__init__" = true) (mk0 : PySem.W.keepIn K (.ref mf0) = true)
    (mlT : K.lookup Td = some ⟨.type "tuple", odT, .seq itT nT, slT⟩) (mvT : itT.toList = [.ref Te]) (mlE : K.lookup Te = some ⟨.type "tuple", odE, .seq itE nE, slE⟩) (mvE : itE.toList = [])
    (ma1 : PySem.W.findIn K (.ref CM) "value" = some (some (.ref mf1))) (mi1 : PySem.W.isFn K (.ref mf1) = true) (ml1 : K.lookup mf1 = some ⟨moc1, mod1, .func (PySem.W.fnOf "value" "Meaning.value" (defArgs s_Meaning_value) (defBody s_Meaning_value) (defScope s_Meaning_value) .none mkV1 mdc1 mpm1 man1 mcd1 mct1), msl1⟩) (mc1 : PySem.W.codeIn K mcd1 "Meaning.value" = true) (mk1 : PySem.W.keepIn K (.ref mf1) = true) :
    ∃ C : Addr, TxT K mg C ∧ TxN K C ∧ C8.InsC K C ∧ (∃ (f : Addr) (fd : FuncData), Fun K "__init__" "Tree.__init__" s_Tree_init f fd ∧ Mk K C f ∧ Binds K fd ["self", "rows"] []) ∧ Nonempty (MethAt K C "__contains__" "Tree.__contains__" s_Tree_contains ["self", "x"]) ∧ Nonempty (MethAt K C "folder" "Tree.folder" s_Tree_folder ["self", "box"]) ∧ Nonempty (MethAt K C "price" "Tree.price" s_Tree_price ["self", "box"]) ∧ Nonempty (MethAt K C "below" "Tree.below" s_Tree_below ["self", "box"]) ∧ ∃ CM : Addr, TxM K mg CM ∧ TxN K CM ∧ C8.InsC K CM ∧ (∃ (f : Addr) (fd : FuncData) (Te : Addr), FunD K "__init__" "Meaning.__init__" (defArgs s_Meaning_init) (defBody s_Meaning_init) (defScope s_Meaning_init) [V.ref Te] [] f fd ∧ Mk K CM f ∧ Binds K fd ["self", "tree", "default", "turns"] []) ∧ Nonempty (MethAt K CM "value" "Meaning.value" s_Meaning_value ["self", "box"]) :=
  by
  have FD : FunD K "__init__" "Meaning.__init__" (defArgs s_Meaning_init) (defBody s_Meaning_init) (defScope s_Meaning_init) [V.ref Te] [] mf0 _ := ⟨⟨_, _, _, _, _, _, _, _, _, _, rfl, ml0, mc0, .inr ⟨by simp, Td, _, [.ref Te], nT, rfl, mlT, by rw [← mvT], .cons rfl .nil⟩, .inl rfl⟩, mk0⟩
  obtain ⟨ds2, v2, b2⟩ := FD.binds1 (ps := ["self", "tree", "default", "turns"]) 4 1 (by simp) rfl (fun T kV doc pm an cdv ct us its hu hi => match us, hu, its, hi with | [_, _, _, _], _, [_], _ => ⟨_, rfl, rfl⟩)
  cases v2
  exact ⟨C, ⟨⟨pg, hd, po, sa⟩, nq, nf, nk, np, PySem.W.mg_of X G aC⟩, ⟨ne, ob⟩, ⟨⟨pg, hd, po, sa⟩, ha, hn, htk, hm, kit_me⟩, ⟨f0, _, fun_mk l0 c0 k0, ⟨mk, a0, i0, kc⟩, (fun_mk l0 c0 k0).binds (fun _ _ _ _ _ _ us hl => match us, hl with | [_, _], _ => rfl)⟩, methAt a1 i1 l1 c1 k1 (fun _ _ _ _ _ _ us hl => match us, hl with | [_, _], _ => rfl), methAt a2 i2 l2 c2 k2 (fun _ _ _ _ _ _ us hl => match us, hl with | [_, _], _ => rfl), methAt a3 i3 l3 c3 k3 (fun _ _ _ _ _ _ us hl => match us, hl with | [_, _], _ => rfl), methAt a4 i4 l4 c4 k4 (fun _ _ _ _ _ _ us hl => match us, hl with | [_, _], _ => rfl), CM, ⟨⟨mpg, mhd, mpo, msa⟩, mnt, mnd, mnu, mnk, PySem.W.mg_of X G maC⟩, ⟨mne, mob⟩, ⟨⟨mpg, mhd, mpo, msa⟩, mha, mhn, mhtk, mhm, kit_me⟩, ⟨mf0, _, Te, FD, ⟨mmk, ma0, mi0, mkc⟩, b2⟩, methAt ma1 mi1 ml1 mc1 mk1 (fun _ _ _ _ _ _ us hl => match us, hl with | [_, _], _ => rfl)⟩
theorem cheapCls {K : PySem.W.Frag} {h : Heap} {mg : Str → Option Value} (X : K.In h) (G : h.Ns mainGlobals mg) {CH : Addr} {f0 : Addr} {oc0 kV0 dc0 pm0 cd0 ct0 : Value} {od0 an0 : Option Addr} {sl0 : Array (Option Value)}
    (aC : PySem.W.nsIn K mainGlobals "Cheapest" = some (some (.ref CH)))
    (pg : PySem.W.plainGet K CH Str.empty = true)
    (hd : PySem.W.hasDictIn K CH = true)
    (po : PySem.W.plainOver K CH = true)
    (sa : PySem.W.findIn K (.ref CH) "__setattr__" = some (some (.builtin "object.__setattr__")))
    (mk : PySem.W.makesIn K CH = true)
    (kc : PySem.W.keepIn K (.ref CH) = true)
    (nc : PySem.W.findIn K (.ref CH) "cost" = some none)
    (nw : PySem.W.findIn K (.ref CH) "wide" = some none)
    (nn : PySem.W.findIn K (.ref CH) "narrow" = some none)
    (ny : PySem.W.findIn K (.ref CH) "ways" = some none)
    (ne : PySem.W.findIn K (.ref CH) "__ne__" = some (some (.builtin "object.__ne__")))
    (ob : PySem.W.subIn K (.ref CH) (.type "object") = some true)
    (iC : PySem.W.isClsIn K CH = true)
    (tC : PySem.W.typeIn K (.ref CH) = some (.type "type"))
    (ha : PySem.W.findIn K (.ref CH) "__class__" = some (some (.builtin "object.__class__")))
    (hn : PySem.W.specialIn K (.builtin "object.__class__") "__get__" = some (some (.builtin "getset_descriptor.__get__")))
    (htk : PySem.W.takesIn K (.builtin "object.__class__") = some true)
    (hm : PySem.W.mroIn K CH (.type "object") = some true)
    (a0 : PySem.W.findIn K (.ref CH) "__init__" = some (some (.ref f0))) (i0 : PySem.W.isFn K (.ref f0) = true) (l0 : K.lookup f0 = some ⟨oc0, od0, .func (PySem.W.fnOf "__init__" "Cheapest.__init__" (defArgs s_Cheapest_init) (defBody s_Cheapest_init) (defScope s_Cheapest_init) .none kV0 dc0 pm0 an0 cd0 ct0), sl0⟩) (c0 : PySem.W.codeIn K cd0 "Cheapest.__init__" = true) (k0 : PySem.W.keepIn K (.ref f0) = true) :
    ∃ CH : Addr, TxH K mg CH ∧ C8.InsC K CH ∧ (∃ (f : Addr) (fd : FuncData), Fun K "__init__" "Cheapest.__init__" s_Cheapest_init f fd ∧ Mk K CH f ∧ Binds K fd ["self", "cost", "wide", "narrow", "ways"] []) :=
  ⟨CH, ⟨⟨pg, hd, po, sa⟩, nc, nw, nn, ny, PySem.W.mg_of X G aC⟩, ⟨⟨pg, hd, po, sa⟩, ha, hn, htk, hm, kit_me⟩, ⟨f0, _, fun_mk l0 c0 k0, ⟨mk, a0, i0, kc⟩, (fun_mk l0 c0 k0).binds (fun _ _ _ _ _ _ us hl => match us, hl with | [_, _, _, _, _], _ => rfl)⟩⟩
theorem cheapestFn {K : PySem.W.Frag} {h : Heap} {mg : Str → Option Value} (X : K.In h) (G : h.Ns mainGlobals mg) {f Td : Addr} {oc kV dc pm cd ct : Value} {od an odT : Option Addr} {sl slT : Array (Option Value)} {itT : Array Value} {nT : Nat}
    (a : PySem.W.nsIn K mainGlobals "cheapest" = some (some (.ref f))) (l : K.lookup f = some ⟨oc, od, .func (PySem.W.fnOf "cheapest" "cheapest" (defArgs s_cheapest) (defBody s_cheapest) (defScope s_cheapest) (.ref Td) kV dc pm an cd ct), sl⟩) (c : PySem.W.codeIn K cd "cheapest" = true) (k : PySem.W.keepIn K (.ref f) = true)
    (hk : kV = .none) (lT : K.lookup Td = some ⟨.type "tuple", odT, .seq itT nT, slT⟩) (vT : itT.toList = [.none]) :
    ∃ (f : Addr) (fd : FuncData) (ds : List Value), FunD K "cheapest" "cheapest" (defArgs s_cheapest) (defBody s_cheapest) (defScope s_cheapest) [V.non] [] f fd ∧ mg "cheapest" = some (.ref f) ∧ PySem.W.keepIn K (.ref f) = true ∧ Binds K fd ["tree", "wish", "default"] [] ∧ Binds K fd ["tree", "wish", "default"] ds ∧ Vals [V.non] ds := by
  subst hk
  have FD : FunD K "cheapest" "cheapest" (defArgs s_cheapest) (defBody s_cheapest) (defScope s_cheapest) [V.non] [] f _ := ⟨⟨_, _, _, _, _, _, _, _, _, _, rfl, l, c, .inr ⟨by simp, Td, _, [.none], nT, rfl, lT, by rw [← vT], .cons rfl .nil⟩, .inl rfl⟩, k⟩
  obtain ⟨ds2, v2, b2⟩ := FD.binds1 (ps := ["tree", "wish", "default"]) 3 1 (by simp) rfl (fun T kV doc pm an cdv ct us its hu hi => match us, hu, its, hi with | [_, _, _], _, [_], _ => ⟨_, rfl, rfl⟩)
  obtain ⟨ds1, v1, b1⟩ := FD.binds1 (ps := ["tree", "wish", "default"]) 2 0 (by simp) rfl (fun T kV doc pm an cdv ct us its hu hi => match us, hu, its, hi with | [_, _], _, [_], _ => ⟨_, rfl, rfl⟩)
  cases v2
  exact ⟨f, _, ds1, FD, PySem.W.mg_of X G a, k, b2, b1, v1⟩
theorem how_manyFn {K : PySem.W.Frag} {h : Heap} {mg : Str → Option Value} (X : K.In h) (G : h.Ns mainGlobals mg) {f Td : Addr} {oc kV dc pm cd ct : Value} {od an odT : Option Addr} {sl slT : Array (Option Value)} {itT : Array Value} {nT : Nat}
    (a : PySem.W.nsIn K mainGlobals "how_many" = some (some (.ref f))) (l : K.lookup f = some ⟨oc, od, .func (PySem.W.fnOf "how_many" "how_many" (defArgs s_how_many) (defBody s_how_many) (defScope s_how_many) (.ref Td) kV dc pm an cd ct), sl⟩) (c : PySem.W.codeIn K cd "how_many" = true) (k : PySem.W.keepIn K (.ref f) = true)
    (hk : kV = .none) (lT : K.lookup Td = some ⟨.type "tuple", odT, .seq itT nT, slT⟩) (vT : itT.toList = [.none]) :
    ∃ (f : Addr) (fd : FuncData) (ds : List Value), FunD K "how_many" "how_many" (defArgs s_how_many) (defBody s_how_many) (defScope s_how_many) [V.non] [] f fd ∧ mg "how_many" = some (.ref f) ∧ PySem.W.keepIn K (.ref f) = true ∧ Binds K fd ["tree", "wish", "default"] [] ∧ Binds K fd ["tree", "wish", "default"] ds ∧ Vals [V.non] ds := by
  subst hk
  have FD : FunD K "how_many" "how_many" (defArgs s_how_many) (defBody s_how_many) (defScope s_how_many) [V.non] [] f _ := ⟨⟨_, _, _, _, _, _, _, _, _, _, rfl, l, c, .inr ⟨by simp, Td, _, [.none], nT, rfl, lT, by rw [← vT], .cons rfl .nil⟩, .inl rfl⟩, k⟩
  obtain ⟨ds2, v2, b2⟩ := FD.binds1 (ps := ["tree", "wish", "default"]) 3 1 (by simp) rfl (fun T kV doc pm an cdv ct us its hu hi => match us, hu, its, hi with | [_, _, _], _, [_], _ => ⟨_, rfl, rfl⟩)
  obtain ⟨ds1, v1, b1⟩ := FD.binds1 (ps := ["tree", "wish", "default"]) 2 0 (by simp) rfl (fun T kV doc pm an cdv ct us its hu hi => match us, hu, its, hi with | [_, _], _, [_], _ => ⟨_, rfl, rfl⟩)
  cases v2
  exact ⟨f, _, ds1, FD, PySem.W.mg_of X G a, k, b2, b1, v1⟩
theorem freeAll {K : PySem.W.Frag} {h : Heap} {mg : Str → Option Value} (X : K.In h) (G : h.Ns mainGlobals mg)
    (z0 : PySem.W.nsIn K mainGlobals "len" = some none) (z1 : PySem.W.nsIn K mainGlobals "abs" = some none) (z2 : PySem.W.nsIn K mainGlobals "int" = some none) (z3 : PySem.W.nsIn K mainGlobals "str" = some none) (z4 : PySem.W.nsIn K mainGlobals "bool" = some none) (z5 : PySem.W.nsIn K mainGlobals "list" = some none) (z6 : PySem.W.nsIn K mainGlobals "tuple" = some none) (z7 : PySem.W.nsIn K mainGlobals "dict" = some none) (z8 : PySem.W.nsIn K mainGlobals "range" = some none) (z9 : PySem.W.nsIn K mainGlobals "enumerate" = some none) (z10 : PySem.W.nsIn K mainGlobals "isinstance" = some none) (z11 : PySem.W.nsIn K mainGlobals "all" = some none) (z12 : PySem.W.nsIn K mainGlobals "sum" = some none) (z13 : PySem.W.nsIn K mainGlobals "min" = some none) (z14 : PySem.W.nsIn K mainGlobals "sorted" = some none) : TxB mg ∧ mg "sum" = none ∧ mg "min" = none ∧ mg "sorted" = none :=
  ⟨⟨PySem.W.mg_none_of X G z0, PySem.W.mg_none_of X G z1, PySem.W.mg_none_of X G z2, PySem.W.mg_none_of X G z3, PySem.W.mg_none_of X G z4, PySem.W.mg_none_of X G z5, PySem.W.mg_none_of X G z6, PySem.W.mg_none_of X G z7, PySem.W.mg_none_of X G z8, PySem.W.mg_none_of X G z9, PySem.W.mg_none_of X G z10, PySem.W.mg_none_of X G z11⟩, PySem.W.mg_none_of X G z12, PySem.W.mg_none_of X G z13, PySem.W.mg_none_of X G z14⟩
theorem constAll {K : PySem.W.Frag} {h : Heap} {mg : Str → Option Value} (X : K.In h) (G : h.Ns mainGlobals mg) (num : DefAt K mg "is_number" s_is_number ["thing", "least"]) {t1 t2 t3 : Tok} {kt : Addr} {od : Option Addr} {its : Array Value} {n : Nat} {sl : Array (Option Value)}
    (b1 : PySem.W.nsIn K mainGlobals "TOP" = some (some (.str "top" t1))) (b2 : PySem.W.nsIn K mainGlobals "FOLDER" = some (some (.str "folder" t2))) (b3 : PySem.W.nsIn K mainGlobals "LONGEST_NAME" = some (some (.int 8 t3))) (b4 : PySem.W.nsIn K mainGlobals "KINDS" = some (some (.ref kt)))
    (b5 : K.lookup kt = some ⟨.type "tuple", od, .seq its n, sl⟩) (b6 : its.size ≤ sizeLine) (b7 : Vals (kinds3.map V.str) its.toList) : Nonempty (TxC K mg) :=
  ⟨⟨⟨t1, PySem.W.mg_of X G b1⟩, ⟨t2, PySem.W.mg_of X G b2⟩, ⟨t3, PySem.W.mg_of X G b3⟩, kt, PySem.W.mg_of X G b4, num, ⟨_, its, n, b5, rfl, rfl, b6, b7⟩⟩⟩
theorem constU {K : PySem.W.Frag} {h : Heap} {mg : Str → Option Value} (X : K.In h) (G : h.Ns mainGlobals mg) {A : Addr} {od : Option Addr} {its : Array Value} {n : Nat} {sl : Array (Option Value)} (g : PySem.W.nsIn K mainGlobals "VALUES" = some (some (.ref A))) (l : K.lookup A = some ⟨.type "tuple", od, .seq its n, sl⟩) (z : its.size ≤ sizeLine) (v : Vals [V.bl false, .bl true] its.toList) : Nonempty (TxU K mg) :=
  ⟨⟨A, PySem.W.mg_of X G g, fun H => .inr ⟨_, its, n, l, rfl, rfl, z, v⟩⟩⟩
theorem errsAll {K : PySem.W.Frag} {h : Heap} {mg : Str → Option Value} (X : K.In h) (G : h.Ns mainGlobals mg) {CU : Addr} {C0 BE0 f0 : Addr} {nm0 q0 : Str} {N0 : Addr} {bs0 : List Value} {sn0 : List Str} {sub0 : List Value} {ab0 : Bool} {col0 : Option Bool} {dd0 : Option Addr} {ma0 mb0 mc0 md0 mf0 : Option Value} {od0 an0 : Option Addr} {sl0 : Array (Option Value)} {oc0 kV0 dc0 pm0 cd0 ct0 : Value} {C1 BE1 f1 : Addr} {nm1 q1 : Str} {N1 : Addr} {bs1 : List Value} {sn1 : List Str} {sub1 : List Value} {ab1 : Bool} {col1 : Option Bool} {dd1 : Option Addr} {ma1 mb1 mc1 md1 mf1 : Option Value} {od1 an1 : Option Addr} {sl1 : Array (Option Value)} {oc1 kV1 dc1 pm1 cd1 ct1 : Value} {C2 BE2 f2 : Addr} {nm2 q2 : Str} {N2 : Addr} {bs2 : List Value} {sn2 : List Str} {sub2 : List Value} {ab2 : Bool} {col2 : Option Bool} {dd2 : Option Addr} {ma2 mb2 mc2 md2 mf2 : Option Value} {od2 an2 : Option Addr} {sl2 : Array (Option Value)} {oc2 kV2 dc2 pm2 cd2 ct2 : Value} {C3 BE3 f3 : Addr} {nm3 q3 : Str} {N3 : Addr} {bs3 : List Value} {sn3 : List Str} {sub3 : List Value} {ab3 : Bool} {col3 : Option Bool} {dd3 : Option Addr} {ma3 mb3 mc3 md3 mf3 : Option Value} {od3 an3 : Option Addr} {sl3 : Array (Option Value)} {oc3 kV3 dc3 pm3 cd3 ct3 : Value} {C4 BE4 f4 : Addr} {nm4 q4 : Str} {N4 : Addr} {bs4 : List Value} {sn4 : List Str} {sub4 : List Value} {ab4 : Bool} {col4 : Option Bool} {dd4 : Option Addr} {ma4 mb4 mc4 md4 mf4 : Option Value} {od4 an4 : Option Addr} {sl4 : Array (Option Value)} {oc4 kV4 dc4 pm4 cd4 ct4 : Value} {C5 BE5 f5 : Addr} {nm5 q5 : Str} {N5 : Addr} {bs5 : List Value} {sn5 : List Str} {sub5 : List Value} {ab5 : Bool} {col5 : Option Bool} {dd5 : Option Addr} {ma5 mb5 mc5 md5 mf5 : Option Value} {od5 an5 : Option Addr} {sl5 : Array (Option Value)} {oc5 kV5 dc5 pm5 cd5 ct5 : Value}
    (e0aC : PySem.W.nsIn K mainGlobals "Barred" = some (some (.ref C0)))
    (e0xL : K.lookup C0 = some (excClassObj nm0 q0 C0 N0 bs0 [.ref BE0, .type "ValueError", .type "Exception", .type "BaseException", .type "object"] true sn0 sub0 ab0 col0 dd0 ma0 mb0 mc0 md0 mf0 "ValueError.__new__"))
    (e0sa : PySem.W.findIn K (.ref C0) "__setattr__" = some (some (.builtin "object.__setattr__")))
    (e0ga : PySem.W.findIn K (.ref C0) "__getattribute__" = some (some (.builtin "BaseException.__getattribute__")))
    (e0gg : PySem.W.findIn K (.ref C0) "__getattr__" = some none)
    (e0nb : PySem.W.findIn K (.ref C0) "one" = some none)
    (e0a1 : PySem.W.findIn K (.ref C0) "__init__" = some (some (.ref f0)))
    (e0t1 : PySem.W.typeIn K (.ref f0) = some (.type "function"))
    (e0l1 : K.lookup f0 = some ⟨oc0, od0, .func (PySem.W.fnOf "__init__" "Barred.__init__" (defArgs s_Barred_init) (defBody s_Barred_init) (defScope s_Barred_init) .none kV0 dc0 pm0 an0 cd0 ct0), sl0⟩)
    (e0c1 : PySem.W.codeIn K cd0 "Barred.__init__" = true)
    (e0k1 : PySem.W.keepIn K (.ref f0) = true)
    (e0kC : PySem.W.keepIn K (.ref C0) = true)
    (e0eC : PySem.W.subIn K (.ref C0) (.type "BaseException") = some true)
    (e0tC : PySem.W.typeIn K (.ref C0) = some (.type "type"))
    (e0hC : PySem.W.hasDictIn K C0 = true)
    (e0iC : PySem.W.isClsIn K C0 = true)
    (e0sC : PySem.W.subIn K (.ref C0) (.ref C0) = some true)
    (e0x0 : PySem.W.findIn K (.ref C0) "other" = some none)
    (e1aC : PySem.W.nsIn K mainGlobals "BadWish" = some (some (.ref C1)))
    (e1xL : K.lookup C1 = some (excClassObj nm1 q1 C1 N1 bs1 [.ref BE1, .type "ValueError", .type "Exception", .type "BaseException", .type "object"] true sn1 sub1 ab1 col1 dd1 ma1 mb1 mc1 md1 mf1 "ValueError.__new__"))
    (e1sa : PySem.W.findIn K (.ref C1) "__setattr__" = some (some (.builtin "object.__setattr__")))
    (e1ga : PySem.W.findIn K (.ref C1) "__getattribute__" = some (some (.builtin "BaseException.__getattribute__")))
    (e1gg : PySem.W.findIn K (.ref C1) "__getattr__" = some none)
    (e1nb : PySem.W.findIn K (.ref C1) "box" = some none)
    (e1a1 : PySem.W.findIn K (.ref C1) "__init__" = some (some (.ref f1)))
    (e1t1 : PySem.W.typeIn K (.ref f1) = some (.type "function"))
    (e1l1 : K.lookup f1 = some ⟨oc1, od1, .func (PySem.W.fnOf "__init__" "BadWish.__init__" (defArgs s_BadWish_init) (defBody s_BadWish_init) (defScope s_BadWish_init) .none kV1 dc1 pm1 an1 cd1 ct1), sl1⟩)
    (e1c1 : PySem.W.codeIn K cd1 "BadWish.__init__" = true)
    (e1k1 : PySem.W.keepIn K (.ref f1) = true)
    (e1kC : PySem.W.keepIn K (.ref C1) = true)
    (e1eC : PySem.W.subIn K (.ref C1) (.type "BaseException") = some true)
    (e1tC : PySem.W.typeIn K (.ref C1) = some (.type "type"))
    (e1hC : PySem.W.hasDictIn K C1 = true)
    (e1iC : PySem.W.isClsIn K C1 = true)
    (e1sC : PySem.W.subIn K (.ref C1) (.ref C1) = some true)
    (e2aC : PySem.W.nsIn K mainGlobals "BadNumber" = some (some (.ref C2)))
    (e2xL : K.lookup C2 = some (excClassObj nm2 q2 C2 N2 bs2 [.ref BE2, .type "ValueError", .type "Exception", .type "BaseException", .type "object"] true sn2 sub2 ab2 col2 dd2 ma2 mb2 mc2 md2 mf2 "ValueError.__new__"))
    (e2sa : PySem.W.findIn K (.ref C2) "__setattr__" = some (some (.builtin "object.__setattr__")))
    (e2ga : PySem.W.findIn K (.ref C2) "__getattribute__" = some (some (.builtin "BaseException.__getattribute__")))
    (e2gg : PySem.W.findIn K (.ref C2) "__getattr__" = some none)
    (e2nb : PySem.W.findIn K (.ref C2) "number" = some none)
    (e2a1 : PySem.W.findIn K (.ref C2) "__init__" = some (some (.ref f2)))
    (e2t1 : PySem.W.typeIn K (.ref f2) = some (.type "function"))
    (e2l1 : K.lookup f2 = some ⟨oc2, od2, .func (PySem.W.fnOf "__init__" "BadNumber.__init__" (defArgs s_BadNumber_init) (defBody s_BadNumber_init) (defScope s_BadNumber_init) .none kV2 dc2 pm2 an2 cd2 ct2), sl2⟩)
    (e2c1 : PySem.W.codeIn K cd2 "BadNumber.__init__" = true)
    (e2k1 : PySem.W.keepIn K (.ref f2) = true)
    (e2kC : PySem.W.keepIn K (.ref C2) = true)
    (e2eC : PySem.W.subIn K (.ref C2) (.type "BaseException") = some true)
    (e2tC : PySem.W.typeIn K (.ref C2) = some (.type "type"))
    (e2hC : PySem.W.hasDictIn K C2 = true)
    (e2iC : PySem.W.isClsIn K C2 = true)
    (e2sC : PySem.W.subIn K (.ref C2) (.ref C2) = some true)
    (e3aC : PySem.W.nsIn K mainGlobals "TooDear" = some (some (.ref C3)))
    (e3xL : K.lookup C3 = some (excClassObj nm3 q3 C3 N3 bs3 [.ref BE3, .type "ValueError", .type "Exception", .type "BaseException", .type "object"] true sn3 sub3 ab3 col3 dd3 ma3 mb3 mc3 md3 mf3 "ValueError.__new__"))
    (e3sa : PySem.W.findIn K (.ref C3) "__setattr__" = some (some (.builtin "object.__setattr__")))
    (e3ga : PySem.W.findIn K (.ref C3) "__getattribute__" = some (some (.builtin "BaseException.__getattribute__")))
    (e3gg : PySem.W.findIn K (.ref C3) "__getattr__" = some none)
    (e3nb : PySem.W.findIn K (.ref C3) "cost" = some none)
    (e3a1 : PySem.W.findIn K (.ref C3) "__init__" = some (some (.ref f3)))
    (e3t1 : PySem.W.typeIn K (.ref f3) = some (.type "function"))
    (e3l1 : K.lookup f3 = some ⟨oc3, od3, .func (PySem.W.fnOf "__init__" "TooDear.__init__" (defArgs s_TooDear_init) (defBody s_TooDear_init) (defScope s_TooDear_init) .none kV3 dc3 pm3 an3 cd3 ct3), sl3⟩)
    (e3c1 : PySem.W.codeIn K cd3 "TooDear.__init__" = true)
    (e3k1 : PySem.W.keepIn K (.ref f3) = true)
    (e3kC : PySem.W.keepIn K (.ref C3) = true)
    (e3eC : PySem.W.subIn K (.ref C3) (.type "BaseException") = some true)
    (e3tC : PySem.W.typeIn K (.ref C3) = some (.type "type"))
    (e3hC : PySem.W.hasDictIn K C3 = true)
    (e3iC : PySem.W.isClsIn K C3 = true)
    (e3sC : PySem.W.subIn K (.ref C3) (.ref C3) = some true)
    (e4aC : PySem.W.nsIn K mainGlobals "NoBox" = some (some (.ref C4)))
    (e4xL : K.lookup C4 = some (excClassObj nm4 q4 C4 N4 bs4 [.ref BE4, .type "ValueError", .type "Exception", .type "BaseException", .type "object"] true sn4 sub4 ab4 col4 dd4 ma4 mb4 mc4 md4 mf4 "ValueError.__new__"))
    (e4sa : PySem.W.findIn K (.ref C4) "__setattr__" = some (some (.builtin "object.__setattr__")))
    (e4ga : PySem.W.findIn K (.ref C4) "__getattribute__" = some (some (.builtin "BaseException.__getattribute__")))
    (e4gg : PySem.W.findIn K (.ref C4) "__getattr__" = some none)
    (e4nb : PySem.W.findIn K (.ref C4) "box" = some none)
    (e4a1 : PySem.W.findIn K (.ref C4) "__init__" = some (some (.ref f4)))
    (e4t1 : PySem.W.typeIn K (.ref f4) = some (.type "function"))
    (e4l1 : K.lookup f4 = some ⟨oc4, od4, .func (PySem.W.fnOf "__init__" "NoBox.__init__" (defArgs s_NoBox_init) (defBody s_NoBox_init) (defScope s_NoBox_init) .none kV4 dc4 pm4 an4 cd4 ct4), sl4⟩)
    (e4c1 : PySem.W.codeIn K cd4 "NoBox.__init__" = true)
    (e4k1 : PySem.W.keepIn K (.ref f4) = true)
    (e4kC : PySem.W.keepIn K (.ref C4) = true)
    (e4eC : PySem.W.subIn K (.ref C4) (.type "BaseException") = some true)
    (e4tC : PySem.W.typeIn K (.ref C4) = some (.type "type"))
    (e4hC : PySem.W.hasDictIn K C4 = true)
    (e4iC : PySem.W.isClsIn K C4 = true)
    (e4sC : PySem.W.subIn K (.ref C4) (.ref C4) = some true)
    (e5aC : PySem.W.nsIn K mainGlobals "Locked" = some (some (.ref C5)))
    (e5xL : K.lookup C5 = some (excClassObj nm5 q5 C5 N5 bs5 [.ref BE5, .type "ValueError", .type "Exception", .type "BaseException", .type "object"] true sn5 sub5 ab5 col5 dd5 ma5 mb5 mc5 md5 mf5 "ValueError.__new__"))
    (e5sa : PySem.W.findIn K (.ref C5) "__setattr__" = some (some (.builtin "object.__setattr__")))
    (e5ga : PySem.W.findIn K (.ref C5) "__getattribute__" = some (some (.builtin "BaseException.__getattribute__")))
    (e5gg : PySem.W.findIn K (.ref C5) "__getattr__" = some none)
    (e5nb : PySem.W.findIn K (.ref C5) "box" = some none)
    (e5a1 : PySem.W.findIn K (.ref C5) "__init__" = some (some (.ref f5)))
    (e5t1 : PySem.W.typeIn K (.ref f5) = some (.type "function"))
    (e5l1 : K.lookup f5 = some ⟨oc5, od5, .func (PySem.W.fnOf "__init__" "Locked.__init__" (defArgs s_Locked_init) (defBody s_Locked_init) (defScope s_Locked_init) .none kV5 dc5 pm5 an5 cd5 ct5), sl5⟩)
    (e5c1 : PySem.W.codeIn K cd5 "Locked.__init__" = true)
    (e5k1 : PySem.W.keepIn K (.ref f5) = true)
    (e5kC : PySem.W.keepIn K (.ref C5) = true)
    (e5eC : PySem.W.subIn K (.ref C5) (.type "BaseException") = some true)
    (e5tC : PySem.W.typeIn K (.ref C5) = some (.type "type"))
    (e5hC : PySem.W.hasDictIn K C5 = true)
    (e5iC : PySem.W.isClsIn K C5 = true)
    (e5sC : PySem.W.subIn K (.ref C5) (.ref C5) = some true)
    (ua : PySem.W.nsIn K mainGlobals "BadDefault" = some (some (.ref CU))) (uq : PySem.W.excIn K CU veBases "ValueError.__new__" = true) (uk : PySem.W.keepIn K (.ref CU) = true) (ub : PySem.W.subIn K (.ref CU) (.type "BaseException") = some true) (ut : PySem.W.typeIn K (.ref CU) = some (.type "type")) (ui : PySem.W.isClsIn K CU = true) (us : PySem.W.subIn K (.ref CU) (.ref CU) = some true) :
    ∃ CB CW CD CN CT CX CL : Addr, ErrsW K mg CB CW CD CN CT CX ∧ (∃ (f : Addr) (fd : FuncData), PySem.W.findIn K (.ref CB) "__init__" = some (some (.ref f)) ∧ PySem.W.typeIn K (.ref f) = some (.type "function") ∧ Fun K "__init__" "Barred.__init__" s_Barred_init f fd ∧ Binds K fd ["self", "one", "other"] []) ∧ ErrT K mg CL "Locked" "box" ∧ (∃ (f : Addr) (fd : FuncData), PySem.W.findIn K (.ref CL) "__init__" = some (some (.ref f)) ∧ PySem.W.typeIn K (.ref f) = some (.type "function") ∧ Fun K "__init__" "Locked.__init__" s_Locked_init f fd ∧ Binds K fd ["self", "box"] []) :=
  ⟨C0, C1, CU, C2, C3, C4, C5, ⟨(errAll X G e0aC e0xL e0sa e0ga e0gg e0nb e0a1 e0t1 e0l1 e0c1 e0k1 e0kC e0eC e0tC e0hC e0iC e0sC).1, e0x0, (errAll X G e1aC e1xL e1sa e1ga e1gg e1nb e1a1 e1t1 e1l1 e1c1 e1k1 e1kC e1eC e1tC e1hC e1iC e1sC).1, ⟨uq, uk, ub, ut, PySem.W.mg_of X G ua, exm_self ub ui ut us⟩, (errAll X G e2aC e2xL e2sa e2ga e2gg e2nb e2a1 e2t1 e2l1 e2c1 e2k1 e2kC e2eC e2tC e2hC e2iC e2sC).1, (errAll X G e3aC e3xL e3sa e3ga e3gg e3nb e3a1 e3t1 e3l1 e3c1 e3k1 e3kC e3eC e3tC e3hC e3iC e3sC).1, (errAll X G e4aC e4xL e4sa e4ga e4gg e4nb e4a1 e4t1 e4l1 e4c1 e4k1 e4kC e4eC e4tC e4hC e4iC e4sC).1⟩, ⟨f0, _, e0a1, e0t1, fun_mk e0l1 e0c1 e0k1, (fun_mk e0l1 e0c1 e0k1).binds (fun _ _ _ _ _ _ us hl => match us, hl with | [_, _, _], _ => rfl)⟩, (errAll X G e5aC e5xL e5sa e5ga e5gg e5nb e5a1 e5t1 e5l1 e5c1 e5k1 e5kC e5eC e5tC e5hC e5iC e5sC).1, ⟨f5, _, e5a1, e5t1, fun_mk e5l1 e5c1 e5k1, (fun_mk e5l1 e5c1 e5k1).binds (fun _ _ _ _ _ _ us hl => match us, hl with | [_, _], _ => rfl)⟩⟩
theorem defAtC {K : PySem.W.Frag} {h : Heap} {mg : Str → Option Value} (X : K.In h) (G : h.Ns mainGlobals mg) {x : Str} {st : Stmt} {ps : List Str} {f c : Addr} {oc : Value} {od an : Option Addr} {sl : Array (Option Value)} {kV dc pm ct : Value}
    (a : PySem.W.nsIn K mainGlobals x = some (some (.ref f))) (l : K.lookup f = some ⟨oc, od, .func (PySem.W.fnOf x x (defArgs st) (defBody st) (defScope st) .none kV dc pm an (.ref c) ct), sl⟩) (c0 : PySem.W.codeIn K (.ref c) x = true) (k : PySem.W.keepIn K (.ref f) = true)
    (hb : ∀ (kV doc pm : Value) (an : Option Addr) (cdv ct : Value) (us : List Value), us.length = ps.length → bindArgs (PySem.W.fnOf x x (defArgs st) (defBody st) (defScope st) .none kV doc pm an cdv ct) ⟨us, []⟩ = pure (ps.zip us)) :
    ∃ D : DefC K mg x st ps, D.c = c ∧ ∀ (s : Shared) (us : List Value), us.length = ps.length → BindsTo s D.fd ⟨us, []⟩ (ps.zip us) :=
  ⟨⟨f, _, c, ⟨⟨_, _, _, _, _, _, _, _, rfl, l, c0⟩, k⟩, (fun_mk l c0 k).binds hb, PySem.W.mg_of X G a⟩, rfl, fun _ us hu => .of_eq (hb _ _ _ _ _ _ us hu)⟩
theorem codeHdC {K : PySem.W.Frag} {h : Heap} {c P : Addr} {od : Option Addr} {vs : Array Value} {sl : Array (Option Value)} (X : K.In h) (l : K.lookup c = some ⟨.type "code", od, .fields vs, sl⟩) (e : (match (vs[11]? : Option Value) with | some (.ref P') => P' == P | _ => false) = true) (e2 : ((match vs.getD 18 .none with | .str _ _ => true | _ => false) && (match vs.getD 7 .none with | .int _ _ => true | _ => false) &&
      (match vs.getD 9 .none with | .bool _ => true | _ => false) && (match vs.getD 10 .none with | .int _ _ => true | _ => false) && (c != P)) = true) : PySem.W.CodeHd h c P :=
  PySem.W.codeHd_of_K X (by
    unfold PySem.W.codeHdIn
    rw [l]
    simp only [Bool.and_eq_true] at e2 ⊢
    exact ⟨⟨⟨⟨⟨e, e2.1.1.1.1⟩, e2.1.1.1.2⟩, e2.1.1.2⟩, e2.1.2⟩, e2.2⟩)
theorem lamAll {K : PySem.W.Frag} {h : Heap} {mg : Str → Option Value} (X : K.In h) (G : h.Ns mainGlobals mg) {f0 c0 P0 : Addr} {oc0 kV0 dc0 pm0 ct0 : Value} {od0 an0 oe0 : Option Addr} {sl0 sm0 : Array (Option Value)} {vs0 : Array Value} {f1 c1 P1 : Addr} {oc1 kV1 dc1 pm1 ct1 : Value} {od1 an1 oe1 : Option Addr} {sl1 sm1 : Array (Option Value)} {vs1 : Array Value}
    (a0 : PySem.W.nsIn K mainGlobals "_law_chain_right" = some (some (.ref f0))) (l0 : K.lookup f0 = some ⟨oc0, od0, .func (PySem.W.fnOf "_law_chain_right" "_law_chain_right" (defArgs s_L_chain_right) (defBody s_L_chain_right) (defScope s_L_chain_right) .none kV0 dc0 pm0 an0 (.ref c0) ct0), sl0⟩) (d0 : PySem.W.codeIn K (.ref c0) "_law_chain_right" = true) (k0 : PySem.W.keepIn K (.ref f0) = true) (m0 : K.lookup c0 = some ⟨.type "code", oe0, .fields vs0, sm0⟩) (p0 : (vs0[11]? : Option Value) = some (.ref P0)) (q0 : ((match vs0.getD 18 .none with | .str _ _ => true | _ => false) && (match vs0.getD 7 .none with | .int _ _ => true | _ => false) && (match vs0.getD 9 .none with | .bool _ => true | _ => false) && (match vs0.getD 10 .none with | .int _ _ => true | _ => false) && (c0 != P0)) = true) (n0 : K.lookup P0 = none) (t0 : h.get? P0 = some { cls := .none, data := .fields #[] })
    (a1 : PySem.W.nsIn K mainGlobals "law" = some (some (.ref f1))) (l1 : K.lookup f1 = some ⟨oc1, od1, .func (PySem.W.fnOf "law" "law" (defArgs s_law) (defBody s_law) (defScope s_law) .none kV1 dc1 pm1 an1 (.ref c1) ct1), sl1⟩) (d1 : PySem.W.codeIn K (.ref c1) "law" = true) (k1 : PySem.W.keepIn K (.ref f1) = true) (m1 : K.lookup c1 = some ⟨.type "code", oe1, .fields vs1, sm1⟩) (p1 : (vs1[11]? : Option Value) = some (.ref P1)) (q1 : ((match vs1.getD 18 .none with | .str _ _ => true | _ => false) && (match vs1.getD 7 .none with | .int _ _ => true | _ => false) && (match vs1.getD 9 .none with | .bool _ => true | _ => false) && (match vs1.getD 10 .none with | .int _ _ => true | _ => false) && (c1 != P1)) = true) (n1 : K.lookup P1 = none) (t1 : h.get? P1 = some { cls := .none, data := .fields #[] })
    (ne0_1 : P0 ≠ P1) :
    ∃ (P0 : Addr) (P1 : Addr) (D0 : DefC K mg "_law_chain_right" s_L_chain_right ["_law_stream_here"]) (D1 : DefC K mg "law" s_law ["_law_script"]), (PySem.W.CodeHd h D0.c P0 ∧ K.lookup P0 = none ∧ h.get? P0 = some { cls := .none, data := .fields #[] } ∧ ∀ (s : Shared) (us : List Value), us.length = (["_law_stream_here"] : List Str).length → BindsTo s D0.fd ⟨us, []⟩ ((["_law_stream_here"] : List Str).zip us)) ∧ (PySem.W.CodeHd h D1.c P1 ∧ K.lookup P1 = none ∧ h.get? P1 = some { cls := .none, data := .fields #[] } ∧ ∀ (s : Shared) (us : List Value), us.length = (["_law_script"] : List Str).length → BindsTo s D1.fd ⟨us, []⟩ ((["_law_script"] : List Str).zip us)) ∧ P0 ≠ P1 := by
  obtain ⟨D0, rfl, hB0⟩ := defAtC (ps := ["_law_stream_here"]) X G a0 l0 d0 k0 (fun _ _ _ _ _ _ us hl => match us, hl with | [_], _ => rfl)
  obtain ⟨D1, rfl, hB1⟩ := defAtC (ps := ["_law_script"]) X G a1 l1 d1 k1 (fun _ _ _ _ _ _ us hl => match us, hl with | [_], _ => rfl)
  exact ⟨P0, P1, D0, D1, ⟨codeHdC X m0 (by rw [p0]; simp) q0, n0, t0, hB0⟩, ⟨codeHdC X m1 (by rw [p1]; simp) q1, n1, t1, hB1⟩, ne0_1⟩
theorem lawAt {l : PySem.W.OpenLaw} {w : World} {K : PySem.W.Frag} {mg : Str → Option Value} {fa : Addr} {fd : FuncData} {h : Heap} {c0 P0 c1 P1 : Addr} (G0 : h.get? P0 = some { cls := .none, data := .fields #[] }) (N0 : K.lookup P0 = none) (C0 : PySem.W.CodeHd h c0 P0) (G1 : h.get? P1 = some { cls := .none, data := .fields #[] }) (N1 : K.lookup P1 = none) (C1 : PySem.W.CodeHd h c1 P1) (hb : ∀ (s : Shared) (u : Value), BindsTo s fd ⟨[u], []⟩ [("_law_script", u)])
    (hF : ∀ base : Heap, LamX.TabB base mg c0 P0 → LamX.TabB base mg c1 P1 → FnOk l.prog w K mg base CX0 15 fa fd ["_law_script"] (spLawT K [(P0, ("_law_chain_right.<locals>.<lambda>" : Str)), (P1, ("law.<locals>.<lambda>" : Str))])) : LamX.LawAtS l w K CX0 15 63 "_law_script" mg fa h := by
  refine ⟨fd, [(c0, P0), (c1, P1)], spLawT K [(P0, ("_law_chain_right.<locals>.<lambda>" : Str)), (P1, ("law.<locals>.<lambda>" : Str))], fun p hp => ?_, fun p hp => ?_, fun p hp => ?_, hb, fun H a ns hl _ hH hS => ⟨a, ns, rfl, hS, hl, fun p hp => ?_, fun _ => rfl⟩, fun base _ _ hTB => hF base (hTB _ (.head _)) (hTB _ (.tail _ (.head _)))⟩
  · rcases List.mem_cons.mp hp with rfl | hp
    · exact G0
    rcases List.mem_singleton.mp hp with rfl
    exact G1
  · rcases List.mem_cons.mp hp with rfl | hp
    · exact N0
    rcases List.mem_singleton.mp hp with rfl
    exact N1
  · rcases List.mem_cons.mp hp with rfl | hp
    · exact C0
    rcases List.mem_singleton.mp hp with rfl
    exact C1
  · rcases List.mem_cons.mp hp with rfl | hp
    · exact LamX.TabS.nil (hH _ (.head _))
    rcases List.mem_singleton.mp hp with rfl
    exact LamX.TabS.nil (hH _ (.tail _ (.head _)))
theorem uniq0 {P0 P1 : Addr} (ne0_1 : P0 ≠ P1) : ∀ p ∈ ([(P0, ("_law_chain_right.<locals>.<lambda>" : Str)), (P1, ("law.<locals>.<lambda>" : Str))] : List (Addr × Str)), p.1 = P0 → p.2 = ("_law_chain_right.<locals>.<lambda>" : Str) := fun p hp e => by
  rcases List.mem_cons.mp hp with rfl | hp
  · exact rfl
  rcases List.mem_singleton.mp hp with rfl
  exact absurd e.symm ne0_1
theorem uniq1 {P0 P1 : Addr} (ne0_1 : P0 ≠ P1) : ∀ p ∈ ([(P0, ("_law_chain_right.<locals>.<lambda>" : Str)), (P1, ("law.<locals>.<lambda>" : Str))] : List (Addr × Str)), p.1 = P1 → p.2 = ("law.<locals>.<lambda>" : Str) := fun p hp e => by
  rcases List.mem_cons.mp hp with rfl | hp
  · exact absurd e ne0_1
  rcases List.mem_singleton.mp hp with rfl
  exact rfl
theorem walkT {l : PySem.W.OpenLaw} {q : Program} {loose : List Str} {XP : (Str → Option Value) → Heap → Prop} {YP : World → Heap → Prop} {d : DefRec} {K : Params → PySem.W.Frag} (hn : l.most = some 63) (hdf : d.params.defaults = [])
    (hY : ∀ (w : World) (h : Heap), YP w h → (K w.params).In h)
    (F : ∀ (w : World) (mg : Str → Option Value) (fa : Addr) (h : Heap), YP w h → (K w.params).In h → h.Ns mainGlobals mg → mg d.name = some (.ref fa) → LamX.LawAtS l w (K w.params) CX0 15 63 "_law_script" mg fa h) :
    PySem.W.WalkO q loose XP YP l.row.toRowW d [] (fun f vs => PySem.call f vs) :=
  LamX.walk_ofTs (n := 63) (k := 15) (x := "_law_script") (CX := fun _ => CX0) hn (by decide) hdf ⟨rfl, by decide, by decide⟩ hY F (fun _ _ _ _ _ z => z)
end Ts

set_option maxRecDepth 100000
open PySem PySem.W PyProof.Rows in
set_option maxRecDepth 100000 in
set_option maxHeartbeats 0 in
theorem PySem.Challenge.cw_turnsets_k44_known_wishes_holds : PySem.Challenge.rw_turnsets_k44_known_wishes.Holds := by
  w_on; o_law; k_head; (case hw => w_witness2)
  k_fill
  refine Ts.walkT (l := PySem.Challenge.rw_turnsets_k44_known_wishes) rfl rfl (fun w h Y => PySem.W.km_in_of Y) ?F
  case F =>
    intro w mg fa h Y KX G hmg
    obtain ⟨Disname, _⟩ : ∃ D : Ts.DefAt _ mg "is_name" Ts.s_is_name ["thing"], ∀ (s : Shared) (us : List Value), us.length = (["thing"] : List Str).length → BindsTo s D.fd ⟨us, []⟩ ((["thing"] : List Str).zip us) := by
      refine' Ts.defAt KX G ?a ?l ?c ?k ?b
      (case a => k_is)
      (case l => k_is)
      (case c => k_is)
      (case k => k_is)
      (case b => exact fun _ _ _ _ _ _ us hl => match us, hl with | [_], _ => rfl)
    obtain ⟨Disnumber, _⟩ : ∃ D : Ts.DefAt _ mg "is_number" Ts.s_is_number ["thing", "least"], ∀ (s : Shared) (us : List Value), us.length = (["thing", "least"] : List Str).length → BindsTo s D.fd ⟨us, []⟩ ((["thing", "least"] : List Str).zip us) := by
      refine' Ts.defAt KX G ?a ?l ?c ?k ?b
      (case a => k_is)
      (case l => k_is)
      (case c => k_is)
      (case k => k_is)
      (case b => exact fun _ _ _ _ _ _ us hl => match us, hl with | [_, _], _ => rfl)
    obtain ⟨Disprice, _⟩ : ∃ D : Ts.DefAt _ mg "is_price" Ts.s_is_price ["thing"], ∀ (s : Shared) (us : List Value), us.length = (["thing"] : List Str).length → BindsTo s D.fd ⟨us, []⟩ ((["thing"] : List Str).zip us) := by
      refine' Ts.defAt KX G ?a ?l ?c ?k ?b
      (case a => k_is)
      (case l => k_is)
      (case c => k_is)
      (case k => k_is)
      (case b => exact fun _ _ _ _ _ _ us hl => match us, hl with | [_], _ => rfl)
    obtain ⟨Disrow, _⟩ : ∃ D : Ts.DefAt _ mg "is_row" Ts.s_is_row ["thing", "taken", "homes"], ∀ (s : Shared) (us : List Value), us.length = (["thing", "taken", "homes"] : List Str).length → BindsTo s D.fd ⟨us, []⟩ ((["thing", "taken", "homes"] : List Str).zip us) := by
      refine' Ts.defAt KX G ?a ?l ?c ?k ?b
      (case a => k_is)
      (case l => k_is)
      (case c => k_is)
      (case k => k_is)
      (case b => exact fun _ _ _ _ _ _ us hl => match us, hl with | [_, _, _], _ => rfl)
    obtain ⟨Dcheckrows, _⟩ : ∃ D : Ts.DefAt _ mg "check_rows" Ts.s_check_rows ["rows", "names", "folders"], ∀ (s : Shared) (us : List Value), us.length = (["rows", "names", "folders"] : List Str).length → BindsTo s D.fd ⟨us, []⟩ ((["rows", "names", "folders"] : List Str).zip us) := by
      refine' Ts.defAt KX G ?a ?l ?c ?k ?b
      (case a => k_is)
      (case l => k_is)
      (case c => k_is)
      (case k => k_is)
      (case b => exact fun _ _ _ _ _ _ us hl => match us, hl with | [_, _, _], _ => rfl)
    obtain ⟨Dcheckbox, _⟩ : ∃ D : Ts.DefAt _ mg "check_box" Ts.s_check_box ["tree", "thing"], ∀ (s : Shared) (us : List Value), us.length = (["tree", "thing"] : List Str).length → BindsTo s D.fd ⟨us, []⟩ ((["tree", "thing"] : List Str).zip us) := by
      refine' Ts.defAt KX G ?a ?l ?c ?k ?b
      (case a => k_is)
      (case l => k_is)
      (case c => k_is)
      (case k => k_is)
      (case b => exact fun _ _ _ _ _ _ us hl => match us, hl with | [_, _], _ => rfl)
    obtain ⟨Displace, _⟩ : ∃ D : Ts.DefAt _ mg "is_place" Ts.s_is_place ["tree", "thing"], ∀ (s : Shared) (us : List Value), us.length = (["tree", "thing"] : List Str).length → BindsTo s D.fd ⟨us, []⟩ ((["tree", "thing"] : List Str).zip us) := by
      refine' Ts.defAt KX G ?a ?l ?c ?k ?b
      (case a => k_is)
      (case l => k_is)
      (case c => k_is)
      (case k => k_is)
      (case b => exact fun _ _ _ _ _ _ us hl => match us, hl with | [_, _], _ => rfl)
    obtain ⟨Dcheckplace, _⟩ : ∃ D : Ts.DefAt _ mg "check_place" Ts.s_check_place ["tree", "thing"], ∀ (s : Shared) (us : List Value), us.length = (["tree", "thing"] : List Str).length → BindsTo s D.fd ⟨us, []⟩ ((["tree", "thing"] : List Str).zip us) := by
      refine' Ts.defAt KX G ?a ?l ?c ?k ?b
      (case a => k_is)
      (case l => k_is)
      (case c => k_is)
      (case k => k_is)
      (case b => exact fun _ _ _ _ _ _ us hl => match us, hl with | [_, _], _ => rfl)
    obtain ⟨Dcheckturns, _⟩ : ∃ D : Ts.DefAt _ mg "check_turns" Ts.s_check_turns ["tree", "turns"], ∀ (s : Shared) (us : List Value), us.length = (["tree", "turns"] : List Str).length → BindsTo s D.fd ⟨us, []⟩ ((["tree", "turns"] : List Str).zip us) := by
      refine' Ts.defAt KX G ?a ?l ?c ?k ?b
      (case a => k_is)
      (case l => k_is)
      (case c => k_is)
      (case k => k_is)
      (case b => exact fun _ _ _ _ _ _ us hl => match us, hl with | [_, _], _ => rfl)
    obtain ⟨Dvaluesof, _⟩ : ∃ D : Ts.DefAt _ mg "values_of" Ts.s_values_of ["tree", "default", "turns"], ∀ (s : Shared) (us : List Value), us.length = (["tree", "default", "turns"] : List Str).length → BindsTo s D.fd ⟨us, []⟩ ((["tree", "default", "turns"] : List Str).zip us) := by
      refine' Ts.defAt KX G ?a ?l ?c ?k ?b
      (case a => k_is)
      (case l => k_is)
      (case c => k_is)
      (case k => k_is)
      (case b => exact fun _ _ _ _ _ _ us hl => match us, hl with | [_, _, _], _ => rfl)
    obtain ⟨Dwithvalues, _⟩ : ∃ D : Ts.DefAt _ mg "with_values" Ts.s_with_values ["tree", "values"], ∀ (s : Shared) (us : List Value), us.length = (["tree", "values"] : List Str).length → BindsTo s D.fd ⟨us, []⟩ ((["tree", "values"] : List Str).zip us) := by
      refine' Ts.defAt KX G ?a ?l ?c ?k ?b
      (case a => k_is)
      (case l => k_is)
      (case c => k_is)
      (case k => k_is)
      (case b => exact fun _ _ _ _ _ _ us hl => match us, hl with | [_, _], _ => rfl)
    obtain ⟨Dcheckwish, _⟩ : ∃ D : Ts.DefAt _ mg "check_wish" Ts.s_check_wish ["tree", "wish"], ∀ (s : Shared) (us : List Value), us.length = (["tree", "wish"] : List Str).length → BindsTo s D.fd ⟨us, []⟩ ((["tree", "wish"] : List Str).zip us) := by
      refine' Ts.defAt KX G ?a ?l ?c ?k ?b
      (case a => k_is)
      (case l => k_is)
      (case c => k_is)
      (case k => k_is)
      (case b => exact fun _ _ _ _ _ _ us hl => match us, hl with | [_, _], _ => rfl)
    obtain ⟨Dendsof, _⟩ : ∃ D : Ts.DefAt _ mg "ends_of" Ts.s_ends_of ["tree", "wish", "default"], ∀ (s : Shared) (us : List Value), us.length = (["tree", "wish", "default"] : List Str).length → BindsTo s D.fd ⟨us, []⟩ ((["tree", "wish", "default"] : List Str).zip us) := by
      refine' Ts.defAt KX G ?a ?l ?c ?k ?b
      (case a => k_is)
      (case l => k_is)
      (case c => k_is)
      (case k => k_is)
      (case b => exact fun _ _ _ _ _ _ us hl => match us, hl with | [_, _, _], _ => rfl)
    obtain ⟨Dabovelocked, _⟩ : ∃ D : Ts.DefAt _ mg "above_locked" Ts.s_above_locked ["tree", "place"], ∀ (s : Shared) (us : List Value), us.length = (["tree", "place"] : List Str).length → BindsTo s D.fd ⟨us, []⟩ ((["tree", "place"] : List Str).zip us) := by
      refine' Ts.defAt KX G ?a ?l ?c ?k ?b
      (case a => k_is)
      (case l => k_is)
      (case c => k_is)
      (case k => k_is)
      (case b => exact fun _ _ _ _ _ _ us hl => match us, hl with | [_, _], _ => rfl)
    obtain ⟨Dcheckbarred, _⟩ : ∃ D : Ts.DefAt _ mg "check_barred" Ts.s_check_barred ["tree", "ends"], ∀ (s : Shared) (us : List Value), us.length = (["tree", "ends"] : List Str).length → BindsTo s D.fd ⟨us, []⟩ ((["tree", "ends"] : List Str).zip us) := by
      refine' Ts.defAt KX G ?a ?l ?c ?k ?b
      (case a => k_is)
      (case l => k_is)
      (case c => k_is)
      (case k => k_is)
      (case b => exact fun _ _ _ _ _ _ us hl => match us, hl with | [_, _], _ => rfl)
    obtain ⟨Dopenends, _⟩ : ∃ D : Ts.DefAt _ mg "open_ends" Ts.s_open_ends ["tree", "wish", "default"], ∀ (s : Shared) (us : List Value), us.length = (["tree", "wish", "default"] : List Str).length → BindsTo s D.fd ⟨us, []⟩ ((["tree", "wish", "default"] : List Str).zip us) := by
      refine' Ts.defAt KX G ?a ?l ?c ?k ?b
      (case a => k_is)
      (case l => k_is)
      (case c => k_is)
      (case k => k_is)
      (case b => exact fun _ _ _ _ _ _ us hl => match us, hl with | [_, _, _], _ => rfl)
    obtain ⟨Dendless, _⟩ : ∃ D : Ts.DefAt _ mg "endless" Ts.s_endless ["tree"], ∀ (s : Shared) (us : List Value), us.length = (["tree"] : List Str).length → BindsTo s D.fd ⟨us, []⟩ ((["tree"] : List Str).zip us) := by
      refine' Ts.defAt KX G ?a ?l ?c ?k ?b
      (case a => k_is)
      (case l => k_is)
      (case c => k_is)
      (case k => k_is)
      (case b => exact fun _ _ _ _ _ _ us hl => match us, hl with | [_], _ => rfl)
    obtain ⟨Dstepprices, _⟩ : ∃ D : Ts.DefAt _ mg "step_prices" Ts.s_step_prices ["tree"], ∀ (s : Shared) (us : List Value), us.length = (["tree"] : List Str).length → BindsTo s D.fd ⟨us, []⟩ ((["tree"] : List Str).zip us) := by
      refine' Ts.defAt KX G ?a ?l ?c ?k ?b
      (case a => k_is)
      (case l => k_is)
      (case c => k_is)
      (case k => k_is)
      (case b => exact fun _ _ _ _ _ _ us hl => match us, hl with | [_], _ => rfl)
    obtain ⟨Dchoices, _⟩ : ∃ D : Ts.DefAt _ mg "choices" Ts.s_choices ["tree", "ends"], ∀ (s : Shared) (us : List Value), us.length = (["tree", "ends"] : List Str).length → BindsTo s D.fd ⟨us, []⟩ ((["tree", "ends"] : List Str).zip us) := by
      refine' Ts.defAt KX G ?a ?l ?c ?k ?b
      (case a => k_is)
      (case l => k_is)
      (case c => k_is)
      (case k => k_is)
      (case b => exact fun _ _ _ _ _ _ us hl => match us, hl with | [_, _], _ => rfl)
    obtain ⟨Dfavoured, _⟩ : ∃ D : Ts.DefAt _ mg "favoured" Ts.s_favoured ["tree", "prices", "favour"], ∀ (s : Shared) (us : List Value), us.length = (["tree", "prices", "favour"] : List Str).length → BindsTo s D.fd ⟨us, []⟩ ((["tree", "prices", "favour"] : List Str).zip us) := by
      refine' Ts.defAt KX G ?a ?l ?c ?k ?b
      (case a => k_is)
      (case l => k_is)
      (case c => k_is)
      (case k => k_is)
      (case b => exact fun _ _ _ _ _ _ us hl => match us, hl with | [_, _, _], _ => rfl)
    obtain ⟨Dshorter, _⟩ : ∃ D : Ts.DefAt _ mg "shorter" Ts.s_shorter ["parts", "amount"], ∀ (s : Shared) (us : List Value), us.length = (["parts", "amount"] : List Str).length → BindsTo s D.fd ⟨us, []⟩ ((["parts", "amount"] : List Str).zip us) := by
      refine' Ts.defAt KX G ?a ?l ?c ?k ?b
      (case a => k_is)
      (case l => k_is)
      (case c => k_is)
      (case k => k_is)
      (case b => exact fun _ _ _ _ _ _ us hl => match us, hl with | [_, _], _ => rfl)
    obtain ⟨Dpaired, _⟩ : ∃ D : Ts.DefAt _ mg "paired" Ts.s_paired ["ons", "offs"], ∀ (s : Shared) (us : List Value), us.length = (["ons", "offs"] : List Str).length → BindsTo s D.fd ⟨us, []⟩ ((["ons", "offs"] : List Str).zip us) := by
      refine' Ts.defAt KX G ?a ?l ?c ?k ?b
      (case a => k_is)
      (case l => k_is)
      (case c => k_is)
      (case k => k_is)
      (case b => exact fun _ _ _ _ _ _ us hl => match us, hl with | [_, _], _ => rfl)
    obtain ⟨Dletthrough, _⟩ : ∃ D : Ts.DefAt _ mg "let_through" Ts.s_let_through ["parts", "price"], ∀ (s : Shared) (us : List Value), us.length = (["parts", "price"] : List Str).length → BindsTo s D.fd ⟨us, []⟩ ((["parts", "price"] : List Str).zip us) := by
      refine' Ts.defAt KX G ?a ?l ?c ?k ?b
      (case a => k_is)
      (case l => k_is)
      (case c => k_is)
      (case k => k_is)
      (case b => exact fun _ _ _ _ _ _ us hl => match us, hl with | [_, _], _ => rfl)
    obtain ⟨Dwaysbetween, _⟩ : ∃ D : Ts.DefAt _ mg "ways_between" Ts.s_ways_between ["tree", "ends"], ∀ (s : Shared) (us : List Value), us.length = (["tree", "ends"] : List Str).length → BindsTo s D.fd ⟨us, []⟩ ((["tree", "ends"] : List Str).zip us) := by
      refine' Ts.defAt KX G ?a ?l ?c ?k ?b
      (case a => k_is)
      (case l => k_is)
      (case c => k_is)
      (case k => k_is)
      (case b => exact fun _ _ _ _ _ _ us hl => match us, hl with | [_, _], _ => rfl)
    obtain ⟨DLstream, _⟩ : ∃ D : Ts.DefAt _ mg "_law_stream" Ts.s_L_stream ["_law_script", "_law_k"], ∀ (s : Shared) (us : List Value), us.length = (["_law_script", "_law_k"] : List Str).length → BindsTo s D.fd ⟨us, []⟩ ((["_law_script", "_law_k"] : List Str).zip us) := by
      refine' Ts.defAt KX G ?a ?l ?c ?k ?b
      (case a => k_is)
      (case l => k_is)
      (case c => k_is)
      (case k => k_is)
      (case b => exact fun _ _ _ _ _ _ us hl => match us, hl with | [_, _], _ => rfl)
    obtain ⟨DLdraw, _⟩ : ∃ D : Ts.DefAt _ mg "_law_draw" Ts.s_L_draw ["_law_stream_here", "_law_many"], ∀ (s : Shared) (us : List Value), us.length = (["_law_stream_here", "_law_many"] : List Str).length → BindsTo s D.fd ⟨us, []⟩ ((["_law_stream_here", "_law_many"] : List Str).zip us) := by
      refine' Ts.defAt KX G ?a ?l ?c ?k ?b
      (case a => k_is)
      (case l => k_is)
      (case c => k_is)
      (case k => k_is)
      (case b => exact fun _ _ _ _ _ _ us hl => match us, hl with | [_, _], _ => rfl)
    obtain ⟨DLpick, _⟩ : ∃ D : Ts.DefAt _ mg "_law_pick" Ts.s_L_pick ["_law_stream_here", "_law_things"], ∀ (s : Shared) (us : List Value), us.length = (["_law_stream_here", "_law_things"] : List Str).length → BindsTo s D.fd ⟨us, []⟩ ((["_law_stream_here", "_law_things"] : List Str).zip us) := by
      refine' Ts.defAt KX G ?a ?l ?c ?k ?b
      (case a => k_is)
      (case l => k_is)
      (case c => k_is)
      (case k => k_is)
      (case b => exact fun _ _ _ _ _ _ us hl => match us, hl with | [_, _], _ => rfl)
    obtain ⟨DLname, _⟩ : ∃ D : Ts.DefAt _ mg "_law_name" Ts.s_L_name ["_law_stream_here"], ∀ (s : Shared) (us : List Value), us.length = (["_law_stream_here"] : List Str).length → BindsTo s D.fd ⟨us, []⟩ ((["_law_stream_here"] : List Str).zip us) := by
      refine' Ts.defAt KX G ?a ?l ?c ?k ?b
      (case a => k_is)
      (case l => k_is)
      (case c => k_is)
      (case k => k_is)
      (case b => exact fun _ _ _ _ _ _ us hl => match us, hl with | [_], _ => rfl)
    obtain ⟨DLchainrows, _⟩ : ∃ D : Ts.DefAt _ mg "_law_chain_rows" Ts.s_L_chain_rows ["_law_stream_here", "_law_many"], ∀ (s : Shared) (us : List Value), us.length = (["_law_stream_here", "_law_many"] : List Str).length → BindsTo s D.fd ⟨us, []⟩ ((["_law_stream_here", "_law_many"] : List Str).zip us) := by
      refine' Ts.defAt KX G ?a ?l ?c ?k ?b
      (case a => k_is)
      (case l => k_is)
      (case c => k_is)
      (case k => k_is)
      (case b => exact fun _ _ _ _ _ _ us hl => match us, hl with | [_, _], _ => rfl)
    obtain ⟨DLexampleright, _⟩ : ∃ D : Ts.DefAt _ mg "_law_example_right" Ts.s_L_example_right ["_law_stream_here"], ∀ (s : Shared) (us : List Value), us.length = (["_law_stream_here"] : List Str).length → BindsTo s D.fd ⟨us, []⟩ ((["_law_stream_here"] : List Str).zip us) := by
      refine' Ts.defAt KX G ?a ?l ?c ?k ?b
      (case a => k_is)
      (case l => k_is)
      (case c => k_is)
      (case k => k_is)
      (case b => exact fun _ _ _ _ _ _ us hl => match us, hl with | [_], _ => rfl)
    obtain ⟨DLiscut, _⟩ : ∃ D : Ts.DefAt _ mg "_law_is_cut" Ts.s_L_is_cut ["_law_rows", "_law_found"], ∀ (s : Shared) (us : List Value), us.length = (["_law_rows", "_law_found"] : List Str).length → BindsTo s D.fd ⟨us, []⟩ ((["_law_rows", "_law_found"] : List Str).zip us) := by
      refine' Ts.defAt KX G ?a ?l ?c ?k ?b
      (case a => k_is)
      (case l => k_is)
      (case c => k_is)
      (case k => k_is)
      (case b => exact fun _ _ _ _ _ _ us hl => match us, hl with | [_, _], _ => rfl)
    obtain ⟨DLasked, _⟩ : ∃ D : Ts.DefAt _ mg "_law_asked" Ts.s_L_asked ["_law_ask"], ∀ (s : Shared) (us : List Value), us.length = (["_law_ask"] : List Str).length → BindsTo s D.fd ⟨us, []⟩ ((["_law_ask"] : List Str).zip us) := by
      refine' Ts.defAt KX G ?a ?l ?c ?k ?b
      (case a => k_is)
      (case l => k_is)
      (case c => k_is)
      (case k => k_is)
      (case b => exact fun _ _ _ _ _ _ us hl => match us, hl with | [_], _ => rfl)
    obtain ⟨B, hSum, hMin, hSo⟩ := by
      refine' Ts.freeAll KX G ?z0 ?z1 ?z2 ?z3 ?z4 ?z5 ?z6 ?z7 ?z8 ?z9 ?z10 ?z11 ?z12 ?z13 ?z14
      (case z0 => k_is)
      (case z1 => k_is)
      (case z2 => k_is)
      (case z3 => k_is)
      (case z4 => k_is)
      (case z5 => k_is)
      (case z6 => k_is)
      (case z7 => k_is)
      (case z8 => k_is)
      (case z9 => k_is)
      (case z10 => k_is)
      (case z11 => k_is)
      (case z12 => k_is)
      (case z13 => k_is)
      (case z14 => k_is)
    obtain ⟨TC⟩ := by
      refine' Ts.constAll KX G Disnumber ?b1 ?b2 ?b3 ?b4 ?b5 ?b6 ?b7
      (case b1 => k_is)
      (case b2 => k_is)
      (case b3 => k_is)
      (case b4 => k_is)
      (case b5 => k_is)
      (case b6 => decide)
      (case b7 => exact .cons ⟨_, rfl⟩ (.cons ⟨_, rfl⟩ (.cons ⟨_, rfl⟩ .nil)))
    obtain ⟨TU⟩ := by
      refine' Ts.constU KX G ?Yg ?Yl ?Yz ?Yv
      (case Yg => k_is)
      (case Yl => k_is)
      (case Yz => decide)
      (case Yv => exact .cons rfl (.cons rfl .nil))
    obtain ⟨CB, CW, CD, CN, CT, CX_, CL, TE, ⟨f_Barred, fd_Barred, i_Barred, t_Barred, F_Barred, b_Barred⟩, TL, ⟨f_Locked, fd_Locked, i_Locked, t_Locked, F_Locked, b_Locked⟩⟩ := by
      refine' Ts.errsAll KX G ?Ze0aC ?Ze0xL ?Ze0sa ?Ze0ga ?Ze0gg ?Ze0nb ?Ze0a1 ?Ze0t1 ?Ze0l1 ?Ze0c1 ?Ze0k1 ?Ze0kC ?Ze0eC ?Ze0tC ?Ze0hC ?Ze0iC ?Ze0sC ?Ze0x0 ?Ze1aC ?Ze1xL ?Ze1sa ?Ze1ga ?Ze1gg ?Ze1nb ?Ze1a1 ?Ze1t1 ?Ze1l1 ?Ze1c1 ?Ze1k1 ?Ze1kC ?Ze1eC ?Ze1tC ?Ze1hC ?Ze1iC ?Ze1sC ?Ze2aC ?Ze2xL ?Ze2sa ?Ze2ga ?Ze2gg ?Ze2nb ?Ze2a1 ?Ze2t1 ?Ze2l1 ?Ze2c1 ?Ze2k1 ?Ze2kC ?Ze2eC ?Ze2tC ?Ze2hC ?Ze2iC ?Ze2sC ?Ze3aC ?Ze3xL ?Ze3sa ?Ze3ga ?Ze3gg ?Ze3nb ?Ze3a1 ?Ze3t1 ?Ze3l1 ?Ze3c1 ?Ze3k1 ?Ze3kC ?Ze3eC ?Ze3tC ?Ze3hC ?Ze3iC ?Ze3sC ?Ze4aC ?Ze4xL ?Ze4sa ?Ze4ga ?Ze4gg ?Ze4nb ?Ze4a1 ?Ze4t1 ?Ze4l1 ?Ze4c1 ?Ze4k1 ?Ze4kC ?Ze4eC ?Ze4tC ?Ze4hC ?Ze4iC ?Ze4sC ?Ze5aC ?Ze5xL ?Ze5sa ?Ze5ga ?Ze5gg ?Ze5nb ?Ze5a1 ?Ze5t1 ?Ze5l1 ?Ze5c1 ?Ze5k1 ?Ze5kC ?Ze5eC ?Ze5tC ?Ze5hC ?Ze5iC ?Ze5sC ?Zua ?Zuq ?Zuk ?Zub ?Zut ?Zui ?Zus
      (case Ze0aC => k_is)
      (case Ze0xL => k_is)
      (case Ze0sa => k_is)
      (case Ze0ga => k_is)
      (case Ze0gg => k_is)
      (case Ze0nb => k_is)
      (case Ze0a1 => k_is)
      (case Ze0t1 => k_is)
      (case Ze0l1 => k_is)
      (case Ze0c1 => k_is)
      (case Ze0k1 => k_is)
      (case Ze0kC => k_is)
      (case Ze0eC => k_is)
      (case Ze0tC => k_is)
      (case Ze0hC => k_is)
      (case Ze0iC => k_is)
      (case Ze0sC => first | rfl | k_is)
      (case Ze0x0 => k_is)
      (case Ze1aC => k_is)
      (case Ze1xL => k_is)
      (case Ze1sa => k_is)
      (case Ze1ga => k_is)
      (case Ze1gg => k_is)
      (case Ze1nb => k_is)
      (case Ze1a1 => k_is)
      (case Ze1t1 => k_is)
      (case Ze1l1 => k_is)
      (case Ze1c1 => k_is)
      (case Ze1k1 => k_is)
      (case Ze1kC => k_is)
      (case Ze1eC => k_is)
      (case Ze1tC => k_is)
      (case Ze1hC => k_is)
      (case Ze1iC => k_is)
      (case Ze1sC => first | rfl | k_is)
      (case Ze2aC => k_is)
      (case Ze2xL => k_is)
      (case Ze2sa => k_is)
      (case Ze2ga => k_is)
      (case Ze2gg => k_is)
      (case Ze2nb => k_is)
      (case Ze2a1 => k_is)
      (case Ze2t1 => k_is)
      (case Ze2l1 => k_is)
      (case Ze2c1 => k_is)
      (case Ze2k1 => k_is)
      (case Ze2kC => k_is)
      (case Ze2eC => k_is)
      (case Ze2tC => k_is)
      (case Ze2hC => k_is)
      (case Ze2iC => k_is)
      (case Ze2sC => first | rfl | k_is)
      (case Ze3aC => k_is)
      (case Ze3xL => k_is)
      (case Ze3sa => k_is)
      (case Ze3ga => k_is)
      (case Ze3gg => k_is)
      (case Ze3nb => k_is)
      (case Ze3a1 => k_is)
      (case Ze3t1 => k_is)
      (case Ze3l1 => k_is)
      (case Ze3c1 => k_is)
      (case Ze3k1 => k_is)
      (case Ze3kC => k_is)
      (case Ze3eC => k_is)
      (case Ze3tC => k_is)
      (case Ze3hC => k_is)
      (case Ze3iC => k_is)
      (case Ze3sC => first | rfl | k_is)
      (case Ze4aC => k_is)
      (case Ze4xL => k_is)
      (case Ze4sa => k_is)
      (case Ze4ga => k_is)
      (case Ze4gg => k_is)
      (case Ze4nb => k_is)
      (case Ze4a1 => k_is)
      (case Ze4t1 => k_is)
      (case Ze4l1 => k_is)
      (case Ze4c1 => k_is)
      (case Ze4k1 => k_is)
      (case Ze4kC => k_is)
      (case Ze4eC => k_is)
      (case Ze4tC => k_is)
      (case Ze4hC => k_is)
      (case Ze4iC => k_is)
      (case Ze4sC => first | rfl | k_is)
      (case Ze5aC => k_is)
      (case Ze5xL => k_is)
      (case Ze5sa => k_is)
      (case Ze5ga => k_is)
      (case Ze5gg => k_is)
      (case Ze5nb => k_is)
      (case Ze5a1 => k_is)
      (case Ze5t1 => k_is)
      (case Ze5l1 => k_is)
      (case Ze5c1 => k_is)
      (case Ze5k1 => k_is)
      (case Ze5kC => k_is)
      (case Ze5eC => k_is)
      (case Ze5tC => k_is)
      (case Ze5hC => k_is)
      (case Ze5iC => k_is)
      (case Ze5sC => first | rfl | k_is)
      (case Zua => k_is)
      (case Zuq => k_exc)
      (case Zuk => k_is)
      (case Zub => k_is)
      (case Zut => k_is)
      (case Zui => k_is)
      (case Zus => first | rfl | k_is)
    have hT8 := PySem.W.km_tabs_of Y
    obtain ⟨P0, P1, Dcr, Dlaw, ⟨hC0, hN0, hG0, hB0⟩, ⟨hC1, hN1, hG1, hB1⟩, hne0_1⟩ := by
      refine' Ts.lamAll KX G ?La0 ?Ll0 ?Ld0 ?Lk0 ?Lm0 ?Lp0 ?Lq0 ?Ln0 ?Lt0 ?La1 ?Ll1 ?Ld1 ?Lk1 ?Lm1 ?Lp1 ?Lq1 ?Ln1 ?Lt1 ?Lne0_1
      (case La0 => k_is)
      (case Ll0 => k_is)
      (case Ld0 => k_is)
      (case Lk0 => k_is)
      (case Lm0 => k_is)
      (case Lp0 => rfl)
      (case Lq0 => first | rfl | decide +kernel)
      (case Ln0 => first | kernel_rfl | rfl | decide +kernel)
      (case Lt0 => exact hT8 _ (by k_mem))
      (case La1 => k_is)
      (case Ll1 => k_is)
      (case Ld1 => k_is)
      (case Lk1 => k_is)
      (case Lm1 => k_is)
      (case Lp1 => rfl)
      (case Lq1 => first | rfl | decide +kernel)
      (case Ln1 => first | kernel_rfl | rfl | decide +kernel)
      (case Lt1 => exact hT8 _ (by k_mem))
      (case Lne0_1 => decide)
    obtain ⟨C, T, N, I, ⟨fI, fdI, FI, MT, bI⟩, ⟨M_contains⟩, ⟨M_folder⟩, ⟨M_price⟩, ⟨M_below⟩, CM, M, NM, IM, ⟨fM, fdM, Te, FM, MM, bM⟩, ⟨L_value⟩⟩ := by
      refine' Ts.bothAll KX G ?aC ?pg ?hd ?po ?sa ?mk ?kc ?nq ?nf ?nk ?np ?ne ?ob ?iC ?tC ?ha ?hn ?htk ?hm ?a0 ?i0 ?l0 ?c0 ?k0 ?a1 ?i1 ?l1 ?c1 ?k1 ?a2 ?i2 ?l2 ?c2 ?k2 ?a3 ?i3 ?l3 ?c3 ?k3 ?a4 ?i4 ?l4 ?c4 ?k4 ?maC ?mpg ?mhd ?mpo ?msa ?mmk ?mkc ?mnt ?mnd ?mnu ?mnk ?mne ?mob ?miC ?mtC ?mha ?mhn ?mhtk ?mhm ?ma0 ?mi0 ?ml0 ?mc0 ?mk0 ?mlT ?mvT ?mlE ?mvE ?ma1 ?mi1 ?ml1 ?mc1 ?mk1
      (case aC => k_is)
      (case pg => k_is)
      (case hd => k_is)
      (case po => k_is)
      (case sa => k_is)
      (case mk => k_is)
      (case kc => k_is)
      (case nq => k_is)
      (case nf => k_is)
      (case nk => k_is)
      (case np => k_is)
      (case ne => k_is)
      (case ob => k_is)
      (case iC => k_is)
      (case tC => k_is)
      (case ha => k_is)
      (case hn => k_is)
      (case htk => k_is)
      (case hm => k_is)
      (case a0 => k_is)
      (case i0 => k_is)
      (case l0 => k_is)
      (case c0 => k_is)
      (case k0 => k_is)
      (case a1 => k_is)
      (case i1 => k_is)
      (case l1 => k_is)
      (case c1 => k_is)
      (case k1 => k_is)
      (case a2 => k_is)
      (case i2 => k_is)
      (case l2 => k_is)
      (case c2 => k_is)
      (case k2 => k_is)
      (case a3 => k_is)
      (case i3 => k_is)
      (case l3 => k_is)
      (case c3 => k_is)
      (case k3 => k_is)
      (case a4 => k_is)
      (case i4 => k_is)
      (case l4 => k_is)
      (case c4 => k_is)
      (case k4 => k_is)
      (case maC => k_is)
      (case mpg => k_is)
      (case mhd => k_is)
      (case mpo => k_is)
      (case msa => k_is)
      (case mmk => k_is)
      (case mkc => k_is)
      (case mnt => k_is)
      (case mnd => k_is)
      (case mnu => k_is)
      (case mnk => k_is)
      (case mne => k_is)
      (case mob => k_is)
      (case miC => k_is)
      (case mtC => k_is)
      (case mha => k_is)
      (case mhn => k_is)
      (case mhtk => k_is)
      (case mhm => k_is)
      (case ma0 => k_is)
      (case mi0 => k_is)
      (case ml0 => k_is)
      (case mc0 => k_is)
      (case mk0 => k_is)
      (case mlT => k_is)
      (case mvT => rfl)
      (case mlE => k_is)
      (case mvE => rfl)
      (case ma1 => k_is)
      (case mi1 => k_is)
      (case ml1 => k_is)
      (case mc1 => k_is)
      (case mk1 => k_is)
    obtain ⟨CH, XH, IH, ⟨fH, fdH, FH, MH, bH⟩⟩ := by
      refine' Ts.cheapCls KX G ?WaC ?Wpg ?Whd ?Wpo ?Wsa ?Wmk ?Wkc ?Wnc ?Wnw ?Wnn ?Wny ?Wne ?Wob ?WiC ?WtC ?Wha ?Whn ?Whtk ?Whm ?Wa0 ?Wi0 ?Wl0 ?Wc0 ?Wk0
      (case WaC => k_is)
      (case Wpg => k_is)
      (case Whd => k_is)
      (case Wpo => k_is)
      (case Wsa => k_is)
      (case Wmk => k_is)
      (case Wkc => k_is)
      (case Wnc => k_is)
      (case Wnw => k_is)
      (case Wnn => k_is)
      (case Wny => k_is)
      (case Wne => k_is)
      (case Wob => k_is)
      (case WiC => k_is)
      (case WtC => k_is)
      (case Wha => k_is)
      (case Whn => k_is)
      (case Whtk => k_is)
      (case Whm => k_is)
      (case Wa0 => k_is)
      (case Wi0 => k_is)
      (case Wl0 => k_is)
      (case Wc0 => k_is)
      (case Wk0 => k_is)
    obtain ⟨fk, fdk, dsk, Fk, gk, kk, bk, bk2, vk⟩ := by
      refine' Ts.cheapestFn KX G ?Va ?Vl ?Vc ?Vk ?Vhk ?VlT ?VvT
      (case Va => k_is)
      (case Vl => k_is)
      (case Vc => k_is)
      (case Vk => k_is)
      (case Vhk => rfl)
      (case VlT => k_is)
      (case VvT => rfl)
    obtain ⟨fh, fdh, dsh, Fh, gh, kh, bh, bh2, vh⟩ := by
      refine' Ts.how_manyFn KX G ?Ua ?Ul ?Uc ?Uk ?Uhk ?UlT ?UvT
      (case Ua => k_is)
      (case Ul => k_is)
      (case Uc => k_is)
      (case Uk => k_is)
      (case Uhk => rfl)
      (case UlT => k_is)
      (case UvT => rfl)
    have e := hmg.symm.trans Dlaw.g
    cases e
    refine Ts.lawAt hG0 hN0 hC0 hG1 hN1 hC1 (fun s v => hB1 s [v] rfl) fun base TB0 TB1 => ?_
    have Gc := Ts.ok_check_rows (P := PySem.Challenge.rw_turnsets_k44_known_wishes.prog) (w := w) (base := base) Dcheckrows Disrow Disname Disprice B TC
    have GT := Ts.ok_Tree_init FI Dcheckrows Gc B TC T
    have Gb := Ts.ok_check_box (P := PySem.Challenge.rw_turnsets_k44_known_wishes.prog) (w := w) (base := base) Dcheckbox M_contains B T
    have Gip := Ts.ok_is_place (P := PySem.Challenge.rw_turnsets_k44_known_wishes.prog) (w := w) (base := base) Displace M_contains B TC T
    have Gpl := Ts.ok_check_place Dcheckplace Displace Gip
    have GF := Ts.ok_Tree_folder M_folder.F Dcheckbox Gb T
    have GP := Ts.ok_Tree_price M_price.F Dcheckbox Gb T
    have GB := Ts.ok_Tree_below M_below.F Dcheckplace Gpl B T
    have GIL := Ts.ok_Locked_init (P := PySem.Challenge.rw_turnsets_k44_known_wishes.prog) (w := w) (base := base) (mg := mg) F_Locked TL.O TL.nb
    have GIB := Ts.ok_Barred_init (P := PySem.Challenge.rw_turnsets_k44_known_wishes.prog) (w := w) (base := base) (mg := mg) F_Barred TE.B.O TE.B.nb TE.o
    have Gvo := Ts.ok_values_of Dvaluesof TC T M_below GB M_folder GF
    have Xl := Ts.ok_check_turnsX Dcheckturns Dcheckbox Gb T M_price GP TL i_Locked t_Locked GIL b_Locked
    have XM := Ts.ok_M_initX (CM := CM) FM B TC T M Dcheckturns Xl Dvaluesof Gvo M_below GB
    have GM := Ts.calm_init XM
    have Gwv := Ts.ok_with Dwithvalues TC T M MM bM GM M_below GB M_folder GF
    have Gcw := Ts.ok_check_wish Dcheckwish B Displace Gip
    have Geo := Ts.ok_ends_of Dendsof B TC Dcheckwish Gcw
    have Gab := Ts.ok_above Dabovelocked TC T M_price GP M_folder GF
    have Xba := Ts.ok_barred Dcheckbarred Dabovelocked Gab TE.B i_Barred t_Barred GIB b_Barred
    have Xoe := Ts.ok_open_ends Dopenends TC Dendsof Geo Dcheckbarred Xba TE.B i_Barred t_Barred GIB b_Barred
    have Gen := Ts.ok_endless Dendless TC T hSum M_below GB M_price GP
    have Gst := Ts.ok_step_prices Dstepprices TC T Dendless Gen M_below GB M_price GP
    have Gch := Ts.ok_choices Dchoices TC T TU hSum hMin Dendless Gen Dstepprices Gst M_below GB M_folder GF
    have Gfa := Ts.ok_fav Dfavoured TC T Dstepprices Gst Dwithvalues Gwv M_below GB M_folder GF
    have Gsr := Ts.ok_shorter (P := PySem.Challenge.rw_turnsets_k44_known_wishes.prog) (w := w) (base := base) Dshorter
    have Gpd := Ts.ok_paired Dpaired hMin Dshorter Gsr
    have Glt := Ts.ok_let (P := PySem.Challenge.rw_turnsets_k44_known_wishes.prog) (w := w) (base := base) Dletthrough hMin
    have Gwb := Ts.ok_ways Dwaysbetween TC T TU Dendless Gen Dstepprices Gst Dpaired Gpd Dletthrough Glt M_below GB M_folder GF
    have GHi := Ts.ok_Ch_init (P := PySem.Challenge.rw_turnsets_k44_known_wishes.prog) (w := w) (base := base) (mg := mg) FH XH
    have Xch := Ts.ok_cheapest Fk TC hMin Dopenends Xoe Dchoices Gch Dfavoured Gfa Dwaysbetween Gwb XH MH bH GHi
    have Xh := Ts.ok_how Fh TC TU hMin hSum Dopenends Xoe Dchoices Gch
    have Gd := Ts.ok_draw (P := PySem.Challenge.rw_turnsets_k44_known_wishes.prog) (w := w) (base := base) DLdraw B
    have Gp := Ts.ok_pick (P := PySem.Challenge.rw_turnsets_k44_known_wishes.prog) (w := w) (base := base) DLpick DLdraw B
    have Gn := Ts.ok_name (P := PySem.Challenge.rw_turnsets_k44_known_wishes.prog) (w := w) (base := base) DLname DLpick DLdraw B
    have Gcn := Ts.ok_Lchain DLchainrows B DLdraw Gd
    have Gcu := Ts.ok_Lcut (P := PySem.Challenge.rw_turnsets_k44_known_wishes.prog) (w := w) (base := base) (C := C) DLiscut hMin M XH
    have Gcr := Ts.ok_Lcr Dcr B T hSo DLasked TE TB0 (.head _) (Ts.uniq0 hne0_1) DLdraw Gd DLchainrows Gcn DLiscut Gcu gk kk bk Xch MT bI GT
    have Gex := Ts.ok_Lex DLexampleright B T M XH DLdraw Gd DLname Gn gh kh bh bh2 vh Xh gk kk bk bk2 vk Xch MT bI GT
    exact Ts.ok_law Dlaw B T M XH hMin DLasked TE TB1 (.tail _ (.head _)) (Ts.uniq1 hne0_1) DLstream DLdraw Gd DLexampleright Gex Dcr Gcr gh kh bh Xh gk kk bk bk2 vk Xch MT bI GT
